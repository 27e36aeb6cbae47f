import PyProof.Rows.All
import HandS.ForMost
import HandS.IsInst
import HandS.Wide
import HandS.TupMul
import HandS.Zip
import HandS.Style
import KE.GoesMore
import KE.GoesZip
import KE.GoesEnum
import HandS.Property
import HandS.MakeKwOnly
import HandS.FStr
import OpenK.KOps
import HandS.Conv
import HandS.TupAny
import PyProof.TupleOfSeq
import PyProof.InstEq
import KE.KFmtOwn
import KE.KRevSl
import HandS.ListItems
import HandS.More
import HandS.SortRule
import HandS.WordsDict
import HandS.Steps
import HandS.Deep
import HandS.WideBits
import HandS.Gcd
import PySem.Challenge.RW_likestreets_k16_whole_divisors_of_minors
set_option Elab.async false
set_option linter.all false
set_option maxRecDepth 100000
set_option maxHeartbeats 8000000
namespace Lk
open PySem PySem.Spec PyProof.Rows L2

/-! ### a def that may be called where nothing is being shown (so that repr of a list is known) -/
structure GOk (P : Program) (w : World) (K : PySem.W.Frag) (mg : Str → Option Value) (base : Heap) (k : Nat) (f : Addr) (fd : FuncData) (ps : List Str) (sp : Sp) : Prop where
  len : ∀ vs H Q E, sp vs H Q E → vs.length = ps.length
  go : ∀ (A : Around) (out : List Env) (s : Shared) (H : Hp) (ar : Args) (us : List Value) (vs : List V) (Q : VK) (E : XK),
    A.guards = some [] → Room k A → Env0 P w K mg base A out s H → BindsTo s fd ar (ps.zip us) → Vals vs us → sp vs H Q E →
    codeAny (model P w) A (.call (.ref f) ar) (CR CX0 out P w H s Q E) s

section
variable {P : Program} {w : World} {K : PySem.W.Frag} {mg : Str → Option Value} {base : Heap} {k : Nat} {f : Addr} {fd : FuncData} {ps : List Str} {sp : Sp}
theorem GOk.of (F : FnOk P w K mg base CX0 k f fd ps sp) : GOk P w K mg base k f fd ps sp :=
  ⟨F.len, fun A out s H ar us vs Q E _ hr e b v h => F.run A out s H ar us vs Q E hr e b v h⟩
theorem GOk.mono {j : Nat} (F : GOk P w K mg base j f fd ps sp) (h : j ≤ k) : GOk P w K mg base k f fd ps sp :=
  ⟨F.len, fun A out s H ar us vs Q E g hr => F.go A out s H ar us vs Q E g (hr.mono h)⟩
theorem guards_deeper (A : Around) (env : Env) : (A.deeper env).guards = A.guards := rfl

/-- a def of the text, walked where nothing is being shown -/
theorem gok_of {x qual : Str} {st : Stmt} {N : List Str} (F : Fun K x qual st f fd) (S : FnScope N ps (defScope st)) (len : ∀ vs H Q E, sp vs H Q E → vs.length = ps.length)
    (hb : ∀ (cdv : Value) (A : Around) (out : List Env) (s : Shared) (H : Hp) (vs : List V) (Q : VK) (E : XK),
      A.guards = some [] → Room k (A.deeper (envOfC qual (defScope st) s.heap.objs.size f cdv)) → sp vs H Q E →
      ∃ t, PSs (cxOf CX0 P w K mg base N qual (defScope st) f cdv A out s H E).nox (defBody st) t ∧ t { nx := fun _ H' => Q .non H', rt := Q } (start N vs) H) :
    GOk P w K mg base (k + 1) f fd ps sp := by
  obtain ⟨oc, od, kV, doc, pm, an, cdv, ct, osl, rfl, lk, hcd⟩ := F.ex
  refine ⟨len, ?_⟩
  intro A out s H ar us vs Q E hg hr e0 hbd rv hsp
  have hl := len _ _ _ _ hsp
  have old : ∀ b o, base.get? b = some o → s.heap.get? b = some o := fun b o e => (e0.bs b o e).1
  have hk : ∀ y ∈ ps.zip us, (defScope st).names.lookup y.1 = some .local ∨
      ((defScope st).names.lookup y.1 = some .cell ∧ ((cellsFrom (s.heap.objs.size + 1) (defScope st).names []).lookup y.1).isSome = true) := by
    intro y hy
    rcases S.par y.1 (List.of_mem_zip (a := y.1) (b := y.2) hy).1 with q | q
    · exact Or.inl q
    · exact Or.inr ⟨q, PySem.W.cellsFrom_some _ _ _ (Or.inl q)⟩
  refine codeAny_call_function hr.depth ((e0.mod.kin.keeps old) _ _ lk) rfl S.co S.gen rfl
    (PySem.W.codeRec_of (e0.mod.kin.keeps old) hcd) (hbd _ _ _ _ (wpAny_newFunctionEnv_cells S.kind hk fun env he s1 x => ?_))
  cases he
  refine ⟨(e0.mod.nolimit.keeps old).keeps x.toInCall.keep, codeAny_func ?_⟩
  obtain ⟨t, ht, hq⟩ := hb cdv A out s H vs Q E hg (hr.deeper _) hsp
  have J : Inv (cxOf CX0 P w K mg base N qual (defScope st) f cdv A out s H E) [] (start N vs) H s1 := inv_start S hr.hd e0 hl rv x
  refine wpAny_mono (ht.nox.run [] s1 (start N vs) H _ J hq) ?_ (fun _ _ z => z)
  intro fl s' hs
  cases fl with
  | next =>
    obtain ⟨σ', H', J', q⟩ := hs
    exact ⟨V.non, H', J'.os, J'.bare, J'.base, J'.hok, rfl, q⟩
  | ret u =>
    obtain ⟨v, σ', H', J', r', q⟩ := hs
    exact ⟨v, H', J'.os, J'.bare, J'.base, J'.hok, r', q⟩
  | brk => exact hs.elim fun _ z => z.elim fun _ z => z.2.elim
  | cont => exact hs.elim fun _ z => z.elim fun _ z => z.2.elim
end

section
variable {X : Cx} {k : Nat} {f : Addr} {fd : FuncData} {ps : List Str} {sp : Sp} {dvs : List V} {ds : List Value} {x : Str} {p pos : Pos} {e : Expr} {es : List Expr} {t : TA}
theorem run_g {pins : List (Addr × Obj)} {σ : L2.St} {H : Hp} {s : Shared} {Q : VK} {us : List Value} {vs : List V} (F : GOk X.prog X.w X.K X.mg X.base k f fd ps sp) (hg : X.A.guards = some [])
    (hr : Room k X.A) (hb : Binds X.K fd ps ds) (hd : Vals dvs ds) (I : Inv X pins σ H s) (r : Vals vs us) (h : sp (vs ++ dvs) H Q E0) :
    wpAny (model X.prog X.w) X.A (call (.ref f) us) (EP X pins σ Q) X.xe s := by
  have r2 := r.append hd
  have hl := r2.length.symm.trans (F.len _ _ _ _ h)
  refine wpAny_call (codeAny_mono (F.go X.A X.stack s H ⟨us, []⟩ (us ++ ds) (vs ++ dvs) Q E0 hg hr I.env0 (hb s us I.kIn hl) r2 h) ?_)
  intro r s' hq
  match r, hq with
  | .error _, hq => exact hq.elim
  | .ok (.ret u), hq => exact I.after hq
  | .ok .next, hq => exact hq.elim
  | .ok .brk, hq => exact hq.elim
  | .ok .cont, hq => exact hq.elim
/-- f(e, ..) -/
theorem pe_callG (F : GOk X.prog X.w X.K X.mg X.base k f fd ps sp) (hg : X.A.guards = some []) (hr : Room k X.A) (gl : Gl X x) (hm : X.mg x = some (.ref f)) (hk : PySem.W.keepIn X.K (.ref f) = true)
    (hb : Binds X.K fd ps ds) (hd : Vals dvs ds) (ha : PA X (e :: es) t) (hdb : (x == ("__debug__" : Str)) = false := by decide)
    (he : starEach (e :: es) X.env = (false, eval e X.env) :: starEach es X.env := by rfl) (hpl : (backTo pos (starEach es X.env)).any (·.1) = false := by rfl) :
    PE X (.Call (.Name x p) (e :: es) [] pos) (tCall sp dvs E0 t) :=
  ⟨fun pins s σ H Q I h => wpAny_Call_Name_kw (ld_glob I gl hm (PySem.W.callWith_K (h₀ := X.base) I.ok.mod.kin hk
    (thn (ha.run pos pins s σ H _ I h) fun us s1 ⟨vs, H1, I1, r, q⟩ => ⟨I1.kIn, run_g F hg hr hb hd I1 r q⟩) he hpl) hdb)⟩
/-- values in another sequence -/
def perm {α : Type} (is : List Nat) (ws : List α) : List α := is.filterMap fun i => ws[i]?
theorem Vals.perm {zs : List V} {ws : List Value} (r : Vals zs ws) : ∀ is : List Nat, Vals (Lk.perm is zs) (Lk.perm is ws)
  | [] => .nil
  | i :: is => by
    unfold Lk.perm
    rw [List.filterMap_cons, List.filterMap_cons]
    cases e : zs[i]? with
    | none => rw [r.none_of e]; exact Vals.perm r is
    | some x =>
      obtain ⟨u, h1, h2⟩ := r.get e
      rw [h1]
      exact .cons h2 (Vals.perm r is)
/-- f(k = v, ..): keywords alone, in any sequence; is: where each parameter's value stands among them -/
def tKey (sp : Sp) (is : List Nat) (n : Nat) (tk : TA) : TE := fun σ H Q => tk σ H fun zs H1 => zs.length = n ∧ sp (perm is zs) H1 Q E0
theorem pe_callKG {ks : List Str} {is : List Nat} {kws : List Keyword} {tk : TA} (F : GOk X.prog X.w X.K X.mg X.base k f fd ps sp) (hg : X.A.guards = some []) (hr : Room k X.A) (gl : Gl X x) (hm : X.mg x = some (.ref f))
    (hk : PySem.W.keepIn X.K (.ref f) = true) (hb : ∀ (s : Shared) (ws : List Value), ws.length = ks.length → BindsTo s fd ⟨[], ks.zip ws⟩ (ps.zip (perm is ws))) (hkw : PK X kws tk)
    (hall : (backToKw pos (keywordEach kws X.env)).all (·.1.isSome) = true := by rfl) (hks : (backToKw pos (keywordEach kws X.env)).filterMap (·.1) = ks := by rfl)
    (hdb : (x == ("__debug__" : Str)) = false := by decide)
    (hpl : ((backTo pos (starEach [] X.env)).any (·.1) || (backToKw pos (keywordEach kws X.env)).any (·.1.isNone)) = false := by rfl) :
    PE X (.Call (.Name x p) [] kws pos) (tKey sp is ks.length tk) := by
  refine ⟨fun pins s σ H Q I h => wpAny_Call_Name_kw (ld_glob I gl hm (PySem.W.callWith_KW0 (h₀ := X.base) I.ok.mod.kin hk hall
    (thn (hkw.run pos pins s σ H _ I h) fun ws s2 ⟨zs, H2, I2, rz, l1, q2⟩ => ⟨I2.kIn, ?_⟩) hpl) hdb)⟩
  rw [hks]
  have r2 := Vals.perm rz is
  have hl := r2.length.symm.trans (F.len _ _ _ _ q2)
  refine wpAny_call (codeAny_mono (F.go X.A X.stack s2 H2 ⟨[], ks.zip ws⟩ (perm is ws) (perm is zs) Q E0 hg hr I2.env0 (hb s2 ws (rz.length.symm.trans l1)) r2 q2) ?_)
  intro r s' hq
  match r, hq with
  | .error _, hq => exact hq.elim
  | .ok (.ret u), hq => exact I2.after hq
  | .ok .next, hq => exact hq.elim
  | .ok .brk, hq => exact hq.elim
  | .ok .cont, hq => exact hq.elim
end
end Lk

namespace Lk
open PySem PySem.Spec L2

/-! ### data -/
/-- the written part, and the classes of objects by their number -/
structure Cl where
  K : PySem.W.Frag
  C : Nat → Addr
inductive D where
  | non | bl (b : Bool) | int (i : Int) | str (x : Str)
  | ty (n : String) | lst (xs : List D) | tup (xs : List D) | dk (ks : List Key) (ds : List D) | obj (c : Nat) (ns : List Str) (ds : List D) | adr (a : Addr) | scr (ns : List Int)

/-- a pot: a list of two counts that the text draws from -/
def IsPot (H : Hp) (a : Addr) : Prop := ∃ x y : Int, H a = some (.lst [.int x, .int y]) ∧ 0 ≤ x ∧ 0 ≤ y ∧ y < 2147483648

mutual
inductive At (cls : Cl) (N : Addr → Prop) (H : Hp) : V → D → Prop where
  | non : At cls N H .non .non
  | bl (b : Bool) : At cls N H (.bl b) (.bl b)
  | int (i : Int) : At cls N H (.int i) (.int i)
  | str (x : Str) : At cls N H (.str x) (.str x)
  | ty (n : String) : At cls N H (.ty n) (.ty n)
  | lst {a : Addr} {vs : List V} {ds : List D} : ¬ N a → H a = some (.lst vs) → AtAll cls N H vs ds → At cls N H (.ref a) (.lst ds)
  | tup {a : Addr} {vs : List V} {ds : List D} : ¬ N a → H a = some (.tup vs) → AtAll cls N H vs ds → At cls N H (.ref a) (.tup ds)
  | dk {a : Addr} {ks : List Key} {vs : List V} {ds : List D} : ¬ N a → H a = some (.dK (ks.zip vs)) → ks.length = vs.length → AtAll cls N H vs ds → At cls N H (.ref a) (.dk ks ds)
  | obj {a dx : Addr} {c : Nat} {ns : List Str} {vs : List V} {ds : List D} : ¬ N a → H a = some (.ins (cls.C c) dx (ns.zip vs)) → ns.length = vs.length → AtAll cls N H vs ds → At cls N H (.ref a) (.obj c ns ds)
  | adr (a : Addr) : At cls N H (.ref a) (.adr a)
  /-- the script -/
  | scr {a : Addr} {ns : List Int} : ¬ N a → Rd H a (.lst (ns.map V.int)) → At cls N H (.ref a) (.scr ns)
  | scrK {a : Addr} {ns : List Int} : (∀ H', SqL cls.K H' a (ns.map V.int)) → At cls N H (.ref a) (.scr ns)
inductive AtAll (cls : Cl) (N : Addr → Prop) (H : Hp) : List V → List D → Prop where
  | nil : AtAll cls N H [] []
  | cons {v : V} {vs : List V} {d : D} {ds : List D} : At cls N H v d → AtAll cls N H vs ds → AtAll cls N H (v :: vs) (d :: ds)
end

/-- the heap goes on: all stands but the pots, and these stay pots -/
structure Go (p : Addr → Prop) (H H' : Hp) : Prop where
  ext : ∀ a o, ¬ p a → H a = some o → H' a = some o
  pot : ∀ a, p a → IsPot H a → IsPot H' a
theorem Go.refl {p : Addr → Prop} (H : Hp) : Go p H H := ⟨fun _ _ _ h => h, fun _ _ h => h⟩
theorem Go.trans {p : Addr → Prop} {H H1 H2 : Hp} (a : Go p H H1) (b : Go p H1 H2) : Go p H H2 :=
  ⟨fun x o n h => b.ext x o n (a.ext x o n h), fun x n h => b.pot x n (a.pot x n h)⟩
theorem Go.new {p : Addr → Prop} {H : Hp} {a : Addr} {o : HO} (h : H a = none) : Go p H (upd H a o) :=
  ⟨fun x u _ e => by rw [upd_ne (ne_of_none e h)]; exact e, fun x _ ⟨i, j, e, q⟩ => ⟨i, j, by rw [upd_ne (ne_of_none e h)]; exact e, q⟩⟩

theorem rd_mono {H H' : Hp} {a : Addr} {u : HO} (e : ∀ o, H a = some o → H' a = some o) (h : Rd H a u) : Rd H' a u := by
  rcases h with h | ⟨o, h⟩
  · exact .inl (e _ h)
  · exact .inr ⟨o, e _ h⟩
theorem rd_some {H : Hp} {a : Addr} {u : HO} (h : Rd H a u) : H a ≠ none := by
  rcases h with h | ⟨o, h⟩ <;> (rw [h]; exact fun z => nomatch z)

section
variable {cls : Cl} {N N' : Addr → Prop} {H H' : Hp}
mutual
/-- what stands outside of N and stays is the same data -/
theorem At.keep (hN : ∀ a, H a ≠ none → ¬ N a → ¬ N' a) (hk : ∀ a o, ¬ N a → H a = some o → H' a = some o) : ∀ {d : D} {v : V}, At cls N H v d → At cls N' H' v d
  | .non, _, .non => .non
  | .bl _, _, .bl b => .bl b
  | .int _, _, .int i => .int i
  | .str _, _, .str x => .str x
  | .ty _, _, .ty n => .ty n
  | .lst _, _, .lst n r h => .lst (hN _ (by rw [r]; exact fun z => nomatch z) n) (hk _ _ n r) (AtAll.keep hN hk h)
  | .tup _, _, .tup n r h => .tup (hN _ (by rw [r]; exact fun z => nomatch z) n) (hk _ _ n r) (AtAll.keep hN hk h)
  | .dk _ _, _, .dk n r l h => .dk (hN _ (by rw [r]; exact fun z => nomatch z) n) (hk _ _ n r) l (AtAll.keep hN hk h)
  | .obj _ _ _, _, .obj n r l h => .obj (hN _ (by rw [r]; exact fun z => nomatch z) n) (hk _ _ n r) l (AtAll.keep hN hk h)
  | .adr _, _, .adr a => .adr a
  | .scr _, _, .scr n r => .scr (hN _ (rd_some r) n) (rd_mono (fun o => hk _ o n) r)
  | .scr _, _, .scrK h => .scrK h
theorem AtAll.keep (hN : ∀ a, H a ≠ none → ¬ N a → ¬ N' a) (hk : ∀ a o, ¬ N a → H a = some o → H' a = some o) : ∀ {ds : List D} {vs : List V}, AtAll cls N H vs ds → AtAll cls N' H' vs ds
  | [], _, .nil => .nil
  | _ :: _, _, .cons h t => .cons (At.keep hN hk h) (AtAll.keep hN hk t)
end
end

/-- what a state must hold -/
structure Wf (p N : Addr → Prop) (H : Hp) : Prop where
  sub : ∀ a, p a → N a
  dom : ∀ a, N a → H a ≠ none
  pot : ∀ a, p a → IsPot H a
theorem IsPot.some {H : Hp} {a : Addr} (h : IsPot H a) : H a ≠ none := by
  obtain ⟨x, y, e, _⟩ := h
  rw [e]; exact fun z => nomatch z
theorem some_of {H : Hp} {a : Addr} (h : H a ≠ none) : ∃ o, H a = some o := by
  cases e : H a with
  | none => exact absurd e h
  | some o => exact ⟨o, rfl⟩
section
variable {cls : Cl} {p N N' : Addr → Prop} {H H' : Hp} {v : V} {d : D} {vs : List V} {ds : List D}
theorem Wf.mono (W : Wf p N H) (g : Go p H H') : Wf p N H' where
  sub := W.sub
  dom := fun a n => by
    by_cases hp : p a
    · exact (g.pot a hp (W.pot a hp)).some
    · obtain ⟨o, e⟩ := some_of (W.dom a n)
      rw [g.ext a o hp e]
      exact fun z => nomatch z
  pot := fun a hp => g.pot a hp (W.pot a hp)
theorem At.mono (h : At cls N H v d) (sub : ∀ a, p a → N a) (g : Go p H H') : At cls N H' v d := h.keep (fun _ _ n => n) fun a o n e => g.ext a o (fun z => n (sub a z)) e
theorem AtAll.mono (h : AtAll cls N H vs ds) (sub : ∀ a, p a → N a) (g : Go p H H') : AtAll cls N H' vs ds := h.keep (fun _ _ n => n) fun a o n e => g.ext a o (fun z => n (sub a z)) e
/-- N lesser: the data are the same -/
theorem At.less (h : At cls N H v d) (hs : ∀ a, N' a → N a) : At cls N' H v d := h.keep (fun a _ n z => n (hs a z)) fun _ _ _ e => e
theorem AtAll.less (h : AtAll cls N H vs ds) (hs : ∀ a, N' a → N a) : AtAll cls N' H vs ds := h.keep (fun a _ n z => n (hs a z)) fun _ _ _ e => e
theorem AtAll.length : ∀ {vs : List V} {ds : List D}, AtAll cls N H vs ds → vs.length = ds.length
  | _, [], .nil => rfl
  | _, _ :: _, .cons _ t => congrArg Nat.succ (AtAll.length t)
theorem AtAll.get : ∀ {vs : List V} {ds : List D} {i : Nat} {d : D}, AtAll cls N H vs ds → ds[i]? = some d → ∃ v, vs[i]? = some v ∧ At cls N H v d
  | _, [], _, _, .nil, e => nomatch e
  | _, x :: _, 0, d, .cons a _, e => by
    have e : some x = some d := e
    cases e
    exact ⟨_, rfl, a⟩
  | _, _ :: _, i + 1, d, .cons _ t, e => AtAll.get (i := i) t e
theorem AtAll.append : ∀ {vs ws : List V} {ds es : List D}, AtAll cls N H vs ds → AtAll cls N H ws es → AtAll cls N H (vs ++ ws) (ds ++ es)
  | _, _, [], _, .nil, k => k
  | _, _, _ :: _, _, .cons a t, k => .cons a (AtAll.append t k)
theorem AtAll.set : ∀ {vs : List V} {ds : List D} {i : Nat}, AtAll cls N H vs ds → At cls N H v d → AtAll cls N H (vs.set i v) (ds.set i d)
  | _, [], _, .nil, _ => .nil
  | _, _ :: _, 0, .cons _ t, a => .cons a t
  | _, _ :: _, _ + 1, .cons b t, a => .cons b (AtAll.set t a)
theorem AtAll.take : ∀ {vs : List V} {ds : List D} (n : Nat), AtAll cls N H vs ds → AtAll cls N H (vs.take n) (ds.take n)
  | _, [], n, .nil => by rw [List.take_nil, List.take_nil]; exact .nil
  | _, _ :: _, 0, .cons _ _ => .nil
  | _, _ :: _, n + 1, .cons b t => .cons b (AtAll.take n t)
theorem AtAll.drop : ∀ {vs : List V} {ds : List D} (n : Nat), AtAll cls N H vs ds → AtAll cls N H (vs.drop n) (ds.drop n)
  | _, [], n, .nil => by rw [List.drop_nil, List.drop_nil]; exact .nil
  | _, _ :: _, 0, .cons b t => .cons b t
  | _, _ :: _, n + 1, .cons _ t => AtAll.drop n t
theorem atAll_ints : ∀ is : List Int, AtAll cls N H (is.map V.int) (is.map D.int)
  | [] => .nil
  | i :: is => .cons (.int i) (atAll_ints is)
theorem AtAll.ints : ∀ {is : List Int} {vs : List V}, AtAll cls N H vs (is.map D.int) → vs = is.map V.int
  | [], _, .nil => rfl
  | i :: is, _, .cons (.int _) t => by rw [AtAll.ints t]; rfl
theorem AtAll.bls : ∀ {bs : List Bool} {vs : List V}, AtAll cls N H vs (bs.map D.bl) → vs = bs.map V.bl
  | [], _, .nil => rfl
  | i :: is, _, .cons (.bl _) t => by rw [AtAll.bls t]; rfl
end

/-! ### a state: the names' values -/
/-- things of a def's own that are no lists: a dict of whole numbers; a tuple of a value and a list -/
inductive Con where
  | tbl (kvs : List (Int × Int))
  | box (s : D) (xs : List D)
inductive Slot where
  /-- data that does not change -/
  | dat (d : D)
  /-- a list of the def's own that it changes -/
  | own (xs : List D)
  /-- another thing of its own -/
  | mut (c : Con)
def ConAt (cls : Cl) (M : Addr → Prop) (H : Hp) (v : V) (a : Addr) : Con → Prop
  | .tbl kvs => v = .ref a ∧ H a = some (.dK (kvs.map fun q => (Sum.inl q.1, V.int q.2)))
  | .box s xs => ∃ t v0 vs, v = .ref t ∧ ¬ M t ∧ H t = some (.tup [v0, .ref a]) ∧ At cls M H v0 s ∧ H a = some (.lst vs) ∧ AtAll cls M H vs xs
theorem ConAt.ne {cls : Cl} {M : Addr → Prop} {H : Hp} {v : V} {a : Addr} {c : Con} (h : ConAt cls M H v a c) : H a ≠ none := by
  cases c with
  | tbl kvs => rw [h.2]; exact fun z => nomatch z
  | box s xs =>
    obtain ⟨t, v0, vs, _, _, _, _, e, _⟩ := h
    rw [e]; exact fun z => nomatch z
theorem ConAt.keep {cls : Cl} {M M' : Addr → Prop} {H H' : Hp} {v : V} {a : Addr} {c : Con} (h : ConAt cls M H v a c) (hN : ∀ b, H b ≠ none → ¬ M b → ¬ M' b) (hk : ∀ b o, ¬ M b → H b = some o → H' b = some o) (ha : ∀ o, H a = some o → H' a = some o) : ConAt cls M' H' v a c := by
  cases c with
  | tbl kvs => exact ⟨h.1, ha _ h.2⟩
  | box s xs =>
    obtain ⟨t, v0, vs, e1, n, e2, a0, e3, aa⟩ := h
    exact ⟨t, v0, vs, e1, hN _ (by rw [e2]; exact fun z => nomatch z) n, hk _ _ n e2, a0.keep hN hk, ha _ e3, aa.keep hN hk⟩
abbrev Sts := List (Option Slot)
def hid (N : Addr → Prop) (ad : Nat → Addr) (ds : Sts) : Addr → Prop := fun a => N a ∨ ∃ (i : Nat) (xs : List D), ds[i]? = some (some (Slot.own xs)) ∧ ad i = a

structure Sta (cls : Cl) (p : Addr → Prop) (pn : List (V × D)) (N : Addr → Prop) (H0 : Hp) (ad : Nat → Addr) (H : Hp) (σ : L2.St) (ds : Sts) : Prop where
  wf : Wf p N H
  go : Go p H0 H
  len : σ.length = ds.length
  dat : ∀ (i : Nat) (d : D), ds[i]? = some (some (Slot.dat d)) → ∃ v, σ[i]? = some (some v) ∧ At cls (hid N ad ds) H v d
  own : ∀ (i : Nat) (xs : List D), ds[i]? = some (some (Slot.own xs)) → σ[i]? = some (some (.ref (ad i))) ∧ ¬ N (ad i) ∧ H0 (ad i) = none ∧ ∃ vs, H (ad i) = some (.lst vs) ∧ AtAll cls (hid N ad ds) H vs xs
  pin : ∀ q ∈ pn, At cls (hid N ad ds) H q.1 q.2
  inj : ∀ (i j : Nat) (xs ys : List D), ds[i]? = some (some (Slot.own xs)) → ds[j]? = some (some (Slot.own ys)) → ad i = ad j → i = j
  mt : ∀ (i : Nat) (c : Con), ds[i]? = some (some (Slot.mut c)) → ∃ v, σ[i]? = some (some v) ∧ N (ad i) ∧ ¬ p (ad i) ∧ H0 (ad i) = none ∧ ConAt cls (hid N ad ds) H v (ad i) c
  minj : ∀ (i j : Nat) (c c' : Con), ds[i]? = some (some (Slot.mut c)) → ds[j]? = some (some (Slot.mut c')) → ad i = ad j → i = j

section
variable {cls : Cl} {p N : Addr → Prop} {pn : List (V × D)} {H0 H H' : Hp} {ad : Nat → Addr} {σ : L2.St} {ds : Sts}
theorem Sta.hsub (E : Sta cls p pn N H0 ad H σ ds) : ∀ a, p a → hid N ad ds a := fun a h => .inl (E.wf.sub a h)
theorem Sta.hwf (E : Sta cls p pn N H0 ad H σ ds) : Wf p (hid N ad ds) H where
  sub := E.hsub
  dom := fun a h => by
    rcases h with h | ⟨i, xs, e, q⟩
    · exact E.wf.dom a h
    · obtain ⟨_, _, _, vs, h, _⟩ := E.own i xs e
      rw [← q, h]
      exact fun z => nomatch z
  pot := E.wf.pot
theorem Sta.mono (E : Sta cls p pn N H0 ad H σ ds) (g : Go p H H') : Sta cls p pn N H0 ad H' σ ds :=
  ⟨E.wf.mono g, E.go.trans g, E.len, fun i d e => let ⟨v, h1, h2⟩ := E.dat i d e; ⟨v, h1, h2.mono E.hsub g⟩,
    fun i xs e => let ⟨h1, h2, h3, vs, h4, h5⟩ := E.own i xs e; ⟨h1, h2, h3, vs, g.ext _ _ (fun z => h2 (E.wf.sub _ z)) h4, h5.mono E.hsub g⟩, fun q hq => (E.pin q hq).mono E.hsub g, E.inj,
    fun i c e => let ⟨v, h1, h2, h3, h4, h5⟩ := E.mt i c e; ⟨v, h1, h2, h3, h4, h5.keep (fun _ _ n => n) (fun a o n e => g.ext a o (fun z => n (E.hsub a z)) e) fun o e => g.ext _ o h3 e⟩, E.minj⟩
/-- a name is stored -/
theorem get_set {α : Type} {l : List α} {i j : Nat} {x y : α} (e : (l.set i x)[j]? = some y) : (i = j ∧ y = x ∧ i < l.length) ∨ (i ≠ j ∧ l[j]? = some y) := by
  rw [List.getElem?_set] at e
  split at e
  · split at e
    · cases e; exact .inl ⟨by assumption, rfl, by assumption⟩
    · cases e
  · exact .inr ⟨by assumption, e⟩
theorem hid_set {i : Nat} {d : D} : ∀ a, hid N ad (ds.set i (some (Slot.dat d))) a → hid N ad ds a := by
  intro a h
  rcases h with h | ⟨j, xs, e, q⟩
  · exact .inl h
  · rcases get_set e with ⟨_, z, _⟩ | ⟨_, e⟩
    · cases z
    · exact .inr ⟨j, xs, e, q⟩
theorem Sta.put {i : Nat} {v : V} {d : D} (E : Sta cls p pn N H0 ad H σ ds) (h : At cls (hid N ad ds) H v d) : Sta cls p pn N H0 ad H (σ.set i (some v)) (ds.set i (some (Slot.dat d))) := by
  refine ⟨E.wf, E.go, by rw [List.length_set, List.length_set]; exact E.len, fun j x e => ?_, fun j xs e => ?_, fun q hq => (E.pin q hq).less hid_set, fun a b xs ys e1 e2 q => ?_, fun j c e => ?_, fun a b c c' e1 e2 q => ?_⟩
  · rcases get_set e with ⟨rfl, z, hi⟩ | ⟨ne, e⟩
    · cases z
      exact ⟨v, by rw [List.getElem?_set_self (by rw [E.len]; exact hi)], h.less hid_set⟩
    · obtain ⟨w, h1, h2⟩ := E.dat j x e
      exact ⟨w, by rw [List.getElem?_set_ne ne]; exact h1, h2.less hid_set⟩
  · rcases get_set e with ⟨rfl, z, hi⟩ | ⟨ne, e⟩
    · cases z
    · obtain ⟨h1, h2, h3, vs, h4, h5⟩ := E.own j xs e
      exact ⟨by rw [List.getElem?_set_ne ne]; exact h1, h2, h3, vs, h4, h5.less hid_set⟩
  · rcases get_set e1 with ⟨_, z, _⟩ | ⟨_, e1⟩
    · cases z
    · rcases get_set e2 with ⟨_, z, _⟩ | ⟨_, e2⟩
      · cases z
      · exact E.inj a b xs ys e1 e2 q
  · rcases get_set e with ⟨_, z, _⟩ | ⟨ne, e⟩
    · cases z
    · obtain ⟨w, h1, h2, h3, h4, h5⟩ := E.mt j c e
      exact ⟨w, by rw [List.getElem?_set_ne ne]; exact h1, h2, h3, h4, h5.keep (fun b _ n z => n (hid_set b z)) (fun _ _ _ e => e) fun _ e => e⟩
  · rcases get_set e1 with ⟨_, z, _⟩ | ⟨_, e1⟩
    · cases z
    · rcases get_set e2 with ⟨_, z, _⟩ | ⟨_, e2⟩
      · cases z
      · exact E.minj a b c c' e1 e2 q
/-- names are wiped -/
def wipeD (ds : Sts) : List Nat → Sts
  | [] => ds
  | v :: vs => (wipeD ds vs).set v none
theorem hid_wipe1 {i : Nat} : ∀ a, hid N ad (ds.set i none) a → hid N ad ds a := by
  intro a h
  rcases h with h | ⟨j, xs, e, q⟩
  · exact .inl h
  · rcases get_set e with ⟨_, z, _⟩ | ⟨_, e⟩
    · cases z
    · exact .inr ⟨j, xs, e, q⟩
theorem Sta.wipe1 {i : Nat} {o : Option V} (E : Sta cls p pn N H0 ad H σ ds) : Sta cls p pn N H0 ad H (σ.set i o) (ds.set i none) := by
  refine ⟨E.wf, E.go, by rw [List.length_set, List.length_set]; exact E.len, fun j x e => ?_, fun j xs e => ?_, fun q hq => (E.pin q hq).less hid_wipe1, fun a b xs ys e1 e2 q => ?_, fun j c e => ?_, fun a b c c' e1 e2 q => ?_⟩
  · rcases get_set e with ⟨rfl, z, hi⟩ | ⟨ne, e⟩
    · cases z
    · obtain ⟨w, h1, h2⟩ := E.dat j x e
      exact ⟨w, by rw [List.getElem?_set_ne ne]; exact h1, h2.less hid_wipe1⟩
  · rcases get_set e with ⟨rfl, z, hi⟩ | ⟨ne, e⟩
    · cases z
    · obtain ⟨h1, h2, h3, vs, h4, h5⟩ := E.own j xs e
      exact ⟨by rw [List.getElem?_set_ne ne]; exact h1, h2, h3, vs, h4, h5.less hid_wipe1⟩
  · rcases get_set e1 with ⟨_, z, _⟩ | ⟨_, e1⟩
    · cases z
    · rcases get_set e2 with ⟨_, z, _⟩ | ⟨_, e2⟩
      · cases z
      · exact E.inj a b xs ys e1 e2 q
  · rcases get_set e with ⟨_, z, _⟩ | ⟨ne, e⟩
    · cases z
    · obtain ⟨w, h1, h2, h3, h4, h5⟩ := E.mt j c e
      exact ⟨w, by rw [List.getElem?_set_ne ne]; exact h1, h2, h3, h4, h5.keep (fun b _ n z => n (hid_wipe1 b z)) (fun _ _ _ e => e) fun _ e => e⟩
  · rcases get_set e1 with ⟨_, z, _⟩ | ⟨_, e1⟩
    · cases z
    · rcases get_set e2 with ⟨_, z, _⟩ | ⟨_, e2⟩
      · cases z
      · exact E.minj a b c c' e1 e2 q
theorem Sta.wipe (E : Sta cls p pn N H0 ad H σ ds) : ∀ vs : List Nat, Sta cls p pn N H0 ad H (L2.wipe σ vs) (wipeD ds vs)
  | [] => E
  | v :: vs => (E.wipe vs).wipe1
/-- an own list becomes data -/
theorem Sta.freeze {i : Nat} {xs : List D} (E : Sta cls p pn N H0 ad H σ ds) (e0 : ds[i]? = some (some (Slot.own xs))) : Sta cls p pn N H0 ad H σ (ds.set i (some (Slot.dat (D.lst xs)))) := by
  have hi : i < ds.length := by
    obtain ⟨h, _⟩ := List.getElem?_eq_some_iff.mp e0
    exact h
  obtain ⟨h1, h2, h3, vs, h4, h5⟩ := E.own i xs e0
  refine ⟨E.wf, E.go, by rw [List.length_set]; exact E.len, fun j x e => ?_, fun j ys e => ?_, fun q hq => (E.pin q hq).less hid_set, fun a b xs ys e1 e2 q => ?_, fun j c e => ?_, fun a b c c' e1 e2 q => ?_⟩
  · rcases get_set e with ⟨rfl, z, _⟩ | ⟨ne, e⟩
    · cases z
      refine ⟨_, h1, .lst (fun z => ?_) h4 (h5.less hid_set)⟩
      rcases z with z | ⟨j, ys, e, q⟩
      · exact h2 z
      · rcases get_set e with ⟨_, z, _⟩ | ⟨ne, e⟩
        · cases z
        · exact ne (E.inj j i ys xs e e0 q).symm
    · obtain ⟨w, k1, k2⟩ := E.dat j x e
      exact ⟨w, k1, k2.less hid_set⟩
  · rcases get_set e with ⟨rfl, z, _⟩ | ⟨ne, e⟩
    · cases z
    · obtain ⟨k1, k2, k3, ws, k4, k5⟩ := E.own j ys e
      exact ⟨k1, k2, k3, ws, k4, k5.less hid_set⟩
  · rcases get_set e1 with ⟨_, z, _⟩ | ⟨_, e1⟩
    · cases z
    · rcases get_set e2 with ⟨_, z, _⟩ | ⟨_, e2⟩
      · cases z
      · exact E.inj a b xs ys e1 e2 q
  · rcases get_set e with ⟨_, z, _⟩ | ⟨ne, e⟩
    · cases z
    · obtain ⟨w, h1, h2, h3, h4, h5⟩ := E.mt j c e
      exact ⟨w, h1, h2, h3, h4, h5.keep (fun b _ n z => n (hid_set b z)) (fun _ _ _ e => e) fun _ e => e⟩
  · rcases get_set e1 with ⟨_, z, _⟩ | ⟨_, e1⟩
    · cases z
    · rcases get_set e2 with ⟨_, z, _⟩ | ⟨_, e2⟩
      · cases z
      · exact E.minj a b c c' e1 e2 q
/-- a new own list -/
theorem Sta.fresh {i : Nat} {l : Addr} (E : Sta cls p pn N H0 ad H σ ds) (hl : H l = none) (hi : i < ds.length) :
    Sta cls p pn N H0 (fun j => if j = i then l else ad j) (upd H l (.lst [])) (σ.set i (some (.ref l))) (ds.set i (some (Slot.own []))) := by
  have g : Go p H (upd H l (.lst [])) := Go.new hl
  have E1 := E.mono g
  have nl : ∀ a, hid N ad ds a → a ≠ l := fun a h z => by
    subst z
    exact E.hwf.dom a h hl
  have hd : ∀ a, hid N (fun j => if j = i then l else ad j) (ds.set i (some (Slot.own []))) a → a = l ∨ hid N ad ds a := by
    intro a h
    rcases h with h | ⟨j, xs, e, q⟩
    · exact .inr (.inl h)
    · rcases get_set e with ⟨z, _, _⟩ | ⟨ne, e⟩
      · left
        rw [← q]
        simp only [z, if_true]
      · right
        refine .inr ⟨j, xs, e, ?_⟩
        simpa only [if_neg (Ne.symm ne)] using q
  have kp : ∀ {v : V} {d : D}, At cls (hid N ad ds) H v d → At cls (hid N (fun j => if j = i then l else ad j) (ds.set i (some (Slot.own [])))) (upd H l (.lst [])) v d := fun h =>
    h.keep (fun a hs n z => by
      rcases hd a z with z | z
      · exact hs (by rw [z]; exact hl)
      · exact n z) fun a o _ e => by rw [upd_ne (ne_of_none e hl)]; exact e
  have kpA : ∀ {v : List V} {d : List D}, AtAll cls (hid N ad ds) H v d → AtAll cls (hid N (fun j => if j = i then l else ad j) (ds.set i (some (Slot.own [])))) (upd H l (.lst [])) v d := fun h =>
    h.keep (fun a hs n z => by
      rcases hd a z with z | z
      · exact hs (by rw [z]; exact hl)
      · exact n z) fun a o _ e => by rw [upd_ne (ne_of_none e hl)]; exact e
  refine ⟨E1.wf, E1.go, by rw [List.length_set, List.length_set]; exact E.len, fun j x e => ?_, fun j xs e => ?_, fun q hq => kp (E.pin q hq), fun a b xs ys e1 e2 q => ?_, fun j c e => ?_, fun a b c c' e1 e2 q => ?_⟩
  · rcases get_set e with ⟨rfl, z, _⟩ | ⟨ne, e⟩
    · cases z
    · obtain ⟨w, h1, h2⟩ := E.dat j x e
      exact ⟨w, by rw [List.getElem?_set_ne ne]; exact h1, kp h2⟩
  · rcases get_set e with ⟨rfl, z, _⟩ | ⟨ne, e⟩
    · cases z
      simp only [if_true]
      refine ⟨by rw [List.getElem?_set_self (by rw [E.len]; exact hi)], fun z => E.wf.dom _ z hl, ?_, [], upd_same, .nil⟩
      cases q : H0 l with
      | none => rfl
      | some o =>
        by_cases hp : p l
        · exact absurd hl (E.wf.pot l hp).some
        · rw [E.go.ext l o hp q] at hl; cases hl
    · obtain ⟨h1, h2, h3, vs, h4, h5⟩ := E.own j xs e
      simp only [if_neg (Ne.symm ne)]
      exact ⟨by rw [List.getElem?_set_ne ne]; exact h1, h2, h3, vs, by rw [upd_ne (ne_of_none h4 hl)]; exact h4, kpA h5⟩
  · rcases get_set e1 with ⟨rfl, z, _⟩ | ⟨n1, e1⟩
    · rcases get_set e2 with ⟨rfl, _, _⟩ | ⟨n2, e2⟩
      · rfl
      · simp only [if_true, if_neg (Ne.symm n2)] at q
        obtain ⟨_, _, _, vs, h4, _⟩ := E.own b ys e2
        rw [← q, hl] at h4; cases h4
    · rcases get_set e2 with ⟨rfl, _, _⟩ | ⟨n2, e2⟩
      · simp only [if_true, if_neg (Ne.symm n1)] at q
        obtain ⟨_, _, _, vs, h4, _⟩ := E.own a xs e1
        rw [q, hl] at h4; cases h4
      · simp only [if_neg (Ne.symm n1), if_neg (Ne.symm n2)] at q
        exact E.inj a b xs ys e1 e2 q
  · rcases get_set e with ⟨_, z, _⟩ | ⟨ne, e⟩
    · cases z
    · obtain ⟨w, h1, h2, h3, h4, h5⟩ := E.mt j c e
      simp only [if_neg (Ne.symm ne)]
      exact ⟨w, by rw [List.getElem?_set_ne ne]; exact h1, h2, h3, h4, h5.keep (fun a hs n z => by
        rcases hd a z with z | z
        · exact hs (by rw [z]; exact hl)
        · exact n z) (fun a o _ e => by rw [upd_ne (ne_of_none e hl)]; exact e) fun o e => by rw [upd_ne (ne_of_none e hl)]; exact e⟩
  · rcases get_set e1 with ⟨_, z, _⟩ | ⟨n1, e1⟩
    · cases z
    · rcases get_set e2 with ⟨_, z, _⟩ | ⟨n2, e2⟩
      · cases z
      · simp only [if_neg (Ne.symm n1), if_neg (Ne.symm n2)] at q
        exact E.minj a b c c' e1 e2 q
/-- an own list is changed -/
theorem Sta.change {i : Nat} {xs ys : List D} {ws : List V} (E : Sta cls p pn N H0 ad H σ ds) (e0 : ds[i]? = some (some (Slot.own xs))) (h : AtAll cls (hid N ad ds) H ws ys) :
    Sta cls p pn N H0 ad (upd H (ad i) (.lst ws)) σ (ds.set i (some (Slot.own ys))) := by
  have hi : i < ds.length := (List.getElem?_eq_some_iff.mp e0).1
  obtain ⟨h1, h2, h3, vs, h4, h5⟩ := E.own i xs e0
  have hid2 : ∀ a, hid N ad (ds.set i (some (Slot.own ys))) a → hid N ad ds a := by
    intro a h
    rcases h with h | ⟨j, zs, e, q⟩
    · exact .inl h
    · rcases get_set e with ⟨rfl, _, _⟩ | ⟨_, e⟩
      · exact .inr ⟨i, xs, e0, q⟩
      · exact .inr ⟨j, zs, e, q⟩
  have hin : hid N ad ds (ad i) := .inr ⟨i, xs, e0, rfl⟩
  have kp : ∀ {v : V} {d : D}, At cls (hid N ad ds) H v d → At cls (hid N ad (ds.set i (some (Slot.own ys)))) (upd H (ad i) (.lst ws)) v d := fun k =>
    k.keep (fun a _ n z => n (hid2 a z)) fun a o n e => by rw [upd_ne (fun z => n (by rw [z]; exact hin))]; exact e
  have kpA : ∀ {v : List V} {d : List D}, AtAll cls (hid N ad ds) H v d → AtAll cls (hid N ad (ds.set i (some (Slot.own ys)))) (upd H (ad i) (.lst ws)) v d := fun k =>
    k.keep (fun a _ n z => n (hid2 a z)) fun a o n e => by rw [upd_ne (fun z => n (by rw [z]; exact hin))]; exact e
  have np : ∀ a, p a → a ≠ ad i := fun a hp z => h2 (by rw [← z]; exact E.wf.sub a hp)
  have pk : ∀ a, p a → IsPot H a → IsPot (upd H (ad i) (.lst ws)) a := fun a hp ⟨x, y, e, q⟩ => ⟨x, y, by rw [upd_ne (np a hp)]; exact e, q⟩
  refine ⟨⟨E.wf.sub, fun a n => ?_, fun a hp => pk a hp (E.wf.pot a hp)⟩, ⟨fun a o hp e => ?_, fun a hp q => pk a hp (E.go.pot a hp q)⟩, by rw [List.length_set]; exact E.len, fun j x e => ?_, fun j zs e => ?_, fun q hq => kp (E.pin q hq), fun a b us1 us2 e1 e2 q => ?_, fun j c e => ?_, fun a b c c' e1 e2 q => ?_⟩
  · rw [upd_ne (fun z => h2 (by rw [← z]; exact n))]
    exact E.wf.dom a n
  · rw [upd_ne (ne_of_none e h3)]
    exact E.go.ext a o hp e
  · rcases get_set e with ⟨rfl, z, _⟩ | ⟨ne, e⟩
    · cases z
    · obtain ⟨w, k1, k2⟩ := E.dat j x e
      exact ⟨w, k1, kp k2⟩
  · rcases get_set e with ⟨rfl, z, _⟩ | ⟨ne, e⟩
    · cases z
      exact ⟨h1, h2, h3, ws, upd_same, kpA h⟩
    · obtain ⟨k1, k2, k3, us, k4, k5⟩ := E.own j zs e
      exact ⟨k1, k2, k3, us, by rw [upd_ne (fun z => ne (E.inj i j xs zs e0 e z.symm))]; exact k4, kpA k5⟩
  · have fix : ∀ {c : Nat} {zs : List D}, (ds.set i (some (Slot.own ys)))[c]? = some (some (Slot.own zs)) → ∃ us, ds[c]? = some (some (Slot.own us)) := fun {c zs} e => by
      rcases get_set e with ⟨rfl, _, _⟩ | ⟨_, e⟩
      · exact ⟨xs, e0⟩
      · exact ⟨zs, e⟩
    obtain ⟨u1, k1⟩ := fix e1
    obtain ⟨u2, k2⟩ := fix e2
    exact E.inj a b u1 u2 k1 k2 q
  · rcases get_set e with ⟨_, z, _⟩ | ⟨ne, e⟩
    · cases z
    · obtain ⟨w, k1, k2, k3, k4, k5⟩ := E.mt j c e
      have nj : ad j ≠ ad i := fun z => h2 (by rw [← z]; exact k2)
      exact ⟨w, k1, k2, k3, k4, k5.keep (fun b _ n z => n (hid2 b z)) (fun b o n e => by rw [upd_ne (fun z => n (by rw [z]; exact hin))]; exact e) fun o e => by rw [upd_ne nj]; exact e⟩
  · rcases get_set e1 with ⟨_, z, _⟩ | ⟨_, e1⟩
    · cases z
    · rcases get_set e2 with ⟨_, z, _⟩ | ⟨_, e2⟩
      · cases z
      · exact E.minj a b c c' e1 e2 q
/-- one more thing is pinned -/
theorem Sta.pins (E : Sta cls p pn N H0 ad H σ ds) {q : List (V × D)} (h : ∀ x ∈ q, At cls (hid N ad ds) H x.1 x.2) : Sta cls p (q ++ pn) N H0 ad H σ ds :=
  ⟨E.wf, E.go, E.len, E.dat, E.own, fun x hx => (List.mem_append.mp hx).elim (h x) (E.pin x), E.inj, E.mt, E.minj⟩
theorem Sta.unpin {q : List (V × D)} (E : Sta cls p (q ++ pn) N H0 ad H σ ds) : Sta cls p pn N H0 ad H σ ds :=
  ⟨E.wf, E.go, E.len, E.dat, E.own, fun x hx => E.pin x (List.mem_append_right _ hx), E.inj, E.mt, E.minj⟩
/-- a new object that is to change by itself: it is put under N -/
theorem Sta.lay {l : Addr} {o : HO} (E : Sta cls p pn N H0 ad H σ ds) (hl : H l = none) : Sta cls p pn (fun a => N a ∨ a = l) H0 ad (upd H l o) σ ds := by
  have g : Go p H (upd H l o) := Go.new hl
  have nl : ∀ a, H a ≠ none → a ≠ l := fun a h z => h (by rw [z]; exact hl)
  have hd : ∀ a, H a ≠ none → ¬ hid N ad ds a → ¬ hid (fun a => N a ∨ a = l) ad ds a := fun a h n z => by
    rcases z with (z | z) | z
    · exact n (.inl z)
    · exact nl a h z
    · exact n (.inr z)
  have kk : ∀ a u, ¬ hid N ad ds a → H a = some u → upd H l o a = some u := fun a u _ e => by rw [upd_ne (ne_of_none e hl)]; exact e
  have W := E.wf.mono g
  refine ⟨⟨fun a h => .inl (W.sub a h), fun a h => ?_, W.pot⟩, E.go.trans g, E.len, fun i d e => ?_, fun i xs e => ?_, fun q hq => (E.pin q hq).keep hd kk, E.inj, fun i c e => ?_, E.minj⟩
  · rcases h with h | h
    · exact W.dom a h
    · rw [h, upd_same]; exact fun z => nomatch z
  · obtain ⟨v, h1, h2⟩ := E.dat i d e
    exact ⟨v, h1, h2.keep hd kk⟩
  · obtain ⟨h1, h2, h3, vs, h4, h5⟩ := E.own i xs e
    refine ⟨h1, fun z => ?_, h3, vs, by rw [upd_ne (ne_of_none h4 hl)]; exact h4, h5.keep hd kk⟩
    rcases z with z | z
    · exact h2 z
    · exact nl _ (by rw [h4]; exact fun z => nomatch z) z
  · obtain ⟨v, h1, h2, h3, h4, h5⟩ := E.mt i c e
    exact ⟨v, h1, .inl h2, h3, h4, h5.keep hd kk fun u e => by rw [upd_ne (ne_of_none e hl)]; exact e⟩
/-- what is under N and no pot changes as it likes -/
theorem Sta.turn {l : Addr} {o : HO} (E : Sta cls p pn N H0 ad H σ ds) (hN : N l) (hp : ¬ p l) (h0 : H0 l = none) (hm : ∀ (i : Nat) (c : Con), ds[i]? = some (some (Slot.mut c)) → ad i ≠ l) : Sta cls p pn N H0 ad (upd H l o) σ ds := by
  have kk : ∀ a u, ¬ hid N ad ds a → H a = some u → upd H l o a = some u := fun a u n e => by rw [upd_ne (fun z => n (by rw [z]; exact .inl hN))]; exact e
  have pk : ∀ a, p a → IsPot H a → IsPot (upd H l o) a := fun a h ⟨x, y, e, q⟩ => ⟨x, y, by rw [upd_ne (fun z => hp (by rw [← z]; exact h))]; exact e, q⟩
  refine ⟨⟨E.wf.sub, fun a h => ?_, fun a h => pk a h (E.wf.pot a h)⟩, ⟨fun a u n e => by rw [upd_ne (ne_of_none e h0)]; exact E.go.ext a u n e, fun a h q => pk a h (E.go.pot a h q)⟩, E.len, fun i d e => ?_, fun i xs e => ?_, fun q hq => (E.pin q hq).keep (fun _ _ n => n) kk, E.inj, fun i c e => ?_, E.minj⟩
  · by_cases z : a = l
    · rw [z, upd_same]; exact fun z => nomatch z
    · rw [upd_ne z]; exact E.wf.dom a h
  · obtain ⟨v, h1, h2⟩ := E.dat i d e
    exact ⟨v, h1, h2.keep (fun _ _ n => n) kk⟩
  · obtain ⟨h1, h2, h3, vs, h4, h5⟩ := E.own i xs e
    exact ⟨h1, h2, h3, vs, by rw [upd_ne (fun z => h2 (by rw [z]; exact hN))]; exact h4, h5.keep (fun _ _ n => n) kk⟩
  · obtain ⟨v, h1, h2, h3, h4, h5⟩ := E.mt i c e
    exact ⟨v, h1, h2, h3, h4, h5.keep (fun _ _ n => n) kk fun u e' => by rw [upd_ne (hm i c e)]; exact e'⟩
/-- less under N -/
theorem Sta.lessN {N' : Addr → Prop} (E : Sta cls p pn N H0 ad H σ ds) (hs : ∀ a, N' a → N a) (hp : ∀ a, p a → N' a) (hm : ∀ (i : Nat) (c : Con), ds[i]? = some (some (Slot.mut c)) → N' (ad i)) : Sta cls p pn N' H0 ad H σ ds := by
  have hd : ∀ a, hid N' ad ds a → hid N ad ds a := fun a h => h.elim (fun z => .inl (hs a z)) .inr
  refine ⟨⟨hp, fun a h => E.wf.dom a (hs a h), E.wf.pot⟩, E.go, E.len, fun i d e => ?_, fun i xs e => ?_, fun q hq => (E.pin q hq).less hd, E.inj, fun i c e => ?_, E.minj⟩
  · obtain ⟨v, h1, h2⟩ := E.dat i d e
    exact ⟨v, h1, h2.less hd⟩
  · obtain ⟨h1, h2, h3, vs, h4, h5⟩ := E.own i xs e
    exact ⟨h1, fun z => h2 (hs _ z), h3, vs, h4, h5.less hd⟩
  · obtain ⟨v, h1, h2, h3, h4, h5⟩ := E.mt i c e
    exact ⟨v, h1, hm i c e, h3, h4, h5.keep (fun b _ n z => n (hd b z)) (fun _ _ _ e => e) fun _ e => e⟩
end
end Lk

namespace Lk
open PySem PySem.Spec L2

def ownOf : Option Slot → Option (List D)
  | some (.own xs) => some xs
  | _ => none
theorem hid_congr {N : Addr → Prop} {ad : Nat → Addr} {ds ds' : Sts} (h : ds'.map ownOf = ds.map ownOf) : hid N ad ds' = hid N ad ds := by
  have key : ∀ {a b : Sts}, b.map ownOf = a.map ownOf → ∀ (i : Nat) (xs : List D), a[i]? = some (some (Slot.own xs)) → b[i]? = some (some (Slot.own xs)) := by
    intro a b h i xs e
    have e1 : (b.map ownOf)[i]? = some (some xs) := by rw [h, List.getElem?_map, e]; rfl
    rw [List.getElem?_map] at e1
    cases q : b[i]? with
    | none => rw [q] at e1; cases e1
    | some o =>
      rw [q] at e1
      match o, e1 with
      | some (.own ys), e1 => cases e1; rfl
  funext a
  apply propext
  constructor
  · rintro (z | ⟨i, xs, e, q⟩)
    · exact .inl z
    · exact .inr ⟨i, xs, key h.symm i xs e, q⟩
  · rintro (z | ⟨i, xs, e, q⟩)
    · exact .inl z
    · exact .inr ⟨i, xs, key h i xs e, q⟩

section
variable (cls : Cl) (p : Addr → Prop)
/-- from this state te gives a value whose data are such -/
def Ev (te : TE) (ds : Sts) (P : D → Prop) : Prop := ∀ (pn : List (V × D)) (N : Addr → Prop) (H0 : Hp) (ad : Nat → Addr) (σ : L2.St) (H : Hp), Sta cls p pn N H0 ad H σ ds →
  ∀ Q : VK, (∀ v H' d, P d → Go p H H' → At cls (hid N ad ds) H' v d → Q v H') → te σ H Q
def EvA (ta : TA) (ds : Sts) (P : List D → Prop) : Prop := ∀ (pn : List (V × D)) (N : Addr → Prop) (H0 : Hp) (ad : Nat → Addr) (σ : L2.St) (H : Hp), Sta cls p pn N H0 ad H σ ds →
  ∀ Q : List V → Hp → Prop, (∀ vs H' xs, P xs → Go p H H' → AtAll cls (hid N ad ds) H' vs xs → Q vs H') → ta σ H Q
def ET (tt : TT) (ds : Sts) (B : Bool → Prop) : Prop := ∀ (pn : List (V × D)) (N : Addr → Prop) (H0 : Hp) (ad : Nat → Addr) (σ : L2.St) (H : Hp), Sta cls p pn N H0 ad H σ ds →
  ∀ Q : Bool → Hp → Prop, (∀ b H', B b → Go p H H' → Q b H') → tt σ H Q
def EvO (to : TO) (ds : Sts) (O : Option Int → Prop) : Prop := ∀ (pn : List (V × D)) (N : Addr → Prop) (H0 : Hp) (ad : Nat → Addr) (σ : L2.St) (H : Hp), Sta cls p pn N H0 ad H σ ds →
  ∀ Q : Option Int → Hp → Prop, (∀ o H', O o → Go p H H' → Q o H') → to σ H Q
/-- d is stored: the names js change -/
def EvG (g : TG) (js : List Nat) (d : D) (ds ds' : Sts) : Prop := ∀ (pn : List (V × D)) (N : Addr → Prop) (H0 : Hp) (ad : Nat → Addr) (σ : L2.St) (H : Hp), Sta cls p pn N H0 ad H σ ds →
  ∀ v, At cls (hid N ad ds) H v d → ∀ Q : L2.St → Hp → Prop, (∀ σ', Sta cls p pn N H0 ad H σ' ds' → (∀ vs : List Nat, (∀ j ∈ js, j ∈ vs) → L2.wipe σ' vs = L2.wipe σ vs) → Q σ' H) → g v σ H Q
/-- J walks the data xs as long as the things of q stand -/
def Wk (J : It) (q : List (V × D)) (xs : List D) : Prop := ∀ (N : Addr → Prop) (H : Hp), Wf p N H → (∀ x ∈ q, At cls N H x.1 x.2) → ∀ i : Nat,
  (∀ d, xs[i]? = some d → J.go i H ∧ ∀ v H', J.yld i H v H' → Go p H H' ∧ At cls N H' v d) ∧ (i = xs.length → J.stop i H)
def EI (wi : TI) (ds : Sts) (P : List D → Prop) : Prop := ∀ (pn : List (V × D)) (N : Addr → Prop) (H0 : Hp) (ad : Nat → Addr) (σ : L2.St) (H : Hp), Sta cls p pn N H0 ad H σ ds →
  ∀ R : It → Hp → Prop, (∀ J H' xs q, P xs → Go p H H' → (∀ x ∈ q, At cls (hid N ad ds) H' x.1 x.2) → Wk cls p J q xs → R J H') → wi σ H R
/-- a statement: what holds behind it, of what it returns, where it breaks, where it goes on with the loop -/
def Sv (t : TS) (ds : Sts) (nx : Sts → Prop) (rt : D → Prop) (bk ct : Sts → Prop) : Prop := ∀ (pn : List (V × D)) (N : Addr → Prop) (H0 : Hp) (ad : Nat → Addr) (σ : L2.St) (H : Hp), Sta cls p pn N H0 ad H σ ds →
  ∀ Dn : Ends, (∀ ad' σ' H' ds', nx ds' → Sta cls p pn N H0 ad' H' σ' ds' → Dn.nx σ' H') → (∀ v H' d, rt d → Go p H0 H' → At cls N H' v d → Dn.rt v H') →
    (∀ ad' σ' H' ds', bk ds' → Sta cls p pn N H0 ad' H' σ' ds' → Dn.bk σ' H') → (∀ ad' σ' H' ds', ct ds' → Sta cls p pn N H0 ad' H' σ' ds' → Dn.ct σ' H') → t Dn σ H
end

section
variable {cls : Cl} {p : Addr → Prop} {ds ds' : Sts} {ta tb tc te : TE} {tt tu : TT} {P PX PY PZ : D → Prop} {B B' : Bool → Prop}

/-! ### expressions -/
theorem Ev.mono {P' : D → Prop} (h : Ev cls p te ds P) (k : ∀ d, P d → P' d) : Ev cls p te ds P' := fun pn N H0 ad σ H S Q q => h pn N H0 ad σ H S Q fun v H' d hp => q v H' d (k d hp)
theorem ET.mono (h : ET cls p tt ds B) (k : ∀ b, B b → B' b) : ET cls p tt ds B' := fun pn N H0 ad σ H S Q q => h pn N H0 ad σ H S Q fun b H' hp => q b H' (k b hp)
theorem EvA.mono {ta : TA} {P P' : List D → Prop} (h : EvA cls p ta ds P) (k : ∀ d, P d → P' d) : EvA cls p ta ds P' := fun pn N H0 ad σ H S Q q => h pn N H0 ad σ H S Q fun v H' d hp => q v H' d (k d hp)
theorem EI.mono {wi : TI} {P P' : List D → Prop} (h : EI cls p wi ds P) (k : ∀ d, P d → P' d) : EI cls p wi ds P' := fun pn N H0 ad σ H S Q q => h pn N H0 ad σ H S Q fun J H' xs w hp => q J H' xs w (k xs hp)
theorem Sv.mono {t : TS} {nx nx' : Sts → Prop} {rt rt' : D → Prop} {bk ct : Sts → Prop} (h : Sv cls p t ds nx rt bk ct) (k : ∀ d, nx d → nx' d) (k2 : ∀ d, rt d → rt' d) : Sv cls p t ds nx' rt' bk ct :=
  fun pn N H0 ad σ H S Dn q1 q2 => h pn N H0 ad σ H S Dn (fun a s h d z => q1 a s h d (k d z)) (fun v h d z => q2 v h d (k2 d z))

theorem ev_var {i : Nat} {d : D} (e : ds[i]? = some (some (Slot.dat d))) : Ev cls p (tVar i) ds (· = d) := fun pn N H0 ad σ H S Q q =>
  let ⟨v, h1, h2⟩ := S.dat i d e
  ⟨v, h1, q v H d rfl (Go.refl H) h2⟩
theorem ev_int {i : Int} : Ev cls p (tC (.int i)) ds (· = .int i) := fun _ _ _ _ _ H _ Q q => q _ H _ rfl (Go.refl H) (.int i)
theorem ev_bl {b : Bool} : Ev cls p (tC (.bl b)) ds (· = .bl b) := fun _ _ _ _ _ H _ Q q => q _ H _ rfl (Go.refl H) (.bl b)
theorem ev_non : Ev cls p (tC .non) ds (· = .non) := fun _ _ _ _ _ H _ Q q => q _ H _ rfl (Go.refl H) .non
theorem ev_str {x : Str} : Ev cls p (tC (.str x)) ds (· = .str x) := fun _ _ _ _ _ H _ Q q => q _ H _ rfl (Go.refl H) (.str x)

/-- an operation on values -/
def Rv (cls : Cl) (p : Addr → Prop) (r : R2) (PX PY P : D → Prop) : Prop := ∀ (N : Addr → Prop) (H : Hp) (x y : V) (dx dy : D), Wf p N H → At cls N H x dx → At cls N H y dy → PX dx → PY dy →
  ∀ Q : VK, (∀ v H' d, P d → Go p H H' → At cls N H' v d → Q v H') → r x y H Q
theorem ev_op {r : R2} (ha : Ev cls p ta ds PX) (hb : Ev cls p tb ds PY) (hr : Rv cls p r PX PY P) : Ev cls p (tOp r ta tb) ds P := fun pn N H0 ad σ H S Q q =>
  ha pn N H0 ad σ H S _ fun x H1 dx px g1 a1 => hb pn N H0 ad σ H1 (S.mono g1) _ fun y H2 dy py g2 a2 =>
    hr _ H2 x y dx dy (S.mono (g1.trans g2)).hwf (a1.mono S.hsub g2) a2 px py Q fun v H3 d pd g3 a3 => q v H3 d pd ((g1.trans g2).trans g3) a3
/-- whole numbers -/
def IntP (P : D → Prop) : Prop := ∀ d, P d → ∃ i, d = .int i
theorem intP {i : Int} : IntP (· = .int i) := fun _ e => ⟨i, e⟩
def SInt (f : Int → Int → Int) (PX PY : D → Prop) : D → Prop := fun d => ∃ i j, PX (.int i) ∧ PY (.int j) ∧ d = .int (f i j)
def SBl (f : Int → Int → Bool) (PX PY : D → Prop) : D → Prop := fun d => ∃ i j, PX (.int i) ∧ PY (.int j) ∧ d = .bl (f i j)
theorem intP_S {f : Int → Int → Int} : IntP (SInt f PX PY) := fun _ ⟨i, j, _, _, e⟩ => ⟨_, e⟩
theorem rv_I0 {f : Int → Int → Int} (hx : IntP PX) (hy : IntP PY) : Rv cls p (rI0 fun i j => .int (f i j)) PX PY (SInt f PX PY) := fun N H x y dx dy W ax ay px py Q q => by
  obtain ⟨i, rfl⟩ := hx dx px
  obtain ⟨j, rfl⟩ := hy dy py
  cases ax; cases ay
  exact ⟨i, j, rfl, rfl, q _ H _ ⟨i, j, px, py, rfl⟩ (Go.refl H) (.int _)⟩
theorem rv_B0 {f : Int → Int → Bool} (hx : IntP PX) (hy : IntP PY) : Rv cls p (rI0 fun i j => .bl (f i j)) PX PY (SBl f PX PY) := fun N H x y dx dy W ax ay px py Q q => by
  obtain ⟨i, rfl⟩ := hx dx px
  obtain ⟨j, rfl⟩ := hy dy py
  cases ax; cases ay
  exact ⟨i, j, rfl, rfl, q _ H _ ⟨i, j, px, py, rfl⟩ (Go.refl H) (.bl _)⟩
theorem rv_IC {C : Int → Int → Prop} {f : Int → Int → Int} (hx : IntP PX) (hy : IntP PY) (hc : ∀ i j, PX (.int i) → PY (.int j) → C i j) : Rv cls p (rI C fun i j => .int (f i j)) PX PY (SInt f PX PY) := fun N H x y dx dy W ax ay px py Q q => by
  obtain ⟨i, rfl⟩ := hx dx px
  obtain ⟨j, rfl⟩ := hy dy py
  cases ax; cases ay
  exact ⟨i, j, rfl, rfl, hc i j px py, q _ H _ ⟨i, j, px, py, rfl⟩ (Go.refl H) (.int _)⟩
/-- an item by its place -/
theorem rv_ixL {K : PySem.W.Frag} (h : ∀ dx dy, PX dx → PY dy → ∃ xs i d, dx = .lst xs ∧ dy = .int i ∧ atI xs i = some d ∧ P d) : Rv cls p (rIxL K) PX PY P := fun N H x y dx dy W ax ay px py Q q => by
  obtain ⟨xs, i, d, rfl, rfl, e, pd⟩ := h dx dy px py
  cases ay
  cases ax with
  | @lst a vs _ n r hh =>
    unfold atI at e
    rw [← hh.length] at e
    cases e1 : ixN vs.length i with
    | none => rw [e1] at e; cases e
    | some j =>
      rw [e1] at e
      obtain ⟨v, hv, av⟩ := hh.get (show xs[j]? = some d from e)
      exact ⟨a, vs, i, v, rfl, rfl, .inl (.inl r), by unfold atI; rw [e1]; exact hv, q v H d pd (Go.refl H) av⟩
theorem rv_ixT {K : PySem.W.Frag} (h : ∀ dx dy, PX dx → PY dy → ∃ xs i d, dx = .tup xs ∧ dy = .int i ∧ atI xs i = some d ∧ P d) : Rv cls p (rIxT K) PX PY P := fun N H x y dx dy W ax ay px py Q q => by
  obtain ⟨xs, i, d, rfl, rfl, e, pd⟩ := h dx dy px py
  cases ay
  cases ax with
  | @tup a vs _ n r hh =>
    unfold atI at e
    rw [← hh.length] at e
    cases e1 : ixN vs.length i with
    | none => rw [e1] at e; cases e
    | some j =>
      rw [e1] at e
      obtain ⟨v, hv, av⟩ := hh.get (show xs[j]? = some d from e)
      exact ⟨a, vs, i, v, rfl, rfl, .inl (.inl r), by unfold atI; rw [e1]; exact hv, q v H d pd (Go.refl H) av⟩
theorem ev_neg (ha : Ev cls p ta ds PX) (hx : IntP PX) : Ev cls p (tUn (rU fun i => .int (-i)) ta) ds (fun d => ∃ i, PX (.int i) ∧ d = .int (-i)) := fun pn N H0 ad σ H S Q q =>
  ha pn N H0 ad σ H S _ fun x H1 dx px g1 a1 => by
    obtain ⟨i, rfl⟩ := hx dx px
    cases a1
    exact ⟨i, rfl, q _ H1 _ ⟨i, px, rfl⟩ g1 (.int _)⟩

/-! ### arguments, displays, calls -/
variable {t tr : TA} {PA PB : List D → Prop}
theorem ea_nil : EvA cls p tNil ds (· = []) := fun _ _ _ _ _ H _ Q q => q [] H [] rfl (Go.refl H) .nil
theorem ea_cons (ha : Ev cls p te ds PX) (hr : EvA cls p tr ds PA) : EvA cls p (tCons te tr) ds (fun l => ∃ x xs, PX x ∧ PA xs ∧ l = x :: xs) := fun pn N H0 ad σ H S Q q =>
  ha pn N H0 ad σ H S _ fun x H1 dx px g1 a1 => hr pn N H0 ad σ H1 (S.mono g1) _ fun vs H2 xs ps g2 a2 => q _ H2 _ ⟨dx, xs, px, ps, rfl⟩ (g1.trans g2) (.cons (a1.mono S.hsub g2) a2)
theorem fresh_hid {N : Addr → Prop} {H : Hp} {a : Addr} (W : Wf p N H) (h : H a = none) : ¬ N a := fun n => W.dom a n h
theorem ev_tup (h : EvA cls p t ds PA) (hl : ∀ xs, PA xs → xs.length ≤ 100000) : Ev cls p (tTup t) ds (fun d => ∃ xs, PA xs ∧ d = .tup xs) := fun pn N H0 ad σ H S Q q =>
  h pn N H0 ad σ H S _ fun vs H1 xs ps g1 a1 => ⟨by rw [a1.length]; exact Nat.le_trans (hl xs ps) (by decide), fun l hl => q _ _ _ ⟨xs, ps, rfl⟩ (g1.trans (Go.new hl))
    (.tup (fresh_hid (S.mono g1).hwf hl) upd_same (a1.mono S.hsub (Go.new hl)))⟩
theorem ev_lst (h : EvA cls p t ds PA) (hl : ∀ xs, PA xs → xs.length ≤ 100000) : Ev cls p (tLst t) ds (fun d => ∃ xs, PA xs ∧ d = .lst xs) := fun pn N H0 ad σ H S Q q =>
  h pn N H0 ad σ H S _ fun vs H1 xs ps g1 a1 => ⟨by rw [a1.length]; exact Nat.le_trans (hl xs ps) (by decide), fun l hl => q _ _ _ ⟨xs, ps, rfl⟩ (g1.trans (Go.new hl))
    (.lst (fresh_hid (S.mono g1).hwf hl) upd_same (a1.mono S.hsub (Go.new hl)))⟩
/-- a call of what is known, by values -/
def Rc (cls : Cl) (p : Addr → Prop) (r : List V → Hp → VK → Prop) (PA : List D → Prop) (P : D → Prop) : Prop := ∀ (N : Addr → Prop) (H : Hp) (vs : List V) (xs : List D), Wf p N H → AtAll cls N H vs xs → PA xs →
  ∀ Q : VK, (∀ v H' d, P d → Go p H H' → At cls N H' v d → Q v H') → r vs H Q
theorem ev_cb {r : List V → Hp → VK → Prop} (h : EvA cls p t ds PA) (hr : Rc cls p r PA P) : Ev cls p (tCB r t) ds P := fun pn N H0 ad σ H S Q q =>
  h pn N H0 ad σ H S _ fun vs H1 xs ps g1 a1 => hr _ H1 vs xs (S.mono g1).hwf a1 ps Q fun v H2 d pd g2 a2 => q v H2 d pd (g1.trans g2) a2

/-- what a def of these texts promises: n arguments, such ones; then such a value -/
def spG (cls : Cl) (n : Nat) (pre : (Addr → Prop) → List D → Prop) (F : List D → D → Prop) : Sp := fun vs H Q _ => ∃ (p N : Addr → Prop) (xs : List D), Wf p N H ∧ AtAll cls N H vs xs ∧ xs.length = n ∧ pre p xs ∧
  ∀ v H' d, F xs d → Go p H H' → At cls N H' v d → Q v H'
theorem ev_call {n : Nat} {pre : (Addr → Prop) → List D → Prop} {F : List D → D → Prop} (h : EvA cls p t ds PA) (hp : ∀ xs, PA xs → xs.length = n ∧ pre p xs) : Ev cls p (tCall (spG cls n pre F) [] E0 t) ds (fun d => ∃ xs, PA xs ∧ F xs d) := fun pn N H0 ad σ H S Q q =>
  h pn N H0 ad σ H S _ fun vs H1 xs ps g1 a1 => by
    show spG cls n pre F (vs ++ []) H1 Q E0
    rw [List.append_nil]
    exact ⟨p, _, xs, (S.mono g1).hwf, a1, (hp xs ps).1, (hp xs ps).2, fun v H2 d fd g2 a2 => q v H2 d ⟨xs, ps, fd⟩ (g1.trans g2) a2⟩
theorem AtAll.perm {N : Addr → Prop} {H : Hp} {vs : List V} {xs : List D} (h : AtAll cls N H vs xs) : ∀ is : List Nat, AtAll cls N H (perm is vs) (perm is xs)
  | [] => .nil
  | i :: is => by
    unfold Lk.perm
    rw [List.filterMap_cons, List.filterMap_cons]
    cases e : xs[i]? with
    | none =>
      have : vs[i]? = none := List.getElem?_eq_none_iff.mpr (by rw [h.length]; exact List.getElem?_eq_none_iff.mp e)
      rw [this]
      exact AtAll.perm h is
    | some x =>
      obtain ⟨u, h1, h2⟩ := h.get e
      rw [h1]
      exact .cons h2 (AtAll.perm h is)
theorem ev_key {n m : Nat} {is : List Nat} {pre : (Addr → Prop) → List D → Prop} {F : List D → D → Prop} (h : EvA cls p t ds PA) (hp : ∀ xs, PA xs → xs.length = m ∧ (perm is xs).length = n ∧ pre p (perm is xs)) :
    Ev cls p (tKey (spG cls n pre F) is m t) ds (fun d => ∃ xs, PA xs ∧ F (perm is xs) d) := fun pn N H0 ad σ H S Q q =>
  h pn N H0 ad σ H S _ fun vs H1 xs ps g1 a1 =>
    ⟨a1.length.trans (hp xs ps).1, p, _, perm is xs, (S.mono g1).hwf, AtAll.perm a1 is, (hp xs ps).2.1, (hp xs ps).2.2, fun v H2 d fd g2 a2 => q v H2 d ⟨xs, ps, fd⟩ (g1.trans g2) a2⟩

/-! ### tests -/
def BlP (P : D → Prop) : Prop := ∀ d, P d → ∃ b, d = .bl b
theorem blP {b : Bool} : BlP (· = .bl b) := fun _ e => ⟨b, e⟩
theorem blP_S {f : Int → Int → Bool} : BlP (SBl f PX PY) := fun _ ⟨_, _, _, _, e⟩ => ⟨_, e⟩
theorem et_test (h : Ev cls p te ds P) (hb : BlP P) : ET cls p (tTest te) ds (fun b => P (.bl b)) := fun pn N H0 ad σ H S Q q =>
  h pn N H0 ad σ H S _ fun v H1 d pd g a => by
    obtain ⟨b, rfl⟩ := hb d pd
    cases a
    exact ⟨b, rfl, q b H1 pd g⟩
theorem et_B (h : Ev cls p te ds P) (hb : BlP P) : ET cls p (tB te) ds (fun b => P (.bl b)) := fun pn N H0 ad σ H S Q q =>
  h pn N H0 ad σ H S _ fun v H1 d pd g a => by
    obtain ⟨b, rfl⟩ := hb d pd
    cases a
    exact ⟨b, rfl, q b H1 pd g⟩
theorem et_not (h : ET cls p tt ds B) : ET cls p (tNot tt) ds (fun b => B (!b)) := fun pn N H0 ad σ H S Q q =>
  h pn N H0 ad σ H S _ fun b H1 pb g => q (!b) H1 (show B (!!b) by rw [Bool.not_not]; exact pb) g
theorem et_and (h : ET cls p tt ds B) (k : B true → ET cls p tu ds B') : ET cls p (tAnd tt tu) ds (fun b => (b = false ∧ B false) ∨ (B true ∧ B' b)) := fun pn N H0 ad σ H S Q q =>
  h pn N H0 ad σ H S _ fun b H1 pb g => by
    cases b with
    | true => exact k pb pn N H0 ad σ H1 (S.mono g) _ fun c H2 pc g2 => q c H2 (.inr ⟨pb, pc⟩) (g.trans g2)
    | false => exact q false H1 (.inl ⟨rfl, pb⟩) g
theorem et_or (h : ET cls p tt ds B) (k : B false → ET cls p tu ds B') : ET cls p (tOr tt tu) ds (fun b => (b = true ∧ B true) ∨ (B false ∧ B' b)) := fun pn N H0 ad σ H S Q q =>
  h pn N H0 ad σ H S _ fun b H1 pb g => by
    cases b with
    | false => exact k pb pn N H0 ad σ H1 (S.mono g) _ fun c H2 pc g2 => q c H2 (.inr ⟨pb, pc⟩) (g.trans g2)
    | true => exact q true H1 (.inl ⟨rfl, pb⟩) g
theorem et_yes : ET cls p tYes ds (· = true) := fun pn N H0 ad σ H S Q q => q true H rfl (Go.refl H)
theorem ev_andV (h : Ev cls p ta ds PX) (hb : BlP PX) (k : PX (.bl true) → Ev cls p tb ds PY) : Ev cls p (tAndV ta tb) ds (fun d => (d = .bl false ∧ PX (.bl false)) ∨ (PX (.bl true) ∧ PY d)) := fun pn N H0 ad σ H S Q q =>
  h pn N H0 ad σ H S _ fun v H1 d pd g a => by
    obtain ⟨b, rfl⟩ := hb d pd
    cases a
    refine ⟨b, rfl, ?_⟩
    cases b with
    | true => exact k pd pn N H0 ad σ H1 (S.mono g) _ fun c H2 d pc g2 a2 => q c H2 d (.inr ⟨pd, pc⟩) (g.trans g2) a2
    | false => exact q _ H1 _ (.inl ⟨rfl, pd⟩) g (.bl false)
theorem ev_orV (h : Ev cls p ta ds PX) (hb : BlP PX) (k : PX (.bl false) → Ev cls p tb ds PY) : Ev cls p (tOrV ta tb) ds (fun d => (d = .bl true ∧ PX (.bl true)) ∨ (PX (.bl false) ∧ PY d)) := fun pn N H0 ad σ H S Q q =>
  h pn N H0 ad σ H S _ fun v H1 d pd g a => by
    obtain ⟨b, rfl⟩ := hb d pd
    cases a
    refine ⟨b, rfl, ?_⟩
    cases b with
    | false => exact k pd pn N H0 ad σ H1 (S.mono g) _ fun c H2 d pc g2 a2 => q c H2 d (.inr ⟨pd, pc⟩) (g.trans g2) a2
    | true => exact q _ H1 _ (.inl ⟨rfl, pd⟩) g (.bl true)
theorem ev_notV (h : Ev cls p ta ds PX) (hb : BlP PX) : Ev cls p (tNotV ta) ds (fun d => ∃ b, PX (.bl b) ∧ d = .bl (!b)) := fun pn N H0 ad σ H S Q q =>
  h pn N H0 ad σ H S _ fun v H1 d pd g a => by
    obtain ⟨b, rfl⟩ := hb d pd
    cases a
    exact ⟨b, rfl, q _ H1 _ ⟨b, pd, rfl⟩ g (.bl _)⟩
theorem ev_if (h : ET cls p tt ds B) (k : B true → Ev cls p ta ds PX) (k' : B false → Ev cls p tb ds PY) : Ev cls p (tIf tt ta tb) ds (fun d => (B true ∧ PX d) ∨ (B false ∧ PY d)) := fun pn N H0 ad σ H S Q q =>
  h pn N H0 ad σ H S _ fun b H1 pb g => by
    cases b with
    | true => exact k pb pn N H0 ad σ H1 (S.mono g) _ fun c H2 d pc g2 a2 => q c H2 d (.inl ⟨pb, pc⟩) (g.trans g2) a2
    | false => exact k' pb pn N H0 ad σ H1 (S.mono g) _ fun c H2 d pc g2 a2 => q c H2 d (.inr ⟨pb, pc⟩) (g.trans g2) a2
/-- a < b < c -/
theorem ev_chain {f f' : Int → Int → Bool} (ha : Ev cls p ta ds PX) (hb : Ev cls p tb ds PY) (hc : Ev cls p tc ds PZ) (hx : IntP PX) (hy : IntP PY) (hz : IntP PZ) :
    Ev cls p (tChain (rI0 fun i j => .bl (f i j)) (rI0 fun i j => .bl (f' i j)) ta tb tc) ds (fun d => ∃ i j, PX (.int i) ∧ PY (.int j) ∧ ((f i j = false ∧ d = .bl false) ∨ (f i j = true ∧ ∃ k, PZ (.int k) ∧ d = .bl (f' j k)))) := by
  intro pn N H0 ad σ H S Q q
  refine ha pn N H0 ad σ H S _ fun x H1 dx px g1 a1 => ?_
  refine hb pn N H0 ad σ H1 (S.mono g1) _ fun y H2 dy py g2 a2 => ?_
  obtain ⟨i, ei⟩ := hx dx px
  obtain ⟨j, ej⟩ := hy dy py
  subst ei ej
  cases a1
  cases a2
  refine ⟨i, j, rfl, rfl, _, rfl, ?_⟩
  cases e : f i j with
  | false => exact q _ H2 _ ⟨i, j, px, py, .inl ⟨e, rfl⟩⟩ (g1.trans g2) (.bl false)
  | true =>
    refine hc pn N H0 ad σ H2 (S.mono (g1.trans g2)) _ fun z H3 dz pz g3 a3 => ?_
    obtain ⟨k, ek⟩ := hz dz pz
    subst ek
    cases a3
    exact ⟨j, k, rfl, rfl, q _ H3 _ ⟨i, j, px, py, .inr ⟨e, k, pz, rfl⟩⟩ ((g1.trans g2).trans g3) (.bl _)⟩

/-! ### stores -/
variable {g : TG} {js : List Nat} {d : D}
theorem wipe_swap (σ : L2.St) (i : Nat) (x : Option V) (vs : List Nat) (h : i ∈ vs) : L2.wipe (σ.set i x) vs = L2.wipe σ vs := by
  have comm : ∀ (l : List Nat) (τ : L2.St), i ∉ l → L2.wipe (τ.set i x) l = (L2.wipe τ l).set i x := by
    intro l
    induction l with
    | nil => intro τ _; rfl
    | cons v l ih =>
      intro τ hn
      unfold L2.wipe
      rw [ih τ (fun z => hn (List.mem_cons_of_mem _ z)), List.set_comm _ _ (fun z => hn (by rw [z]; exact List.mem_cons_self ..))]
  induction vs with
  | nil => cases h
  | cons v vs ih =>
    by_cases hm : i ∈ vs
    · unfold L2.wipe
      rw [ih hm]
    · have e : v = i := by
        rcases List.mem_cons.mp h with z | z
        · exact z.symm
        · exact absurd z hm
      subst e
      unfold L2.wipe
      rw [comm vs σ hm, List.set_set]
theorem wipe_wipe (σ : L2.St) : ∀ vs : List Nat, L2.wipe (L2.wipe σ vs) vs = L2.wipe σ vs := by
  intro vs
  have gen : ∀ (ls : List Nat), (∀ j ∈ ls, j ∈ vs) → L2.wipe (L2.wipe σ ls) vs = L2.wipe σ vs := by
    intro ls
    induction ls with
    | nil => intro _; rfl
    | cons v ls ih =>
      intro h
      show L2.wipe ((L2.wipe σ ls).set v none) vs = _
      rw [wipe_swap _ _ _ _ (h v (List.mem_cons_self ..)), ih fun j hj => h j (List.mem_cons_of_mem _ hj)]
  exact gen vs fun _ h => h
theorem eg_name {i : Nat} : EvG cls p (gName i) [i] d ds (ds.set i (some (Slot.dat d))) := fun pn N H0 ad σ H S v a Q q =>
  q _ (S.put a) fun vs h => wipe_swap σ i _ vs (h i (List.mem_cons_self ..))
/-- the targets of a tuple, one by one -/
def EvGs (cls : Cl) (p : Addr → Prop) (gs : TGs) (js : List Nat) (xs : List D) (ds ds' : Sts) : Prop := ∀ (pn : List (V × D)) (N : Addr → Prop) (H0 : Hp) (ad : Nat → Addr) (σ : L2.St) (H : Hp) (M : Addr → Prop), Sta cls p pn N H0 ad H σ ds → (∀ a, hid N ad ds a → M a) →
  ∀ vs, AtAll cls M H vs xs → ∀ Q : L2.St → Hp → Prop, (∀ σ', Sta cls p pn N H0 ad H σ' ds' → (∀ ws : List Nat, (∀ j ∈ js, j ∈ ws) → L2.wipe σ' ws = L2.wipe σ ws) → Q σ' H) → gs vs σ H Q
theorem egs_nil : EvGs cls p gNil [] [] ds ds := fun pn N H0 ad σ H M S hM vs a Q q => by
  cases a
  exact ⟨rfl, q σ S fun _ _ => rfl⟩
theorem egs_cons {gs : TGs} {i : Nat} {js : List Nat} {xs : List D} (h : EvGs cls p gs js xs (ds.set i (some (Slot.dat d))) ds') : EvGs cls p (gCons (gName i) gs) (i :: js) (d :: xs) ds ds' := fun pn N H0 ad σ H M S hM vs a Q q => by
  cases a with
  | cons a1 a2 =>
    refine ⟨_, _, rfl, ?_⟩
    refine h pn N H0 ad _ H M (S.put (a1.less hM)) (fun x hx => hM x (hid_set x hx)) _ a2 Q fun σ' S' w => q σ' S' fun ws hw => ?_
    rw [w ws fun j hj => hw j (List.mem_cons_of_mem _ hj), wipe_swap σ i _ ws (hw i (List.mem_cons_self ..))]
theorem eg_tup {K : PySem.W.Frag} {gs : TGs} {n : Nat} {js : List Nat} {xs : List D} (h : EvGs cls p gs js xs ds ds') (hn : xs.length = n) : EvG cls p (gTup K n gs) js (.tup xs) ds ds' := fun pn N H0 ad σ H S v a Q q => by
  cases a with
  | @tup l vs _ nn r hh => exact ⟨l, vs, rfl, .inl (.inl r), hh.length.trans hn, h pn N H0 ad σ H _ S (fun _ z => z) vs hh Q q⟩
end
end Lk

namespace Lk
open PySem PySem.Spec L2

/-! ### zip of a list or tuple with a list or tuple -/
def SqK (K : PySem.W.Frag) (k : Bool) (H : Hp) (a : Addr) (xs : List V) : Prop := if k = true then SqL K H a xs else SqT K H a xs
def ItPos (k : Bool) (h : Heap) (it a : Addr) (i : Nat) : Prop := if k = true then h.IsListIter it a i else h.IsTupleIter it a i
def IsK (k : Bool) (h : Heap) (a : Addr) (its : Array Value) : Prop := if k = true then h.IsList a its else h.IsTuple a its
def ItzS (K : PySem.W.Frag) (k l : Bool) (a b : Addr) : It :=
  ⟨fun i H => ∃ (xs ys : List V) (x y : V), SqK K k H a xs ∧ SqK K l H b ys ∧ xs[i]? = some x ∧ ys[i]? = some y,
   fun i H v H' => ∃ T x y, v = .ref T ∧ H T = none ∧ H' = upd H T (.tup [x, y]) ∧ (∀ xs, SqK K k H a xs → xs[i]? = some x) ∧ ∀ ys, SqK K l H b ys → ys[i]? = some y,
   fun i H => ∃ xs ys : List V, SqK K k H a xs ∧ SqK K l H b ys ∧ i ≤ xs.length ∧ i ≤ ys.length ∧ (i = xs.length ∨ i = ys.length)⟩
theorem drawsK {prog : Program} {w : World} {A : Around} (hh : A.handled = none) (k : Bool) (it a : Addr) (hne : a ≠ it) (its : Array Value) :
    Draws prog w A it [it, a] its.size (fun i v => its[i]? = some v) (fun i h => ItPos k h it a i ∧ IsK k h a its) := by
  cases k with
  | true => exact Draws.list hh it a hne its
  | false => exact Draws.tuple hh it a hne its
section
variable {X : Cx} {pins : List (Addr × Obj)} {σ : L2.St} {H : Hp} {s : Shared} {a : Addr} {xs ys : List V}
theorem seqK {k : Bool} (I : Inv X pins σ H s) (h : SqK X.K k H a xs) : ∃ its : List Value, Vals xs its ∧ IsK k s.heap a its.toArray ∧ a < s.heap.objs.size := by
  cases k with
  | true =>
    obtain ⟨its, r, pl, _⟩ := I.list (show SqL X.K H a xs from h)
    exact ⟨its, r, pl.isList, pl.lt⟩
  | false =>
    obtain ⟨its, r, pl, _⟩ := I.tuple (show SqT X.K H a xs from h)
    obtain ⟨o, ho, _⟩ := id pl
    exact ⟨its, r, pl, Heap.lt_size ho⟩
theorem seqK_inj {k : Bool} (I : Inv X pins σ H s) (h : SqK X.K k H a xs) (h' : SqK X.K k H a ys) : xs = ys := by
  cases k with
  | true => exact I.list_inj (show SqL X.K H a xs from h) (show SqL X.K H a ys from h')
  | false => exact I.tuple_inj (show SqT X.K H a xs from h) (show SqT X.K H a ys from h')
end
theorem itPos_keep {k : Bool} {h h' : Heap} {it a : Addr} {i : Nat} (p : ItPos k h it a i) (e : ∀ o, h.get? it = some o → h'.get? it = some o) : ItPos k h' it a i := by
  cases k with
  | true => exact Heap.IsListIter.at (show h.IsListIter it a i from p) e
  | false => exact Heap.IsTupleIter.at (show h.IsTupleIter it a i from p) e
theorem itPos_live {k : Bool} {h : Heap} {it a : Addr} {i : Nat} (p : ItPos k h it a i) : ∃ o, h.get? it = some o ∧ ∀ v, o.data ≠ .cell v := by
  cases k with
  | true =>
    obtain ⟨o, e, _, d⟩ := (show h.IsListIter it a i from p)
    exact ⟨o, e, fun v q => by rw [d] at q; cases q⟩
  | false =>
    obtain ⟨o, e, _, d⟩ := (show h.IsTupleIter it a i from p)
    exact ⟨o, e, fun v q => by rw [d] at q; cases q⟩

theorem apartK {k : Bool} {h : Heap} {it a : Addr} {i : Nat} {its : Array Value} (p : ItPos k h it a i) (q : IsK k h a its) : a ≠ it := by
  intro e
  subst e
  cases k with
  | true =>
    obtain ⟨o1, e1, c1, _⟩ := (show h.IsListIter a a i from p)
    obtain ⟨o2, e2, c2, _⟩ := (show h.IsList a its from q)
    rw [e1] at e2
    have := Option.some.inj e2
    subst this
    rw [c1] at c2
    simp at c2
  | false =>
    obtain ⟨o1, e1, c1, _⟩ := (show h.IsTupleIter a a i from p)
    obtain ⟨o2, e2, c2, _⟩ := (show h.IsTuple a its from q)
    rw [e1] at e2
    have := Option.some.inj e2
    subst this
    rw [c1] at c2
    simp at c2

theorem turn_zipS {P : Program} {w : World} {K : PySem.W.Frag} {elts : List Expr} {kk : Nat} {tpos : Pos} {k l : Bool} {a b z TI TO i1 i2 : Addr} (S : ZipSep2 z TI TO i1 i2 [i1, a] [i2, b]) :
    Turn P w K (.Tuple elts kk tpos) (ItzS K k l a b) [z, TI, TO, i1, i2] z
      (fun i h => IsZip h z TI TO .none ∧ IsTupOf2 h TI (.ref i1) (.ref i2) ∧ (∃ x y, IsTupOf2 h TO x y) ∧ ItPos k h i1 a i ∧ ItPos l h i2 b i) where
  mem := List.mem_cons_self ..
  obj := by
    rintro i h ⟨hz, hTI, ⟨x, y, hTO⟩, p1, p2⟩ c hc
    have hc' : c = z ∨ c = TI ∨ c = TO ∨ c = i1 ∨ c = i2 := by simpa using hc
    rcases hc' with q | q | q | q | q <;> subst q
    · exact ⟨_, hz, fun v q => nomatch q⟩
    · exact ⟨_, hTI, fun v q => nomatch q⟩
    · exact ⟨_, hTO, fun v q => nomatch q⟩
    · exact itPos_live p1
    · exact itPos_live p2
  keep := by
    rintro i h h' ⟨hz, hTI, ⟨x, y, hTO⟩, p1, p2⟩ kp
    exact ⟨kp z (by simp) _ hz, kp TI (by simp) _ hTI, ⟨x, y, kp TO (by simp) _ hTO⟩, itPos_keep p1 (kp i1 (by simp)), itPos_keep p2 (kp i2 (by simp))⟩
  item := by
    rintro X rfl rfl rfl hc i pins s σ H E I hf ⟨hz, hTI, ⟨x0, y0, hTO⟩, p1, p2⟩ ⟨xs, ys, x, y, hqx, hqy, hx, hy⟩
    obtain ⟨is1, r1, k1, la⟩ := seqK I hqx
    obtain ⟨is2, r2, k2, lb⟩ := seqK I hqy
    obtain ⟨u, hu, ru⟩ := r1.get hx
    obtain ⟨v, hv, rv⟩ := r2.get hy
    have n1 : a ≠ i1 := apartK p1 k1
    have n2 : b ≠ i2 := apartK p2 k2
    have hzl : z < s.heap.objs.size := Heap.lt_size hz
    have hh : X.A.handled = none := I.ok.hd hc
    refine wpAny_pyNext_zipD2_item S (drawsK (A := X.A.in1) hh k i1 a n1 is1.toArray) (drawsK (A := X.A.in1) hh l i2 b n2 is2.toArray) hz hTI hTO ⟨p1, k1⟩ ⟨p2, k2⟩
      (by simpa using (List.getElem?_eq_some_iff.mp hu).1) (by simpa using (List.getElem?_eq_some_iff.mp hv).1) fun x1 x2 h' tk q1 q2 z' TO' st1 st2 hT hsz hk => ?_
    have ex1 : x1 = u := by
      have q1 : is1.toArray[i]? = some x1 := q1
      rw [List.getElem?_toArray, hu] at q1
      exact (Option.some.inj q1).symm
    have ex2 : x2 = v := by
      have q2 : is2.toArray[i]? = some x2 := q2
      rw [List.getElem?_toArray, hv] at q2
      exact (Option.some.inj q2).symm
    subst ex1 ex2
    refine ⟨_, rfl, wpAny_letOwnedTupleGo_zip (s := { s with heap := h', toks := tk }) z' fun h2 z2 sb => ?_⟩
    have hT2 : h2.get? s.heap.objs.size = some { cls := .type "tuple", data := .seq #[x1, x2] } := (sb.2 _ (Nat.ne_of_gt hzl)).trans hT
    have new : ObjOk X.prog X.w (upd H s.heap.objs.size (.tup [x, y])) h2 s.heap.objs.size (.tup [x, y]) :=
      ⟨(by decide : 2 ≤ sizeLine), [x1, x2], .cons ru (.cons rv .nil), ⟨_, hT2, rfl, _, rfl⟩⟩
    have I1 : Inv X pins σ (upd H s.heap.objs.size (.tup [x, y])) { s with heap := h2, toks := tk } :=
      I.turnedNew (ch := [z, TI, TO, i1, i2]) (fun c o hb q => (sb.2 c (fun e => hb (by simp [e]))).trans (hk c o (fun e => hb (by simp [e])) (fun e => hb (by simp [e])) (fun e => hb (by simp [e])) (fun e => hb (by simp [e])) q)) hf (Nat.le_refl _) new
    have back : ∀ c o, c ≠ z → h'.get? c = some o → h2.get? c = some o := fun c o n e => (sb.2 c n).trans e
    refine ⟨.ref s.heap.objs.size, _, I1, rfl, ⟨_, x, y, rfl, I.hok.fresh (Nat.le_refl _), rfl, fun l hl => by rw [seqK_inj I hl hqx]; exact hx, fun l hl => by rw [seqK_inj I hl hqy]; exact hy⟩, ⟨z2, ?_, ⟨x1, x2, ?_⟩, ?_, ?_⟩, ?_⟩
    · exact back _ _ S.TIz (hk _ _ S.TIz S.TITO S.TIi1 S.TIi2 hTI)
    · exact back _ _ S.TOz TO'
    · exact itPos_keep st1.1 fun o e => back _ _ S.zi1.symm e
    · exact itPos_keep st2.1 fun o e => back _ _ S.zi2.symm e
    · intro c hcm
      have hlt : c < s.heap.objs.size := by
        have hc' : c = z ∨ c = TI ∨ c = TO ∨ c = i1 ∨ c = i2 := by simpa using hcm
        rcases hc' with q | q | q | q | q <;> subst q
        · exact hzl
        · exact Heap.lt_size hTI
        · exact Heap.lt_size hTO
        · obtain ⟨o, e, _⟩ := itPos_live p1
          exact Heap.lt_size e
        · obtain ⟨o, e, _⟩ := itPos_live p2
          exact Heap.lt_size e
      rw [upd_ne (Nat.ne_of_lt hlt)]
      exact (hf c hcm).1
  done := by
    rintro X rfl rfl rfl hc i pins s σ H E I hf ⟨hz, hTI, ⟨x0, y0, hTO⟩, p1, p2⟩ ⟨xs, ys, hqx, hqy, l1, l2, he⟩
    obtain ⟨is1, r1, k1, la⟩ := seqK I hqx
    obtain ⟨is2, r2, k2, lb⟩ := seqK I hqy
    have e1 : xs.length = is1.toArray.size := by rw [r1.length]; simp
    have e2 : ys.length = is2.toArray.size := by rw [r2.length]; simp
    have hh : X.A.handled = none := I.ok.hd hc
    rw [e1] at l1 he
    rw [e2] at l2 he
    exact wpAny_pyNext_zipD2_end S (drawsK (A := X.A.in1) hh k i1 a (apartK p1 k1) is1.toArray) (drawsK (A := X.A.in1) hh l i2 b (apartK p2 k2) is2.toArray) hz hTI hTO ⟨p1, k1⟩ ⟨p2, k2⟩ l1 l2 he
      fun h' tk hk => ⟨rfl, I.turnedL (ch := [z, TI, TO, i1, i2]) (fun c o hb q => hk c o (fun e => hb (by simp [e])) (fun e => hb (by simp [e])) (fun e => hb (by simp [e])) (fun e => hb (by simp [e])) q) hf⟩
  self := fun A i s Q E st h => wpAny_pyIter_zip st.1 h
def begK (k : Bool) (a : Addr) : Obj := if k = true then { cls := .type "list_iterator", data := .fields #[.ref a, .int 0 0] } else { cls := .type "tuple_iterator", data := .fields #[.ref a, .int 0 0] }
theorem beginsK (k : Bool) (a : Addr) (its : Array Value) : Begins (.ref a) (begK k a) fun h => IsK k h a its := by
  cases k with
  | true => exact begins_list a its
  | false => exact begins_tuple a its
theorem posK {k : Bool} {h : Heap} {it a : Addr} (e : h.get? it = some (begK k a)) : ItPos k h it a 0 := by
  cases k with
  | true => exact ⟨_, e, rfl, rfl⟩
  | false => exact ⟨_, e, rfl, rfl⟩
def iZipS (K : PySem.W.Frag) (ta : TA) : TI := fun σ H R => ta σ H fun vs H1 => ∃ (a b : Addr) (k l : Bool) (xs ys : List V), vs = [.ref a, .ref b] ∧ SqK K k H1 a xs ∧ SqK K l H1 b ys ∧ R (ItzS K k l a b) H1
theorem pi_zipS {X : Cx} {e e2 : Expr} {ta : TA} {p pos tpos : Pos} {elts : List Expr} {kk : Nat} (hg : Gl X "zip") (hm : X.mg "zip" = none) (ha : PA X [e, e2] ta)
    (hs : starEach [e, e2] X.env = (false, eval e X.env) :: starEach [e2] X.env := by rfl) (hpl : (backTo pos (starEach [e2] X.env)).any (·.1) = false := by rfl) :
    PI X (.Tuple elts kk tpos) (.Call (.Name "zip" p) [e, e2] [] pos) (iZipS X.K ta) := by
  refine ⟨fun pins s σ H R I h => PyProof.Rows.Call_ (ld_blt I hg hm PyProof.Rows.boot_zip (PyProof.Rows.callWith_type1 (thn (ha.run pos pins s σ H _ I h) fun us s1 ⟨vs, H1, I1, r1, q1⟩ => ?_) hs hpl))⟩
  obtain ⟨a, b, k, l, xs, ys, ex, hqx, hqy, q⟩ := q1
  subst ex
  cases r1 with
  | cons r rr =>
  cases rr with
  | cons r' rr =>
  cases rr
  cases r
  cases r'
  obtain ⟨is1, rv1, k1, la⟩ := seqK I1 hqx
  obtain ⟨is2, rv2, k2, lb⟩ := seqK I1 hqy
  refine zip_begins2 (beginsK k a is1.toArray) (beginsK l b is2.toArray) k1 k2 fun h' hz hTI hTO g1 g2 hsz hk => wpAny_pyIter_zip hz ?_
  have I2 : Inv X pins σ H1 { s1 with heap := h' } := I1.kept (t' := s1.toks) hk
  refine ⟨s1.heap.objs.size + 4, [s1.heap.objs.size + 4, s1.heap.objs.size + 2, s1.heap.objs.size + 3, s1.heap.objs.size, s1.heap.objs.size + 1], _, _, H1, rfl, I2,
    turn_zipS (zip_sep2 (fp1 := [a]) (fp2 := [b]) (by simpa using la) (by simpa using lb)), ⟨hz, hTI, ⟨_, _, hTO⟩, posK g1, posK g2⟩, fun c hcm => ?_, q⟩
  have hc' : c = s1.heap.objs.size + 4 ∨ c = s1.heap.objs.size + 2 ∨ c = s1.heap.objs.size + 3 ∨ c = s1.heap.objs.size ∨ c = s1.heap.objs.size + 1 := by simpa using hcm
  have hle : s1.heap.objs.size ≤ c := by
    have : c = s1.heap.objs.size + 4 ∨ c = s1.heap.objs.size + 2 ∨ c = s1.heap.objs.size + 3 ∨ c = s1.heap.objs.size + 0 ∨ c = s1.heap.objs.size + 1 := hc'
    rcases this with z | z | z | z | z <;> (rw [z]; exact Nat.le_add_right _ _)
  obtain ⟨f1, f2, f3, f4, f5, f6⟩ := I1.fpOk hle (I1.hok.fresh hle)
  exact ⟨f1, f2, f3, f4, f5, f6⟩
end Lk

namespace Lk
open PySem PySem.Spec L2

section
variable {cls : Cl} {p : Addr → Prop} {ds ds' : Sts} {ta tb tc te : TE} {tt tu : TT} {P PX PY PZ : D → Prop} {B B' : Bool → Prop} {t tr : TA} {PA PB : List D → Prop}

/-! ### what is walked -/
theorem wk_list {K : PySem.W.Frag} {a : Addr} {xs : List D} : Wk cls p (Itl K a) [(.ref a, .lst xs)] xs := fun N H W h i => by
  cases h _ (List.mem_cons_self ..) with
  | @lst _ vs _ n r hh =>
    refine ⟨fun d e => ?_, fun e => ⟨vs, .inl (.inl r), by rw [hh.length]; exact Nat.le_of_eq e.symm⟩⟩
    obtain ⟨v, hv, av⟩ := hh.get e
    refine ⟨⟨vs, v, .inl (.inl r), hv⟩, fun w H' y => ?_⟩
    obtain ⟨rfl, y⟩ := y
    have := y vs (.inl (.inl r))
    rw [hv] at this
    cases this
    exact ⟨Go.refl _, av⟩
theorem wk_tup {K : PySem.W.Frag} {a : Addr} {xs : List D} : Wk cls p (Itt K a) [(.ref a, .tup xs)] xs := fun N H W h i => by
  cases h _ (List.mem_cons_self ..) with
  | @tup _ vs _ n r hh =>
    refine ⟨fun d e => ?_, fun e => ⟨vs, .inl (.inl r), by rw [hh.length]; exact Nat.le_of_eq e.symm⟩⟩
    obtain ⟨v, hv, av⟩ := hh.get e
    refine ⟨⟨vs, v, .inl (.inl r), hv⟩, fun w H' y => ?_⟩
    obtain ⟨rfl, y⟩ := y
    have := y vs (.inl (.inl r))
    rw [hv] at this
    cases this
    exact ⟨Go.refl _, av⟩
def irng (lo : Int) (n : Nat) : List D := (List.range n).map fun (i : Nat) => D.int (lo + i)
theorem wk_range {lo : Int} {n : Nat} : Wk cls p (Itr lo n) [] (irng lo n) := fun N H W h i => by
  refine ⟨fun d e => ?_, fun e => ?_⟩
  · unfold irng at e
    rw [List.getElem?_map] at e
    cases q : (List.range n)[i]? with
    | none => rw [q] at e; cases e
    | some j =>
      rw [q] at e
      cases e
      have hi : i < n := by
        have := (List.getElem?_eq_some_iff.mp q).1
        rwa [List.length_range] at this
      have hj : j = i := by
        rw [List.getElem?_range hi] at q
        exact (Option.some.inj q).symm
      subst hj
      refine ⟨hi, fun v H' y => ?_⟩
      obtain ⟨rfl, rfl⟩ := y
      exact ⟨Go.refl _, .int _⟩
  · unfold irng at e
    rw [List.length_map, List.length_range] at e
    exact Nat.le_of_eq e.symm
def zips : List D → List D → List D
  | x :: xs, y :: ys => .tup [x, y] :: zips xs ys
  | _, _ => []
theorem zips_get : ∀ {xs ys : List D} {i : Nat} {d : D}, (zips xs ys)[i]? = some d → ∃ x y, xs[i]? = some x ∧ ys[i]? = some y ∧ d = .tup [x, y]
  | [], _, _, _, e => nomatch e
  | _ :: _, [], _, _, e => nomatch e
  | x :: xs, y :: ys, 0, d, e => by
    have e : some (D.tup [x, y]) = some d := e
    cases e
    exact ⟨x, y, rfl, rfl, rfl⟩
  | _ :: xs, _ :: ys, i + 1, d, e => zips_get (xs := xs) (ys := ys) (i := i) e
theorem zips_len : ∀ {xs ys : List D}, (zips xs ys).length = min xs.length ys.length
  | [], _ => by rw [List.length_nil, Nat.zero_min]; rfl
  | _ :: _, [] => by rw [List.length_nil, Nat.min_zero]; rfl
  | x :: xs, y :: ys => by
    show (zips xs ys).length + 1 = min (xs.length + 1) (ys.length + 1)
    rw [zips_len]
    omega
/-- a list or a tuple -/
def sq (k : Bool) (xs : List D) : D := if k = true then .lst xs else .tup xs
theorem at_sq {K : PySem.W.Frag} {N : Addr → Prop} {H : Hp} {k : Bool} {a : Addr} {xs : List D} (h : At cls N H (.ref a) (sq k xs)) : ∃ vs, SqK K k H a vs ∧ AtAll cls N H vs xs := by
  cases k with
  | true => cases h with | @lst _ vs _ n r hh => exact ⟨vs, .inl (.inl r), hh⟩
  | false => cases h with | @tup _ vs _ n r hh => exact ⟨vs, .inl (.inl r), hh⟩
theorem ref_sq {N : Addr → Prop} {H : Hp} {k : Bool} {v : V} {xs : List D} (h : At cls N H v (sq k xs)) : ∃ a, v = .ref a := by
  cases k with
  | true => cases h with | @lst a vs _ n r hh => exact ⟨a, rfl⟩
  | false => cases h with | @tup a vs _ n r hh => exact ⟨a, rfl⟩
theorem wk_zipS {K : PySem.W.Frag} {k l : Bool} {a b : Addr} {xs ys : List D} : Wk cls p (ItzS K k l a b) [(.ref a, sq k xs), (.ref b, sq l ys)] (zips xs ys) := fun N H W h i => by
  obtain ⟨vs, r, hh⟩ := at_sq (K := K) (h _ (List.mem_cons_self ..))
  obtain ⟨ws, r', hh'⟩ := at_sq (K := K) (h _ (List.mem_cons_of_mem _ (List.mem_cons_self ..)))
  refine ⟨fun d e => ?_, fun e => ⟨vs, ws, r, r', ?_⟩⟩
  · obtain ⟨x, y, ex, ey, rfl⟩ := zips_get e
    obtain ⟨v, hv, av⟩ := hh.get ex
    obtain ⟨w, hw, aw⟩ := hh'.get ey
    refine ⟨⟨vs, ws, v, w, r, r', hv, hw⟩, fun u H' z => ?_⟩
    obtain ⟨T, x2, y2, rfl, hT, rfl, z1, z2⟩ := z
    have e1 := z1 vs r
    have e2 := z2 ws r'
    rw [hv] at e1
    rw [hw] at e2
    cases e1
    cases e2
    have g : Go p H (upd H T (.tup [v, w])) := Go.new hT
    exact ⟨g, .tup (fresh_hid W hT) upd_same (.cons (av.mono W.sub g) (.cons (aw.mono W.sub g) .nil))⟩
  · rw [zips_len] at e
    rw [hh.length, hh'.length]
    omega

/-- either of two readings -/
def iOr (w1 w2 : TI) : TI := fun σ H R => w1 σ H R ∨ w2 σ H R
theorem pi_or {X : Cx} {tg it : Expr} {w1 w2 : TI} (h1 : PI X tg it w1) (h2 : PI X tg it w2) : PI X tg it (iOr w1 w2) :=
  ⟨fun pins s σ H R I h => h.elim (h1.run pins s σ H R I) (h2.run pins s σ H R I)⟩
theorem ei_l {w1 w2 : TI} (h : EI cls p w1 ds PA) : EI cls p (iOr w1 w2) ds PA := fun pn N H0 ad σ H S R q => .inl (h pn N H0 ad σ H S R q)
theorem ei_r {w1 w2 : TI} (h : EI cls p w2 ds PA) : EI cls p (iOr w1 w2) ds PA := fun pn N H0 ad σ H S R q => .inr (h pn N H0 ad σ H S R q)
def eOr (t1 t2 : TE) : TE := fun σ H Q => t1 σ H Q ∨ t2 σ H Q
theorem pe_or2 {X : Cx} {e : Expr} {t1 t2 : TE} (h1 : PE X e t1) (h2 : PE X e t2) : PE X e (eOr t1 t2) :=
  ⟨fun pins s σ H Q I h => h.elim (h1.run pins s σ H Q I) (h2.run pins s σ H Q I)⟩
theorem ev_l {t1 t2 : TE} (h : Ev cls p t1 ds P) : Ev cls p (eOr t1 t2) ds P := fun pn N H0 ad σ H S Q q => .inl (h pn N H0 ad σ H S Q q)
theorem ev_r {t1 t2 : TE} (h : Ev cls p t2 ds P) : Ev cls p (eOr t1 t2) ds P := fun pn N H0 ad σ H S Q q => .inr (h pn N H0 ad σ H S Q q)

theorem ei_list {K : PySem.W.Frag} (h : Ev cls p te ds P) (hp : ∀ d, P d → ∃ xs, d = .lst xs) : EI cls p (iList K te) ds (fun xs => P (.lst xs)) := fun pn N H0 ad σ H S R q =>
  h pn N H0 ad σ H S _ fun v H1 d pd g a => by
    obtain ⟨xs, rfl⟩ := hp d pd
    cases a with
    | @lst a vs _ n r hh =>
      refine ⟨a, rfl, ⟨vs, .inl (.inl r)⟩, q _ H1 xs [(.ref a, .lst xs)] pd g (fun x hx => ?_) wk_list⟩
      rw [List.mem_singleton] at hx
      rw [hx]
      exact .lst n r hh
theorem ei_tup {K : PySem.W.Frag} (h : Ev cls p te ds P) (hp : ∀ d, P d → ∃ xs, d = .tup xs) : EI cls p (iTup K te) ds (fun xs => P (.tup xs)) := fun pn N H0 ad σ H S R q =>
  h pn N H0 ad σ H S _ fun v H1 d pd g a => by
    obtain ⟨xs, rfl⟩ := hp d pd
    cases a with
    | @tup a vs _ n r hh =>
      refine ⟨a, rfl, ⟨vs, .inl (.inl r)⟩, q _ H1 xs [(.ref a, .tup xs)] pd g (fun x hx => ?_) wk_tup⟩
      rw [List.mem_singleton] at hx
      rw [hx]
      exact .tup n r hh
theorem ei_range1 (h : EvA cls p t ds PA) (hp : ∀ xs, PA xs → ∃ n : Int, xs = [.int n] ∧ -(2 ^ 62) ≤ n ∧ n < 2 ^ 62) : EI cls p (iRng1 t) ds (fun xs => ∃ n : Int, PA [.int n] ∧ xs = irng 0 n.toNat) := fun pn N H0 ad σ H S R q =>
  h pn N H0 ad σ H S _ fun vs H1 xs ps g a => by
    obtain ⟨n, rfl, h1, h2⟩ := hp xs ps
    cases a with
    | cons a b =>
      cases a
      cases b
      exact ⟨n, rfl, h1, h2, q _ H1 _ [] ⟨n, ps, rfl⟩ g (fun x hx => nomatch hx) wk_range⟩
theorem ei_range2 (h : EvA cls p t ds PA) (hp : ∀ xs, PA xs → ∃ m n : Int, xs = [.int m, .int n] ∧ -(2 ^ 62) ≤ m ∧ m < 2 ^ 62 ∧ -(2 ^ 62) ≤ n ∧ n < 2 ^ 62) :
    EI cls p (iRng2 t) ds (fun xs => ∃ m n : Int, PA [.int m, .int n] ∧ xs = irng m (n - m).toNat) := fun pn N H0 ad σ H S R q =>
  h pn N H0 ad σ H S _ fun vs H1 xs ps g a => by
    obtain ⟨m, n, rfl, h1, h2, h3, h4⟩ := hp xs ps
    cases a with
    | cons a b =>
      cases a
      cases b with
      | cons b c =>
        cases b
        cases c
        exact ⟨m, n, rfl, ⟨h1, h2, h3, h4⟩, q _ H1 _ [] ⟨m, n, ps, rfl⟩ g (fun x hx => nomatch hx) wk_range⟩
theorem ei_zip {K : PySem.W.Frag} (h : EvA cls p t ds PA) (hp : ∀ xs, PA xs → ∃ k l a b, xs = [sq k a, sq l b]) : EI cls p (iZipS K t) ds (fun xs => ∃ k l a b, PA [sq k a, sq l b] ∧ xs = zips a b) := fun pn N H0 ad σ H S R q =>
  h pn N H0 ad σ H S _ fun vs H1 xs ps g a => by
    obtain ⟨k, l, m, n, rfl⟩ := hp xs ps
    cases a with
    | cons a b =>
    cases b with
    | cons b c =>
      cases c
      obtain ⟨a', rfl⟩ := ref_sq a
      obtain ⟨b', rfl⟩ := ref_sq b
      obtain ⟨vs, r, _⟩ := at_sq (K := K) a
      obtain ⟨ws, r', _⟩ := at_sq (K := K) b
      refine ⟨a', b', k, l, vs, ws, rfl, r, r', q _ H1 _ _ ⟨_, _, _, _, ps, rfl⟩ g (fun x hx => ?_) wk_zipS⟩
      rcases List.mem_cons.mp hx with z | hx
      · rw [z]; exact a
      · rw [List.mem_singleton] at hx
        rw [hx]; exact b

/-! ### comprehensions -/
theorem Paired.snoc {α β : Type} {F : α → β → Prop} : ∀ {xs : List α} {ys : List β} {x : α} {y : β}, Paired F xs ys → F x y → Paired F (xs ++ [x]) (ys ++ [y])
  | _, _, _, _, .nil, h => .cons h .nil
  | _, _, _, _, .cons r t, h => .cons r (Paired.snoc t h)
theorem Go.chg {H H1 H' : Hp} {l : Addr} {o : HO} (g : Go p H H') (hl : H l = none) (hp : ∀ a, p a → H a ≠ none) : Go p H (upd H' l o) :=
  ⟨fun a u n e => by rw [upd_ne (ne_of_none e hl)]; exact g.ext a u n e, fun a h q => by
    obtain ⟨x, y, e, z⟩ := g.pot a h q
    exact ⟨x, y, by rw [upd_ne (fun w => hp a h (by rw [w]; exact hl))]; exact e, z⟩⟩
theorem ev_lc {wi : TI} {g : TG} {vs : List Nat} {js : List Nat} {PI : List D → Prop} {b : D → Bool} {Pe : D → D → Prop} (hi : EI cls p wi ds PI) (hz : ∀ xs, PI xs → xs.length ≤ 100000) (hj : ∀ j ∈ js, j ∈ vs)
    (h : ∀ xs, PI xs → ∀ x ∈ xs, ∃ ds', EvG cls p g js x (wipeD ds vs) ds' ∧ ds'.map ownOf = ds.map ownOf ∧ ET cls p tt ds' (· = b x) ∧ (b x = true → Ev cls p te ds' (Pe x)))
    (hw : (wipeD ds vs).map ownOf = ds.map ownOf) :
    Ev cls p (tLc wi g tt te vs) ds (fun d => ∃ xs ys, PI xs ∧ Paired Pe (xs.filter b) ys ∧ d = .lst ys) := by
  intro pn N H0 ad σ H S Q q
  refine hi pn N H0 ad σ H S _ fun J H1 xs qs px g1 hq wk => ?_
  intro DD hD
  have S1 := S.mono g1
  have hNl : ¬ hid N ad ds DD := fresh_hid S1.hwf hD
  have hpD : ¬ p DD := fun z => hNl (S1.hsub _ z)
  have h0D : H0 DD = none := by
    cases e : H0 DD with
    | none => rfl
    | some o => rw [S1.go.ext _ _ hpD e] at hD; cases hD
  have hp1 : ∀ a, p a → H1 a ≠ none := fun a z => S1.wf.dom a (S1.wf.sub a z)
  let N2 : Addr → Prop := fun a => N a ∨ a = DD
  have hmD : ∀ (i : Nat) (c : Con), ds[i]? = some (some (Slot.mut c)) → ad i ≠ DD := fun i c e z => by
    obtain ⟨_, _, _, _, _, hc⟩ := S1.mt i c e
    exact hc.ne (by rw [z]; exact hD)
  have SL : Sta cls p (qs ++ pn) N2 H0 ad (upd H1 DD (.lst [])) σ ds := (S1.pins hq).lay hD
  refine ⟨fun i m H' => m = xs.length - i ∧ i ≤ xs.length ∧ (∃ acc ys, H' DD = some (.lst acc) ∧ AtAll cls (hid N2 ad ds) H' acc ys ∧ Paired Pe ((xs.take i).filter b) ys) ∧ Sta cls p (qs ++ pn) N2 H0 ad H' σ ds ∧ Go p H1 H',
    ⟨xs.length, by rw [Nat.sub_zero], Nat.zero_le _, ⟨[], [], upd_same, .nil, .nil⟩, SL, (Go.refl H1).chg (H1 := H1) hD hp1⟩, ?_⟩
  rintro i m H' ⟨rfl, hi2, ⟨acc, ys, e, aa, pp⟩, S2, g2⟩
  have wki := wk _ H' S2.hwf (fun x hx => S2.pin x (List.mem_append_left _ hx)) i
  by_cases hlt : i < xs.length
  · refine .inr ?_
    have ei : xs[i]? = some xs[i] := List.getElem?_eq_getElem hlt
    obtain ⟨k1, k2⟩ := wki.1 _ ei
    refine ⟨k1, fun H' => (∃ acc ys, H' DD = some (.lst acc) ∧ AtAll cls (hid N2 ad ds) H' acc ys ∧ Paired Pe ((xs.take (i + 1)).filter b) ys) ∧ Sta cls p (qs ++ pn) N2 H0 ad H' σ ds ∧ Go p H1 H',
      fun H3 ⟨z1, z2, z3⟩ => ⟨xs.length - (i + 1), by omega, rfl, hlt, z1, z2, z3⟩, fun x H3 y => ?_⟩
    obtain ⟨g3, a3⟩ := k2 x H3 y
    have S3 := S2.mono g3
    obtain ⟨ds', hg, ho, ht, he⟩ := h xs px xs[i] (List.getElem_mem hlt)
    have ew : hid N2 ad (wipeD ds vs) = hid N2 ad ds := hid_congr hw
    have ed : hid N2 ad ds' = hid N2 ad ds := hid_congr ho
    refine hg _ N2 H0 ad _ H3 (S3.wipe vs) x (by rw [ew]; exact a3) _ fun σ' S4 w => ⟨?_, ?_⟩
    · rw [w vs hj, wipe_wipe]
    refine ht _ N2 H0 ad σ' H3 S4 _ fun c H4 ec g4 => ?_
    have S5 := S3.mono g4
    have tk : xs.take (i + 1) = xs.take i ++ [xs[i]] := by rw [List.take_add_one, ei]; rfl
    subst ec
    cases hb : b xs[i] with
    | true =>
      rw [if_pos rfl]
      refine he hb _ N2 H0 ad σ' H4 (S4.mono g4) _ fun v H5 d pd g5 a5 => ?_
      rw [ed] at a5
      have S6 := S5.mono g5
      have e5 : H5 DD = some (.lst acc) := ((g3.trans g4).trans g5).ext _ _ hpD e
      have a6 : AtAll cls (hid N2 ad ds) H5 acc ys := aa.mono S2.hsub ((g3.trans g4).trans g5)
      refine ⟨acc, e5, ?_, ⟨_, ys ++ [d], upd_same, (a6.append (.cons a5 .nil)).keep (fun _ _ n => n) (fun a o n e => by rw [upd_ne (fun z => n (by rw [z]; exact .inl (.inr rfl)))]; exact e), ?_⟩, S6.turn (.inr rfl) hpD h0D hmD, (((g2.trans g3).trans g4).trans g5).chg (H1 := H1) hD hp1⟩
      · have l1 : acc.length = ys.length := aa.length
        have l2 : ys.length = ((xs.take i).filter b).length := pp.length.symm
        have l3 : ((xs.take i).filter b).length ≤ xs.length := Nat.le_trans (List.length_filter_le _ _) (by rw [List.length_take]; exact Nat.min_le_right _ _)
        have := hz xs px
        exact Nat.lt_of_le_of_lt (show acc.length ≤ 100000 by omega) (by decide)
      · rw [tk, List.filter_append, List.filter_cons, hb]
        simp only [if_true, List.filter_nil]
        exact Paired.snoc pp pd
    | false =>
      rw [if_neg Bool.false_ne_true]
      have e4 : H4 DD = some (.lst acc) := (g3.trans g4).ext _ _ hpD e
      refine ⟨⟨acc, ys, e4, aa.mono S2.hsub (g3.trans g4), ?_⟩, S5, (g2.trans g3).trans g4⟩
      rw [tk, List.filter_append, List.filter_cons, hb]
      simp only [Bool.false_eq_true, if_false, List.filter_nil, List.append_nil]
      exact pp
  · have ei : i = xs.length := by omega
    subst ei
    refine .inl ⟨wki.2 rfl, q _ H' _ ⟨xs, ys, px, ?_, rfl⟩ (g1.trans g2) (.lst hNl e (aa.less fun a z => z.elim (fun y => .inl (.inl y)) .inr))⟩
    rw [List.take_length] at pp
    exact pp

/-! ### statements -/
variable {nx nx' bk ct : Sts → Prop} {rt : D → Prop} {ts tu' : TS}
theorem sv_seq (h1 : Sv cls p ts ds nx' rt bk ct) (h2 : ∀ ds', nx' ds' → Sv cls p tu' ds' nx rt bk ct) : Sv cls p (tSeq ts tu') ds nx rt bk ct := fun pn N H0 ad σ H S Dn q1 q2 q3 q4 =>
  h1 pn N H0 ad σ H S { Dn with nx := tu' Dn } (fun ad' σ' H' ds' z S' => h2 ds' z pn N H0 ad' σ' H' S' Dn q1 q2 q3 q4) q2 q3 q4
theorem sv_next (h : nx ds) : Sv cls p tNext ds nx rt bk ct := fun pn N H0 ad σ H S Dn q1 _ _ _ => q1 ad σ H ds h S
theorem sv_break (h : bk ds) : Sv cls p tBreak ds nx rt bk ct := fun pn N H0 ad σ H S Dn _ _ q3 _ => q3 ad σ H ds h S
theorem sv_cont (h : ct ds) : Sv cls p tCont ds nx rt bk ct := fun pn N H0 ad σ H S Dn _ _ _ q4 => q4 ad σ H ds h S
theorem sv_asg {g : TG} {js : List Nat} (h : Ev cls p te ds P) (k : ∀ d, P d → ∃ ds', EvG cls p g js d ds ds' ∧ nx ds') : Sv cls p (tAsg te g) ds nx rt bk ct := fun pn N H0 ad σ H S Dn q1 _ _ _ =>
  h pn N H0 ad σ H S _ fun v H1 d pd g1 a => by
    obtain ⟨ds', hg, hn⟩ := k d pd
    exact hg pn N H0 ad σ H1 (S.mono g1) v a _ fun σ' S' _ => q1 ad σ' H1 ds' hn S'
theorem sv_set {i : Nat} (h : Ev cls p te ds P) (k : ∀ d, P d → nx (ds.set i (some (Slot.dat d)))) : Sv cls p (tAsg te (gName i)) ds nx rt bk ct := sv_asg h fun d pd => ⟨_, eg_name, k d pd⟩
theorem sv_ret (h : Ev cls p te ds P) (k : ∀ d, P d → rt d) : Sv cls p (tRet te) ds nx rt bk ct := fun pn N H0 ad σ H S Dn _ q2 _ _ =>
  h pn N H0 ad σ H S _ fun v H1 d pd g1 a => q2 v H1 d (k d pd) (S.go.trans g1) (a.less fun _ z => .inl z)
theorem sv_retN (h : rt .non) : Sv cls p tRetN ds nx rt bk ct := fun pn N H0 ad σ H S Dn _ q2 _ _ => q2 .non H .non h S.go .non
theorem sv_if (h : ET cls p tt ds B) (k : B true → Sv cls p ts ds nx rt bk ct) (k' : B false → Sv cls p tu' ds nx rt bk ct) : Sv cls p (tIfS tt ts tu') ds nx rt bk ct := fun pn N H0 ad σ H S Dn q1 q2 q3 q4 =>
  h pn N H0 ad σ H S _ fun b H1 pb g1 => by
    cases b with
    | true => exact k pb pn N H0 ad σ H1 (S.mono g1) Dn q1 q2 q3 q4
    | false => exact k' pb pn N H0 ad σ H1 (S.mono g1) Dn q1 q2 q3 q4
theorem sv_expr (h : Ev cls p te ds P) (k : nx ds) : Sv cls p (tDrop te) ds nx rt bk ct := fun pn N H0 ad σ H S Dn q1 _ _ _ =>
  h pn N H0 ad σ H S _ fun v H1 d pd g1 a => q1 ad σ H1 ds k (S.mono g1)
theorem sv_par {i j : Nat} (h : EvA cls p t ds PA) (k : ∀ xs, PA xs → ∃ a b, xs = [a, b] ∧ nx ((ds.set i (some (Slot.dat a))).set j (some (Slot.dat b)))) : Sv cls p (tPar i j t) ds nx rt bk ct := fun pn N H0 ad σ H S Dn q1 _ _ _ =>
  h pn N H0 ad σ H S _ fun vs H1 xs ps g1 a => by
    obtain ⟨x, y, rfl, hn⟩ := k xs ps
    cases a with
    | cons a b =>
    cases b with
    | cons b c =>
      cases c
      exact ⟨_, _, rfl, q1 ad _ H1 _ hn (((S.mono g1).put a).put (b.less hid_set))⟩
theorem sv_augI {i : Nat} {x : Int} {f : Int → Int → Int} (e : ds[i]? = some (some (Slot.dat (.int x)))) (h : Ev cls p te ds P) (hx : IntP P) (k : ∀ y, P (.int y) → nx (ds.set i (some (Slot.dat (.int (f x y)))))) : Sv cls p (tAug i te (ipI f)) ds nx rt bk ct := fun pn N H0 ad σ H S Dn q1 _ _ _ => by
  obtain ⟨v, h1, h2⟩ := S.dat i _ e
  cases h2
  refine ⟨_, h1, h pn N H0 ad σ H S _ fun w H1 d pd g1 a => ?_⟩
  obtain ⟨y, rfl⟩ := hx d pd
  cases a
  exact ⟨x, y, rfl, rfl, q1 ad _ H1 _ (k y pd) ((S.mono g1).put (.int _))⟩
/-- an own list begins -/
theorem sv_new {i : Nat} (hi : i < ds.length) (k : nx (ds.set i (some (Slot.own [])))) : Sv cls p (tAsg (tLst tNil) (gName i)) ds nx rt bk ct := fun pn N H0 ad σ H S Dn q1 _ _ _ =>
  ⟨Nat.zero_le _, fun l hl => q1 _ _ _ _ k (S.fresh hl hi)⟩
/-- own.append(e) -/
theorem sv_app {K : PySem.W.Frag} {i : Nat} {xs : List D} (e : ds[i]? = some (some (Slot.own xs))) (h : Ev cls p te ds P) (hz : xs.length < 100000) (k : ∀ d, P d → nx (ds.set i (some (Slot.own (xs ++ [d]))))) :
    Sv cls p (tDrop (tBM K "list" rAppend (tVar i) (tCons te tNil))) ds nx rt bk ct := fun pn N H0 ad σ H S Dn q1 _ _ _ => by
  obtain ⟨h1, h2, h3, vs, h4, h5⟩ := S.own i xs e
  refine ⟨.ref (ad i), h1, .inl ⟨rfl, _, .inl (.inl h4)⟩, h pn N H0 ad σ H S _ fun v H1 d pd g1 a => ?_⟩
  have S1 := S.mono g1
  have e4 : H1 (ad i) = some (.lst vs) := g1.ext _ _ (fun z => h2 (S.wf.sub _ z)) h4
  have hl : vs.length < sizeLine := by rw [h5.length]; exact Nat.lt_of_lt_of_le hz (by decide)
  exact ⟨ad i, vs, v, rfl, rfl, e4, hl, q1 ad σ _ _ (k d pd) (S1.change e ((h5.mono S.hsub g1).append (.cons a .nil)))⟩
/-- own[i] = e -/
theorem sv_item {i : Nat} {xs : List D} {PI : D → Prop} (e : ds[i]? = some (some (Slot.own xs))) (h : Ev cls p te ds P) (hi : Ev cls p ta ds PI) (k : ∀ d dj, P d → PI dj → ∃ (k : Int) (j : Nat), dj = .int k ∧ ixN xs.length k = some j ∧ nx (ds.set i (some (Slot.own (xs.set j d))))) :
    Sv cls p (tAsg te (gSub (tVar i) ta rSetL)) ds nx rt bk ct := fun pn N H0 ad σ H S Dn q1 _ _ _ =>
  h pn N H0 ad σ H S _ fun v H1 d pd g1 a => by
    have S1 := S.mono g1
    obtain ⟨h1, h2, h3, vs, h4, h5⟩ := S1.own i xs e
    refine ⟨.ref (ad i), h1, hi pn N H0 ad σ H1 S1 _ fun w H2 dj pj g2 b => ?_⟩
    have S2 := S1.mono g2
    obtain ⟨z, j, rfl, ej, hn⟩ := k d dj pd pj
    cases b
    have e4 : H2 (ad i) = some (.lst vs) := g2.ext _ _ (fun y => h2 (S1.wf.sub _ y)) h4
    exact ⟨ad i, vs, z, j, rfl, rfl, e4, by rw [h5.length]; exact ej, q1 ad σ _ _ hn (S2.change e ((h5.mono S1.hsub g2).set (a.mono S1.hsub g2)))⟩
/-- an own list is data from here on -/
theorem sv_freeze {i : Nat} {xs : List D} (e : ds[i]? = some (some (Slot.own xs))) (h : Sv cls p ts (ds.set i (some (Slot.dat (.lst xs)))) nx rt bk ct) : Sv cls p ts ds nx rt bk ct := fun pn N H0 ad σ H S Dn q1 q2 q3 q4 =>
  h pn N H0 ad σ H (S.freeze e) Dn q1 q2 q3 q4
theorem sv_for {wi : TI} {g : TG} {PI : List D → Prop} (hi : EI cls p wi ds PI)
    (h : ∀ xs, PI xs → ∃ Jv : Nat → Sts → Prop, Jv 0 ds ∧ (∀ i d ds1, xs[i]? = some d → Jv i ds1 → ∃ js ds2, EvG cls p g js d ds1 ds2 ∧ Sv cls p ts ds2 (Jv (i + 1)) rt nx (Jv (i + 1))) ∧ ∀ ds1, Jv xs.length ds1 → nx ds1) :
    Sv cls p (tFor wi g ts) ds nx rt bk ct := by
  intro pn N H0 ad σ H S Dn q1 q2 _ _
  refine hi pn N H0 ad σ H S _ fun J H1 xs qs px g1 hq wk => ?_
  obtain ⟨Jv, j0, jt, je⟩ := h xs px
  refine ⟨fun i m σ H => m = xs.length - i ∧ i ≤ xs.length ∧ ∃ ad' ds1, Jv i ds1 ∧ Sta cls p (qs ++ pn) N H0 ad' H σ ds1, ⟨xs.length, by rw [Nat.sub_zero], Nat.zero_le _, ad, ds, j0, (S.mono g1).pins hq⟩, ?_⟩
  rintro i m σ1 H2 ⟨rfl, hi2, ad', ds1, jv, S1⟩
  have wki := wk _ H2 S1.hwf (fun x hx => S1.pin x (List.mem_append_left _ hx)) i
  by_cases hlt : i < xs.length
  · obtain ⟨k1, k2⟩ := wki.1 _ (List.getElem?_eq_getElem hlt)
    refine .inr ⟨k1, fun σ' H' => ∃ ad' ds2, Jv (i + 1) ds2 ∧ Sta cls p (qs ++ pn) N H0 ad' H' σ' ds2, fun σ' H' ⟨a, b, c, d⟩ => ⟨xs.length - (i + 1), by omega, rfl, hlt, a, b, c, d⟩, fun x H3 y => ?_⟩
    obtain ⟨g3, a3⟩ := k2 x H3 y
    obtain ⟨js, ds2, hg, hs⟩ := jt i _ ds1 (List.getElem?_eq_getElem hlt) jv
    refine hg _ N H0 ad' σ1 H3 (S1.mono g3) x a3 _ fun σ' S4 _ => ?_
    exact hs _ N H0 ad' σ' H3 S4 _ (fun a s h d z S => ⟨a, d, z, S⟩) q2 (fun a s h d z S => q1 a s h d z S.unpin) (fun a s h d z S => ⟨a, d, z, S⟩)
  · have ei : i = xs.length := by omega
    subst ei
    exact .inl ⟨wki.2 rfl, q1 ad' σ1 H2 ds1 (je ds1 jv) S1.unpin⟩
theorem sv_while (Pv : Sts → Prop) (μ : Sts → Nat) (h0 : Pv ds) (h : ∀ ds, Pv ds → ∃ B, ET cls p tt ds B ∧ (B true → Sv cls p ts ds (fun d => Pv d ∧ μ d < μ ds) rt nx (fun d => Pv d ∧ μ d < μ ds)) ∧ (B false → nx ds)) :
    Sv cls p (tWhile tt ts) ds nx rt bk ct := by
  intro pn N H0 ad σ H S Dn q1 q2 _ _
  refine ⟨fun m σ H => ∃ ad ds, m = μ ds ∧ Pv ds ∧ Sta cls p pn N H0 ad H σ ds, ⟨_, ad, ds, rfl, h0, S⟩, ?_⟩
  rintro m σ H ⟨ad, ds, rfl, pv, S⟩
  obtain ⟨B, ht, h1, h2⟩ := h ds pv
  refine ht pn N H0 ad σ H S _ fun b H1 pb g => ?_
  cases b with
  | true =>
    refine ⟨fun σ' H' => ∃ m', m' < μ ds ∧ ∃ ad ds, m' = μ ds ∧ Pv ds ∧ Sta cls p pn N H0 ad H' σ' ds, fun _ _ z => z, ?_⟩
    exact h1 pb pn N H0 ad σ H1 (S.mono g) _ (fun a s h d z S => ⟨_, z.2, a, d, rfl, z.1, S⟩) q2 (fun a s h d z S => q1 a s h d z S) (fun a s h d z S => ⟨_, z.2, a, d, rfl, z.1, S⟩)
  | false => exact q1 ad σ H1 ds (h2 pb) (S.mono g)
end
end Lk

namespace Lk
open PySem PySem.Spec L2

/-! ### data as the library's data -/
/-- a key as the library's data -/
def keyP : Key → PyData
  | .inl i => .int i
  | .inr x => .str x
mutual
def py : D → PyData
  | .non => .none
  | .bl b => .bool b
  | .int i => .int i
  | .str x => .str x
  | .lst xs => .list (pyAll xs)
  | .tup xs => .tuple (pyAll xs)
  | .ty _ => .none
  | .dk ks ds => .dict ((ks.map keyP).zip (pyAll ds))
  | .obj _ _ _ => .none
  | .adr _ => .none
  | .scr _ => .none
def pyAll : List D → List PyData
  | [] => []
  | d :: ds => py d :: pyAll ds
end
/-- no objects, no dicts, at most n deep -/
def okD : Nat → D → Bool
  | _, .non => true
  | _, .bl _ => true
  | _, .int _ => true
  | _, .str x => PyData.strOk x
  | n + 1, .lst xs => xs.all (okD n)
  | n + 1, .tup xs => xs.all (okD n)
  | _, _ => false
/-- .. and numbers of some five hundred digits at most -/
def shD : Nat → D → Bool
  | _, .non => true
  | _, .bl _ => true
  | _, .int i => decide (i.natAbs < 2 ^ 1900)
  | n + 1, .lst xs => xs.all (shD n)
  | n + 1, .tup xs => xs.all (shD n)
  | _, _ => false
def szD : Nat → D → Nat
  | n + 1, .lst xs => 4 + (xs.map fun x => szD n x + 2).sum
  | n + 1, .tup xs => 4 + (xs.map fun x => szD n x + 2).sum
  | _, _ => 2000

theorem okD_can : ∀ (n : Nat) (d : D), okD n d = true → (py d).canLay0 = true ∧ (py d).depth ≤ n := by
  have all : ∀ (n : Nat), (∀ d : D, okD n d = true → (py d).canLay0 = true ∧ (py d).depth ≤ n) → ∀ xs : List D, xs.all (okD n) = true → PyData.canLayAll0 (pyAll xs) = true ∧ PyData.depthAll (pyAll xs) ≤ n := by
    intro n ih xs
    induction xs with
    | nil => intro _; exact ⟨rfl, Nat.zero_le _⟩
    | cons x xs ihx =>
      intro h
      rw [List.all_cons, Bool.and_eq_true] at h
      obtain ⟨a1, a2⟩ := ih x h.1
      obtain ⟨b1, b2⟩ := ihx h.2
      unfold pyAll PyData.canLayAll0 PyData.depthAll
      exact ⟨by rw [a1, b1]; rfl, by omega⟩
  intro n
  induction n with
  | zero =>
    intro d h
    cases d with
    | non => exact ⟨rfl, Nat.le_refl _⟩
    | bl b => exact ⟨rfl, Nat.le_refl _⟩
    | int i => exact ⟨rfl, Nat.le_refl _⟩
    | str x => exact ⟨by unfold py PyData.canLay0; exact h, Nat.le_refl _⟩
    | _ => cases h
  | succ n ih =>
    intro d h
    cases d with
    | non => exact ⟨rfl, Nat.zero_le _⟩
    | bl b => exact ⟨rfl, Nat.zero_le _⟩
    | int i => exact ⟨rfl, Nat.zero_le _⟩
    | str x => exact ⟨by unfold py PyData.canLay0; exact h, Nat.zero_le _⟩
    | lst xs =>
      obtain ⟨a, b⟩ := all n ih xs h
      exact ⟨by unfold py PyData.canLay0; exact a, by unfold py PyData.depth; omega⟩
    | tup xs =>
      obtain ⟨a, b⟩ := all n ih xs h
      exact ⟨by unfold py PyData.canLay0; exact a, by unfold py PyData.depth; omega⟩
    | _ => cases h
theorem okD_shaped {n : Nat} {d : D} (h : okD n d = true) (hn : n ≤ 64) : SeqAt.shaped (py d) = true := by
  obtain ⟨a, b⟩ := okD_can n d h
  unfold SeqAt.shaped
  rw [a, decide_eq_true (Nat.le_trans b hn)]
  rfl
theorem dp_of {cls : Cl} {N : Addr → Prop} {H : Hp} {K : PySem.W.Frag} : ∀ (n : Nat) (d : D) (v : V), (okD n d = true ∨ shD n d = true) → At cls N H v d → Dp K H v (py d) := by
  have all : ∀ (n : Nat), (∀ (d : D) (v : V), (okD n d = true ∨ shD n d = true) → At cls N H v d → Dp K H v (py d)) → ∀ (xs : List D) (vs : List V), (xs.all (okD n) = true ∨ xs.all (shD n) = true) → AtAll cls N H vs xs → DpAll K H vs (pyAll xs) := by
    intro n ih xs
    induction xs with
    | nil => intro vs _ a; cases a; exact .nil
    | cons x xs ihx =>
      intro vs h a
      cases a with
      | cons a1 a2 =>
        refine .cons (ih x _ ?_ a1) (ihx _ ?_ a2)
        · rcases h with h | h <;> (rw [List.all_cons, Bool.and_eq_true] at h)
          · exact .inl h.1
          · exact .inr h.1
        · rcases h with h | h <;> (rw [List.all_cons, Bool.and_eq_true] at h)
          · exact .inl h.2
          · exact .inr h.2
  intro n
  induction n with
  | zero =>
    intro d v h a
    cases a with
    | non => exact .non
    | bl b => exact .bl b
    | int i => exact .int i
    | str x => exact .str x
    | _ => rcases h with h | h <;> cases h
  | succ n ih =>
    intro d v h a
    cases a with
    | non => exact .non
    | bl b => exact .bl b
    | int i => exact .int i
    | str x => exact .str x
    | lst nn r hh => exact .lst (.inl (.inl r)) (all n ih _ _ h hh)
    | tup nn r hh => exact .tup (.inl (.inl r)) (all n ih _ _ h hh)
    | _ => rcases h with h | h <;> cases h
theorem listText_le (ts : List Str) : (listText ts).length ≤ 4 + piled ts := by
  unfold listText
  rw [strLen_append]
  have e1 : (("]" : String) : Str).length = 1 := rfl
  cases ts with
  | nil => exact (by decide : (textFrom 0 "[" [] : Str).length + (("]" : String) : Str).length ≤ 4 + piled [])
  | cons t r =>
    show (textFrom 1 ((("[" : String) : Str) ++ (if (0 : Nat) > 0 then ", " else "" : String) ++ t) r).length + _ ≤ _
    rw [textFrom_length_pos r 1 _ (Nat.succ_pos 0), piled_cons, strLen_append, strLen_append, e1]
    have e2 : (("[" : String) : Str).length = 1 := rfl
    have e3 : (((if (0 : Nat) > 0 then ", " else "" : String)) : Str).length = 0 := rfl
    rw [e2, e3]
    omega
theorem tupleText_le (ts : List Str) : (tupleText ts).length ≤ 4 + piled ts := by
  unfold tupleText
  rw [strLen_append, strLen_append]
  have e1 : (("(" : String) : Str).length = 1 := rfl
  have e3 : (((if ts.length == 1 then ",)" else ")" : String) : Str)).length ≤ 2 := by split <;> decide
  rw [e1]
  by_cases h : ts = []
  · subst h
    have e4 : (Str.join ", " []).length = 0 := rfl
    omega
  · have := join_length_add ts h
    omega
theorem shD_show : ∀ (n : Nat) (d : D), shD n d = true → (py d).showable = true ∧ (py d).hasDict = false ∧ (py d).depth ≤ n ∧ (py d).shown.length ≤ szD n d := by
  have int : ∀ i : Int, i.natAbs < 2 ^ 1900 → (PyData.int i).showable = true ∧ (toString i : Str).length ≤ 2000 := by
    intro i hi
    have l : i.natAbs.log2 < 1900 := PySem.Flt.log2_lt_of (by decide) hi
    refine ⟨by unfold PyData.showable; exact decide_eq_true (by omega), ?_⟩
    have h2 := int_text_length_le (a := i) (by decide) l
    have e : (toString i : Str).length = (toString i).length := by
      exact ofString_length _
    rw [e]
    omega
  have all : ∀ (n : Nat), (∀ d : D, shD n d = true → (py d).showable = true ∧ (py d).hasDict = false ∧ (py d).depth ≤ n ∧ (py d).shown.length ≤ szD n d) → ∀ xs : List D, xs.all (shD n) = true →
      PyData.showableAll (pyAll xs) = true ∧ PyData.hasDictAll (pyAll xs) = false ∧ PyData.depthAll (pyAll xs) ≤ n ∧ piled (PyData.shownAll (pyAll xs)) ≤ (xs.map fun x => szD n x + 2).sum := by
    intro n ih xs
    induction xs with
    | nil => intro _; exact ⟨rfl, rfl, Nat.zero_le _, Nat.le_refl _⟩
    | cons x xs ihx =>
      intro h
      rw [List.all_cons, Bool.and_eq_true] at h
      obtain ⟨a1, a2, a3, a4⟩ := ih x h.1
      obtain ⟨b1, b2, b3, b4⟩ := ihx h.2
      unfold pyAll PyData.showableAll PyData.hasDictAll PyData.depthAll PyData.shownAll
      refine ⟨by rw [a1, b1]; rfl, by rw [a2, b2]; rfl, by omega, ?_⟩
      rw [piled_cons, List.map_cons, List.sum_cons]
      omega
  intro n
  induction n with
  | zero =>
    intro d h
    cases d with
    | non => exact ⟨rfl, rfl, Nat.le_refl _, by decide +kernel⟩
    | bl b => cases b <;> exact ⟨rfl, rfl, Nat.le_refl _, by decide +kernel⟩
    | int i =>
      obtain ⟨a, b⟩ := int i (of_decide_eq_true h)
      exact ⟨a, rfl, Nat.le_refl _, b⟩
    | _ => cases h
  | succ n ih =>
    intro d h
    cases d with
    | non => exact ⟨rfl, rfl, Nat.zero_le _, by show (("None" : String) : Str).length ≤ 2000; decide⟩
    | bl b => cases b <;> exact ⟨rfl, rfl, Nat.zero_le _, by first | (show (("True" : String) : Str).length ≤ 2000; decide) | (show (("False" : String) : Str).length ≤ 2000; decide)⟩
    | int i =>
      obtain ⟨a, b⟩ := int i (of_decide_eq_true h)
      exact ⟨a, rfl, Nat.zero_le _, b⟩
    | lst xs =>
      obtain ⟨a, b, c, e⟩ := all n ih xs h
      refine ⟨by unfold py PyData.showable; exact a, by unfold py PyData.hasDict; exact b, by unfold py PyData.depth; omega, ?_⟩
      have := listText_le (PyData.shownAll (pyAll xs))
      unfold py PyData.shown szD
      omega
    | tup xs =>
      obtain ⟨a, b, c, e⟩ := all n ih xs h
      refine ⟨by unfold py PyData.showable; exact a, by unfold py PyData.hasDict; exact b, by unfold py PyData.depth; omega, ?_⟩
      have := tupleText_le (PyData.shownAll (pyAll xs))
      unfold py PyData.shown szD
      omega
    | _ => cases h

/-! ### repr, == -/
def rShow (K : PySem.W.Frag) : List V → Hp → VK → Prop := fun vs H Q => ∃ (v : V) (d : PyData), vs = [v] ∧ Dp K H v d ∧ d.showable = true ∧ d.hasDict = false ∧ d.depth ≤ 20 ∧ d.shown.length ≤ sizeLine ∧ Q (.str d.shown) H
theorem call_show {X : Cx} (hg : X.A.guards = some []) (hu : X.A.units + 64 < cLine) : CallR X (.builtin "repr") (rShow X.K) := by
  intro pins s σ H xs us Q I r h
  obtain ⟨v, d, rfl, dp, h1, h2, h3, h4, q⟩ := h
  obtain ⟨u, rfl, ru⟩ := L2.vals1 r
  obtain ⟨as, rd⟩ := Dp.reads I d v u dp ru
  cases dp with
  | non => cases ru; exact PySem.P.repr_of_none ⟨.str _, H, I.tok _, ⟨_, rfl⟩, q⟩
  | bl b => cases ru; exact PySem.P.repr_of_bool ⟨.str _, H, I.tok _, ⟨_, rfl⟩, q⟩
  | int i =>
    obtain ⟨t, rfl⟩ := ru
    exact PySem.P.repr_of_int (of_decide_eq_true h1) ⟨.str _, H, I.tok _, ⟨_, rfl⟩, q⟩
  | str x =>
    obtain ⟨t, rfl⟩ := ru
    exact PySem.P.repr_of_str ⟨.str _, H, I.tok _, ⟨_, rfl⟩, q⟩ h4
  | lst _ _ =>
    cases ru
    exact repr_of_reads' rd h1 (fun z => by rw [h2] at z; cases z) hg (by omega) (fun _ _ e => e) (fun h' u tk k => ⟨.str _, H, I.kept k, ⟨_, rfl⟩, q⟩) h4
  | tup _ _ =>
    cases ru
    exact repr_of_reads' rd h1 (fun z => by rw [h2] at z; cases z) hg (by omega) (fun _ _ e => e) (fun h' u tk k => ⟨.str _, H, I.kept k, ⟨_, rfl⟩, q⟩) h4
/-- two rules for one operator -/
def rOr (r1 r2 : R2) : R2 := fun x y H Q => r1 x y H Q ∨ r2 x y H Q
theorem op_or {X : Cx} {f : Value → Value → Sem Value} {r1 r2 : R2} (h1 : OpR X f r1) (h2 : OpR X f r2) : OpR X f (rOr r1 r2) := fun pins s σ H x y v u Q I rx ry h => h.elim (h1 pins s σ H x y v u Q I rx ry) (h2 pins s σ H x y v u Q I rx ry)
def cOr (r1 r2 : List V → Hp → VK → Prop) : List V → Hp → VK → Prop := fun vs H Q => r1 vs H Q ∨ r2 vs H Q
theorem call_or {X : Cx} {f : Value} {r1 r2 : List V → Hp → VK → Prop} (h1 : CallR X f r1) (h2 : CallR X f r2) : CallR X f (cOr r1 r2) := fun pins s σ H xs us Q I r h => h.elim (h1 pins s σ H xs us Q I r) (h2 pins s σ H xs us Q I r)

section
variable {cls : Cl} {p : Addr → Prop} {ds ds' : Sts} {ta tb tc te : TE} {P PX PY PZ : D → Prop} {t : TA} {PA PB : List D → Prop} {K : PySem.W.Frag}
theorem rv_l {r1 r2 : R2} (h : Rv cls p r1 PX PY P) : Rv cls p (rOr r1 r2) PX PY P := fun N H x y dx dy W ax ay px py Q q => .inl (h N H x y dx dy W ax ay px py Q q)
theorem rv_r {r1 r2 : R2} (h : Rv cls p r2 PX PY P) : Rv cls p (rOr r1 r2) PX PY P := fun N H x y dx dy W ax ay px py Q q => .inr (h N H x y dx dy W ax ay px py Q q)
theorem rc_l {r1 r2 : List V → Hp → VK → Prop} (h : Rc cls p r1 PA P) : Rc cls p (cOr r1 r2) PA P := fun N H vs xs W a ps Q q => .inl (h N H vs xs W a ps Q q)
theorem rc_r {r1 r2 : List V → Hp → VK → Prop} (h : Rc cls p r2 PA P) : Rc cls p (cOr r1 r2) PA P := fun N H vs xs W a ps Q q => .inr (h N H vs xs W a ps Q q)
/-- repr of data -/
theorem rc_show (h : ∀ xs, PA xs → ∃ d n, xs = [d] ∧ n ≤ 20 ∧ shD n d = true ∧ szD n d ≤ 10000000) : Rc cls p (rShow K) PA (fun d => ∃ x, PA [x] ∧ d = .str (py x).shown) := fun N H vs xs W a ps Q q => by
  obtain ⟨d, n, rfl, hn, hs, hz⟩ := h xs ps
  cases a with
  | cons a b =>
    cases b
    obtain ⟨h1, h2, h3, h4⟩ := shD_show n d hs
    exact ⟨_, py d, rfl, dp_of n d _ (.inr hs) a, h1, h2, Nat.le_trans h3 hn, Nat.le_trans (Nat.le_trans h4 hz) (by decide), q _ H _ ⟨d, ps, rfl⟩ (Go.refl H) (.str _)⟩
/-- == and != of data -/
theorem rv_eqD (h : ∀ dx dy, PX dx → PY dy → ∃ n, n ≤ 64 ∧ okD n dx = true ∧ okD n dy = true) : Rv cls p (rEqD K) PX PY (fun d => ∃ x y, PX x ∧ PY y ∧ d = .bl (PyData.eqv (py x) (py y))) := fun N H x y dx dy W ax ay px py' Q q => by
  obtain ⟨n, hn, h1, h2⟩ := h dx dy px py'
  exact ⟨_, _, dp_of n dx x (.inl h1) ax, dp_of n dy y (.inl h2) ay, okD_shaped h1 hn, okD_shaped h2 hn, q _ H _ ⟨dx, dy, px, py', rfl⟩ (Go.refl H) (.bl _)⟩
theorem rv_neD (h : ∀ dx dy, PX dx → PY dy → ∃ n, n ≤ 64 ∧ okD n dx = true ∧ okD n dy = true) : Rv cls p (rNeD K) PX PY (fun d => ∃ x y, PX x ∧ PY y ∧ d = .bl (!PyData.eqv (py x) (py y))) := fun N H x y dx dy W ax ay px py' Q q => by
  obtain ⟨n, hn, h1, h2⟩ := h dx dy px py'
  exact ⟨_, _, dp_of n dx x (.inl h1) ax, dp_of n dy y (.inl h2) ay, okD_shaped h1 hn, okD_shaped h2 hn, q _ H _ ⟨dx, dy, px, py', rfl⟩ (Go.refl H) (.bl _)⟩
/-- == and != of texts, whole numbers, bools -/
theorem rv_eqS (h : ∀ dx dy, PX dx → PY dy → ∃ x y, dx = .str x ∧ dy = .str y) : Rv cls p rEq PX PY (fun d => ∃ x y, PX (.str x) ∧ PY (.str y) ∧ d = .bl (decide (x = y))) := fun N H x y dx dy W ax ay px py' Q q => by
  obtain ⟨a, b, rfl, rfl⟩ := h dx dy px py'
  cases ax
  cases ay
  refine ⟨rfl, ?_⟩
  have e : decide (V.str a = V.str b) = decide (a = b) := by
    by_cases z : a = b
    · subst z; simp
    · rw [decide_eq_false z, decide_eq_false (fun y => z (V.str.inj y))]
  rw [e]
  exact q _ H _ ⟨a, b, px, py', rfl⟩ (Go.refl H) (.bl _)
theorem rv_neS (h : ∀ dx dy, PX dx → PY dy → ∃ x y, dx = .str x ∧ dy = .str y) : Rv cls p rNe PX PY (fun d => ∃ x y, PX (.str x) ∧ PY (.str y) ∧ d = .bl (!decide (x = y))) := fun N H x y dx dy W ax ay px py' Q q => by
  obtain ⟨a, b, rfl, rfl⟩ := h dx dy px py'
  cases ax
  cases ay
  refine ⟨rfl, ?_⟩
  have e : decide (V.str a = V.str b) = decide (a = b) := by
    by_cases z : a = b
    · subst z; simp
    · rw [decide_eq_false z, decide_eq_false (fun y => z (V.str.inj y))]
  rw [e]
  exact q _ H _ ⟨a, b, px, py', rfl⟩ (Go.refl H) (.bl _)
theorem rv_eqI (hx : IntP PX) (hy : IntP PY) : Rv cls p rEq PX PY (SBl (fun i j => decide (i = j)) PX PY) := fun N H x y dx dy W ax ay px py' Q q => by
  obtain ⟨a, rfl⟩ := hx dx px
  obtain ⟨b, rfl⟩ := hy dy py'
  cases ax
  cases ay
  refine ⟨rfl, ?_⟩
  have e : decide (V.int a = V.int b) = decide (a = b) := by
    by_cases z : a = b
    · subst z; simp
    · rw [decide_eq_false z, decide_eq_false (fun y => z (V.int.inj y))]
  rw [e]
  exact q _ H _ ⟨a, b, px, py', rfl⟩ (Go.refl H) (.bl _)
theorem rv_neI (hx : IntP PX) (hy : IntP PY) : Rv cls p rNe PX PY (SBl (fun i j => !decide (i = j)) PX PY) := fun N H x y dx dy W ax ay px py' Q q => by
  obtain ⟨a, rfl⟩ := hx dx px
  obtain ⟨b, rfl⟩ := hy dy py'
  cases ax
  cases ay
  refine ⟨rfl, ?_⟩
  have e : decide (V.int a = V.int b) = decide (a = b) := by
    by_cases z : a = b
    · subst z; simp
    · rw [decide_eq_false z, decide_eq_false (fun y => z (V.int.inj y))]
  rw [e]
  exact q _ H _ ⟨a, b, px, py', rfl⟩ (Go.refl H) (.bl _)
end
end Lk

namespace Lk
open PySem PySem.Spec L2

section
variable {cls : Cl} {p : Addr → Prop} {ds ds' : Sts} {ta tb tc te : TE} {P PX PY PZ : D → Prop} {t : TA} {PA PB : List D → Prop} {K : PySem.W.Frag}

/-! ### built-ins by their name -/
theorem rc_len (h : ∀ xs, PA xs → ∃ k a, xs = [sq k a]) : Rc cls p (fun xs H Q => ∃ p ys, xs = [.ref p] ∧ (SqL K H p ys ∨ SqT K H p ys) ∧ Q (.int ys.length) H) PA (fun d => ∃ k a, PA [sq k a] ∧ d = .int a.length) := fun N H vs xs W a ps Q q => by
  obtain ⟨k, l, rfl⟩ := h xs ps
  cases a with
  | cons a b =>
    cases b
    obtain ⟨r, rfl⟩ := ref_sq a
    obtain ⟨ws, h1, h2⟩ := at_sq (K := K) a
    refine ⟨r, ws, rfl, ?_, ?_⟩
    · cases k with
      | true => exact .inl h1
      | false => exact .inr h1
    · rw [h2.length]
      exact q _ H _ ⟨k, l, ps, rfl⟩ (Go.refl H) (.int _)
theorem rc_tuple (h : ∀ xs, PA xs → ∃ k a, xs = [sq k a]) : Rc cls p (fun xs H Q => ∃ p ys, xs = [.ref p] ∧ ((SqL K H p ys ∧ ∀ l, H l = none → Q (.ref l) (upd H l (.tup ys))) ∨ (SqT K H p ys ∧ Q (.ref p) H))) PA
    (fun d => ∃ k a, PA [sq k a] ∧ d = .tup a) := fun N H vs xs W a ps Q q => by
  obtain ⟨k, l, rfl⟩ := h xs ps
  cases a with
  | cons a b =>
    cases b
    have a0 := a
    obtain ⟨r, rfl⟩ := ref_sq a
    obtain ⟨ws, h1, h2⟩ := at_sq (K := K) a
    refine ⟨r, ws, rfl, ?_⟩
    cases k with
    | true => exact .inl ⟨h1, fun l hl => q _ _ _ ⟨true, _, ps, rfl⟩ (Go.new hl) (.tup (fresh_hid W hl) upd_same (h2.mono W.sub (Go.new hl)))⟩
    | false => exact .inr ⟨h1, q _ H _ ⟨false, _, ps, rfl⟩ (Go.refl H) a0⟩
theorem rc_list (h : ∀ xs, PA xs → ∃ k a, xs = [sq k a]) : Rc cls p (fun xs H Q => ∃ p ys, xs = [.ref p] ∧ (SqL K H p ys ∨ SqT K H p ys) ∧ ∀ l, H l = none → Q (.ref l) (upd H l (.lst ys))) PA
    (fun d => ∃ k a, PA [sq k a] ∧ d = .lst a) := fun N H vs xs W a ps Q q => by
  obtain ⟨k, l, rfl⟩ := h xs ps
  cases a with
  | cons a b =>
    cases b
    obtain ⟨r, rfl⟩ := ref_sq a
    obtain ⟨ws, h1, h2⟩ := at_sq (K := K) a
    refine ⟨r, ws, rfl, ?_, fun l hl => q _ _ _ ⟨k, _, ps, rfl⟩ (Go.new hl) (.lst (fresh_hid W hl) upd_same (h2.mono W.sub (Go.new hl)))⟩
    cases k with
    | true => exact .inl h1
    | false => exact .inr h1
theorem rc_sum (h : ∀ xs, PA xs → ∃ is : List Int, xs = [.lst (is.map D.int)]) : Rc cls p (rSum K) PA (fun d => ∃ is : List Int, PA [.lst (is.map D.int)] ∧ d = .int is.sum) := fun N H vs xs W a ps Q q => by
  obtain ⟨is, rfl⟩ := h xs ps
  cases a with
  | cons a b =>
    cases b
    cases a with
    | @lst a ws _ n r hh =>
      rw [hh.ints] at r
      exact ⟨a, is, rfl, .inl (.inl r), q _ H _ ⟨is, ps, rfl⟩ (Go.refl H) (.int _)⟩
theorem rc_all (h : ∀ xs, PA xs → ∃ bs : List Bool, xs = [.lst (bs.map D.bl)]) : Rc cls p (rAll K) PA (fun d => ∃ bs : List Bool, PA [.lst (bs.map D.bl)] ∧ d = .bl (bs.all id)) := fun N H vs xs W a ps Q q => by
  obtain ⟨is, rfl⟩ := h xs ps
  cases a with
  | cons a b =>
    cases b
    cases a with
    | @lst a ws _ n r hh =>
      rw [hh.bls] at r
      exact ⟨a, is, rfl, .inl (.inl r), q _ H _ ⟨is, ps, rfl⟩ (Go.refl H) (.bl _)⟩
theorem rc_any (h : ∀ xs, PA xs → ∃ bs : List Bool, xs = [.lst (bs.map D.bl)]) : Rc cls p (rAny K) PA (fun d => ∃ bs : List Bool, PA [.lst (bs.map D.bl)] ∧ d = .bl (bs.any id)) := fun N H vs xs W a ps Q q => by
  obtain ⟨is, rfl⟩ := h xs ps
  cases a with
  | cons a b =>
    cases b
    cases a with
    | @lst a ws _ n r hh =>
      rw [hh.bls] at r
      exact ⟨a, is, rfl, .inl (.inl r), q _ H _ ⟨is, ps, rfl⟩ (Go.refl H) (.bl _)⟩
theorem rc_abs (h : ∀ xs, PA xs → ∃ i : Int, xs = [.int i]) : Rc cls p (fun xs H Q => ∃ i, xs = [V.int i] ∧ Q (.int (if i < 0 then -i else i)) H) PA (fun d => ∃ i : Int, PA [.int i] ∧ d = .int (if i < 0 then -i else i)) := fun N H vs xs W a ps Q q => by
  obtain ⟨i, rfl⟩ := h xs ps
  cases a with | cons a b => cases b; cases a; exact ⟨i, rfl, q _ H _ ⟨i, ps, rfl⟩ (Go.refl H) (.int _)⟩
theorem rc_max2 (h : ∀ xs, PA xs → ∃ i j : Int, xs = [.int i, .int j]) : Rc cls p (fun xs H Q => ∃ i j, xs = [V.int i, V.int j] ∧ Q (.int (if j > i then j else i)) H) PA (fun d => ∃ i j : Int, PA [.int i, .int j] ∧ d = .int (if j > i then j else i)) := fun N H vs xs W a ps Q q => by
  obtain ⟨i, j, rfl⟩ := h xs ps
  cases a with | cons a b => cases b with | cons b c => cases c; cases a; cases b; exact ⟨i, j, rfl, q _ H _ ⟨i, j, ps, rfl⟩ (Go.refl H) (.int _)⟩
theorem rc_min2 (h : ∀ xs, PA xs → ∃ i j : Int, xs = [.int i, .int j]) : Rc cls p (fun xs H Q => ∃ i j, xs = [V.int i, V.int j] ∧ Q (.int (if j < i then j else i)) H) PA (fun d => ∃ i j : Int, PA [.int i, .int j] ∧ d = .int (if j < i then j else i)) := fun N H vs xs W a ps Q q => by
  obtain ⟨i, j, rfl⟩ := h xs ps
  cases a with | cons a b => cases b with | cons b c => cases c; cases a; cases b; exact ⟨i, j, rfl, q _ H _ ⟨i, j, ps, rfl⟩ (Go.refl H) (.int _)⟩
theorem rc_int (h : ∀ xs, PA xs → ∃ i : Int, xs = [.int i]) : Rc cls p (fun xs H Q => (∃ i, xs = [V.int i] ∧ Q (.int i) H) ∨ ∃ k, xs = [V.bl k] ∧ Q (.int (if k then 1 else 0)) H) PA (fun d => ∃ i : Int, PA [.int i] ∧ d = .int i) := fun N H vs xs W a ps Q q => by
  obtain ⟨i, rfl⟩ := h xs ps
  cases a with | cons a b => cases b; cases a; exact .inl ⟨i, rfl, q _ H _ ⟨i, ps, rfl⟩ (Go.refl H) (.int _)⟩
theorem rc_divmod (h : ∀ xs, PA xs → ∃ i j : Int, xs = [.int i, .int j] ∧ 0 < j ∧ j < 1073741824) : Rc cls p (fun xs H Q => ∃ i j, xs = [V.int i, V.int j] ∧ CDiv i j ∧ ∀ p, H p = none → Q (.ref p) (upd H p (.tup [.int (i / j), .int (i % j)]))) PA
    (fun d => ∃ i j : Int, PA [.int i, .int j] ∧ d = .tup [.int (i / j), .int (i % j)]) := fun N H vs xs W a ps Q q => by
  obtain ⟨i, j, rfl, h1, h2⟩ := h xs ps
  cases a with | cons a b => cases b with | cons b c =>
    cases c; cases a; cases b
    exact ⟨i, j, rfl, ⟨h1, h2⟩, fun l hl => q _ _ _ ⟨i, j, ps, rfl⟩ (Go.new hl) (.tup (fresh_hid W hl) upd_same (.cons (.int _) (.cons (.int _) .nil)))⟩

/-! ### isinstance -/
/-- the name of a value's built-in class -/
def tyName : D → String
  | .non => "NoneType"
  | .bl _ => "bool"
  | .int _ => "int"
  | .str _ => "str"
  | .lst _ => "list"
  | .tup _ => "tuple"
  | .dk _ _ => "dict"
  | _ => ""
def builtD : D → Bool
  | .obj _ _ _ => false
  | .adr _ => false
  | .scr _ => false
  | .ty _ => false
  | _ => true
theorem tyX_of {N : Addr → Prop} {H : Hp} {v : V} {d : D} (a : At cls N H v d) (hb : builtD d = true) : TyX K H v (.type (tyName d)) := by
  cases a with
  | non => exact .base .non
  | bl b => exact .base (.bl b)
  | int i => exact .base (.int i)
  | str x => exact .base (.str x)
  | lst n r _ => exact .base (.lst r)
  | tup n r _ => exact .base (.tup r)
  | dk n r _ _ => exact .base (.dK r)
  | _ => cases hb
/-- what isinstance answers of built-in classes -/
def isB (a b : String) : Option Bool := kitB a b
theorem rc_isi {n : String} (h : ∀ xs, PA xs → ∃ d b, xs = [d, .ty n] ∧ builtD d = true ∧ isB (tyName d) n = some b) : Rc cls p (rIsi K) PA (fun r => ∃ d b, PA [d, .ty n] ∧ isB (tyName d) n = some b ∧ r = .bl b) := fun N H vs xs W a ps Q q => by
  obtain ⟨d, b, rfl, hb, hk⟩ := h xs ps
  cases a with | cons a1 a2 => cases a2 with | cons a2 a3 =>
    cases a3
    cases a2
    exact ⟨_, _, _, _, b, rfl, .ty n, tyX_of a1 hb, kit_ty hk, q _ H _ ⟨d, b, ps, hk, rfl⟩ (Go.refl H) (.bl b)⟩
/-- isinstance(x, (T1, T2)) -/
theorem rc_isi2 {m n : String} (h : ∀ xs, PA xs → ∃ d b c, xs = [d, .tup [.ty m, .ty n]] ∧ builtD d = true ∧ isB (tyName d) m = some b ∧ isB (tyName d) n = some c) :
    ∀ (N : Addr → Prop) (H : Hp) (v : V) (T : Addr) (d : D), Wf p N H → At cls N H v d → H T = some (.tup [.ty m, .ty n]) → PA [d, .tup [.ty m, .ty n]] → ∀ Q : VK, (∀ w H' r, (∃ d b c, PA [d, .tup [.ty m, .ty n]] ∧ isB (tyName d) m = some b ∧ isB (tyName d) n = some c ∧ r = .bl (b || c)) → Go p H H' → At cls N H' w r → Q w H') →
      rIsiT K [v, .ref T] H Q := fun N H v T d W a hT ps Q q => by
  obtain ⟨d', b, c, e, hb, h1, h2⟩ := h _ ps
  cases e
  refine ⟨v, T, _, _, [.type m, .type n], b || c, rfl, hT, .cons (.ty m) (.cons (.ty n) .nil), tyX_of a hb, ?_, q _ H _ ⟨d, b, c, ps, h1, h2, rfl⟩ (Go.refl H) (.bl _)⟩
  refine kitAny_cons (b := b) (kit_ty h1) (fun e => ?_) fun e => by rw [e]; rfl
  subst e
  refine kitAny_cons (b := c) (kit_ty h2) (fun e => ?_) fun e => by rw [e]; rfl
  subst e
  rfl
/-- .. the tuple of classes laid on the way -/
theorem ev_isi2 {m n : String} (hx : Ev cls p ta ds PX) (h : ∀ d, PX d → builtD d = true ∧ ∃ b c, isB (tyName d) m = some b ∧ isB (tyName d) n = some c) :
    Ev cls p (tCB (rIsiT K) (tCons ta (tCons (tTup (tCons (tC (.ty m)) (tCons (tC (.ty n)) tNil))) tNil))) ds (fun r => ∃ d b c, PX d ∧ isB (tyName d) m = some b ∧ isB (tyName d) n = some c ∧ r = .bl (b || c)) := fun pn N H0 ad σ H S Q q =>
  hx pn N H0 ad σ H S _ fun v H1 d pd g1 a1 => by
    refine ⟨by show 2 ≤ sizeLine; decide, fun T hT => ?_⟩
    have g2 : Go p H1 (upd H1 T (.tup [.ty m, .ty n])) := Go.new hT
    refine rc_isi2 (p := p) (PA := fun xs => ∃ d, PX d ∧ xs = [d, .tup [.ty m, .ty n]]) (fun xs ⟨d, pd, e⟩ => ?_) (hid N ad ds) _ v T d (S.mono (g1.trans g2)).hwf (a1.mono S.hsub g2) upd_same ⟨d, pd, rfl⟩ Q fun w H' r ⟨d', b, c, ⟨d2, pd2, e2⟩, h1, h2, e⟩ g3 a3 => ?_
    · obtain ⟨hb, b, c, h1, h2⟩ := h d pd
      exact ⟨d, b, c, e, hb, h1, h2⟩
    · cases e2
      exact q w H' r ⟨d', b, c, pd2, h1, h2, e⟩ ((g1.trans g2).trans g3) a3
theorem ev_ty {n : String} : Ev cls p (tC (.ty n)) ds (· = .ty n) := fun _ _ _ _ _ H _ Q q => q _ H _ rfl (Go.refl H) (.ty n)

/-! ### lists put together -/
theorem rv_cat (h : ∀ dx dy, PX dx → PY dy → ∃ xs ys, dx = .lst xs ∧ dy = .lst ys ∧ xs.length + ys.length ≤ 100000) :
    Rv cls p rCat PX PY (fun d => ∃ xs ys, PX (.lst xs) ∧ PY (.lst ys) ∧ d = .lst (xs ++ ys)) := fun N H x y dx dy W ax ay px py' Q q => by
  obtain ⟨xs, ys, rfl, rfl, hz⟩ := h dx dy px py'
  cases ax with
  | @lst a vs _ n r hh =>
  cases ay with
  | @lst b ws _ n' r' hh' =>
    exact ⟨a, b, vs, ws, rfl, rfl, r, r', by rw [hh.length, hh'.length]; exact Nat.le_trans hz (by decide), fun l hl => q _ _ _ ⟨xs, ys, px, py', rfl⟩ (Go.new hl) (.lst (fresh_hid W hl) upd_same ((hh.append hh').mono W.sub (Go.new hl)))⟩
def reps (k : Nat) (xs : List D) : List D := (List.replicate k xs).flatten
theorem AtAll.reps {N : Addr → Prop} {H : Hp} {vs : List V} {xs : List D} (h : AtAll cls N H vs xs) : ∀ k : Nat, AtAll cls N H (List.replicate k vs).flatten (Lk.reps k xs)
  | 0 => .nil
  | k + 1 => by
    unfold Lk.reps
    rw [List.replicate_succ, List.replicate_succ, List.flatten_cons, List.flatten_cons]
    exact h.append (AtAll.reps h k)
/-- [..] * k -/
theorem rv_rep (h : ∀ dx dy, PX dx → PY dy → ∃ xs k, dx = .lst xs ∧ dy = .int k ∧ -(2 ^ 63) ≤ k ∧ k < 2 ^ 63 ∧ xs.length * k.toNat ≤ 100000) :
    Rv cls p rRep PX PY (fun d => ∃ xs k, PX (.lst xs) ∧ PY (.int k) ∧ d = .lst (reps k.toNat xs)) := fun N H x y dx dy W ax ay px py' Q q => by
  obtain ⟨xs, k, rfl, rfl, h1, h2, hz⟩ := h dx dy px py'
  cases ay
  cases ax with
  | @lst a vs _ n r hh =>
    exact ⟨a, k, vs, rfl, rfl, r, h1, h2, by rw [hh.length]; exact Nat.le_trans hz (by decide), fun l hl => q _ _ _ ⟨xs, k, px, py', rfl⟩ (Go.new hl) (.lst (fresh_hid W hl) upd_same ((hh.reps k.toNat).mono W.sub (Go.new hl)))⟩
/-- (..) * k -/
theorem rv_repT (h : ∀ dx dy, PX dx → PY dy → ∃ xs k, dx = .tup xs ∧ dy = .int k ∧ xs ≠ [] ∧ 2 ≤ k ∧ k ≤ 1000 ∧ xs.length ≤ 1000) :
    Rv cls p (rRepT K) PX PY (fun d => ∃ xs k, PX (.tup xs) ∧ PY (.int k) ∧ d = .tup (reps k.toNat xs)) := fun N H x y dx dy W ax ay px py' Q q => by
  obtain ⟨xs, k, rfl, rfl, h0, h1, h2, hz⟩ := h dx dy px py'
  cases ay
  cases ax with
  | @tup a vs _ n r hh =>
    refine ⟨a, k, vs, rfl, rfl, .inl (.inl r), fun z => h0 ?_, h1, h2, by rw [hh.length]; exact hz, fun l hl => q _ _ _ ⟨xs, k, px, py', rfl⟩ (Go.new hl) (.tup (fresh_hid W hl) upd_same ((hh.reps k.toNat).mono W.sub (Go.new hl)))⟩
    have := hh.length
    rw [z] at this
    exact List.length_eq_zero_iff.mp this.symm
/-- slices -/
def cut (xs : List D) (lo hi : Option Int) : List D := (xs.drop (HT.sIx xs.length 0 lo)).take (HT.sIx xs.length xs.length hi - HT.sIx xs.length 0 lo)
theorem AtAll.cut {N : Addr → Prop} {H : Hp} {vs : List V} {xs : List D} (h : AtAll cls N H vs xs) (lo hi : Option Int) : AtAll cls N H (cutV vs lo hi) (Lk.cut xs lo hi) := by
  unfold cutV Lk.cut
  rw [h.length]
  exact (h.drop _).take _
theorem eo_none : EvO cls p tNoPart ds (· = none) := fun _ _ _ _ _ H _ Q q => q none H rfl (Go.refl H)
theorem eo_some (h : Ev cls p te ds P) (hi : IntP P) : EvO cls p (tPart te) ds (fun o => ∃ i, P (.int i) ∧ o = some i) := fun pn N H0 ad σ H S Q q =>
  h pn N H0 ad σ H S _ fun v H1 d pd g a => by
    obtain ⟨i, rfl⟩ := hi d pd
    cases a
    exact ⟨i, rfl, q _ H1 ⟨i, pd, rfl⟩ g⟩
theorem ev_slL {tl th : TO} {OL OH : Option Int → Prop} (h : Ev cls p te ds P) (hl : EvO cls p tl ds OL) (hh : EvO cls p th ds OH) (hp : ∀ d, P d → ∃ xs, d = .lst xs) :
    Ev cls p (tSl (rSlL K) te tl th) ds (fun d => ∃ xs lo hi, P (.lst xs) ∧ OL lo ∧ OH hi ∧ d = .lst (cut xs lo hi)) := fun pn N H0 ad σ H S Q q =>
  h pn N H0 ad σ H S _ fun v H1 d pd g1 a => hl pn N H0 ad σ H1 (S.mono g1) _ fun lo H2 pl g2 => hh pn N H0 ad σ H2 (S.mono (g1.trans g2)) _ fun hi H3 ph g3 => by
    obtain ⟨xs, rfl⟩ := hp d pd
    have g := g1.trans (g2.trans g3)
    cases a.mono S.hsub (g2.trans g3) with
    | @lst l0 vs _ n r hh =>
      exact ⟨l0, vs, rfl, .inl (.inl r), fun l hl => q _ _ _ ⟨xs, lo, hi, pd, pl, ph, rfl⟩ (g.trans (Go.new hl)) (.lst (fresh_hid (S.mono g).hwf hl) upd_same ((hh.cut lo hi).mono S.hsub (Go.new hl)))⟩
/-- {} -/
theorem ev_dk : Ev cls p tDNewK ds (· = .dk [] []) := fun pn N H0 ad σ H S Q q => fun l hl => q _ _ _ rfl (Go.new hl) (.dk (fresh_hid S.hwf hl) (by rw [upd_same]; rfl) rfl .nil)
/-- truth of a list or tuple -/
theorem et_truth (h : Ev cls p te ds P) (hp : ∀ d, P d → ∃ k xs, d = sq k xs) {tt : TT} (ht : tt = fun σ H Q => te σ H fun x H1 => ∃ k, TruV K x H1 k ∧ Q k H1) : ET cls p tt ds (fun b => ∃ k xs, P (sq k xs) ∧ b = !xs.isEmpty) := fun pn N H0 ad σ H S Q q => by
  subst ht
  exact h pn N H0 ad σ H S _ fun v H1 d pd g a => by
    obtain ⟨k, xs, rfl⟩ := hp d pd
    obtain ⟨r, rfl⟩ := ref_sq a
    obtain ⟨ws, h1, h2⟩ := at_sq (K := K) a
    have e : (!ws.isEmpty) = !xs.isEmpty := by
      cases ws with
      | nil => cases xs with
        | nil => rfl
        | cons x xs => cases h2
      | cons w ws => cases xs with
        | nil => cases h2
        | cons x xs => rfl
    refine ⟨!xs.isEmpty, ?_, q _ H1 ⟨k, xs, pd, rfl⟩ g⟩
    cases k with
    | true => exact .inl ⟨ws, h1, e.symm⟩
    | false => exact .inr (.inl ⟨ws, h1, e.symm⟩)
end
end Lk

namespace Lk
open PySem PySem.Spec PyProof.Rows L2

/-! ### a def by its body -/
def entry (m : Nat) (xs : List D) : Sts := xs.map (fun d => some (Slot.dat d)) ++ List.replicate m none
def noSt : Sts → Prop := fun _ => False
section
variable {cls : Cl} {p N : Addr → Prop} {H : Hp}
theorem sta_entry {Nm : List Str} {vs : List V} {xs : List D} (W : Wf p N H) (a : AtAll cls N H vs xs) : Sta cls p [] N H (fun _ => 0) H (start Nm vs) (entry (Nm.length - vs.length) xs) := by
  have noown : ∀ (i : Nat) (ys : List D), (entry (Nm.length - vs.length) xs)[i]? ≠ some (some (Slot.own ys)) := by
    intro i ys e
    unfold entry at e
    by_cases hi : i < xs.length
    · rw [List.getElem?_append_left (by rw [List.length_map]; exact hi), List.getElem?_map] at e
      cases q : xs[i]? with
      | none => rw [q] at e; cases e
      | some d => rw [q] at e; cases e
    · rw [List.getElem?_append_right (by rw [List.length_map]; omega), List.getElem?_replicate] at e
      split at e <;> cases e
  have nomut : ∀ (i : Nat) (c : Con), (entry (Nm.length - vs.length) xs)[i]? ≠ some (some (Slot.mut c)) := by
    intro i c e
    unfold entry at e
    by_cases hi : i < xs.length
    · rw [List.getElem?_append_left (by rw [List.length_map]; exact hi), List.getElem?_map] at e
      cases q : xs[i]? with
      | none => rw [q] at e; cases e
      | some d => rw [q] at e; cases e
    · rw [List.getElem?_append_right (by rw [List.length_map]; omega), List.getElem?_replicate] at e
      split at e <;> cases e
  have hh : ∀ b, hid N (fun _ => 0) (entry (Nm.length - vs.length) xs) b → N b := fun b h => h.elim id fun ⟨i, ys, e, _⟩ => absurd e (noown i ys)
  refine ⟨W, Go.refl H, ?_, fun i d e => ?_, fun i ys e => absurd e (noown i ys), (fun q hq => nomatch hq), fun i j xs ys e => absurd e (noown i xs), fun i c e => absurd e (nomut i c), fun i j c c' e => absurd e (nomut i c)⟩
  · unfold entry L2.start
    rw [List.length_append, List.length_append, List.length_map, List.length_map, List.length_replicate, List.length_replicate, a.length]
  · unfold entry at e
    by_cases hi : i < xs.length
    · rw [List.getElem?_append_left (by rw [List.length_map]; exact hi), List.getElem?_map] at e
      cases q : xs[i]? with
      | none => rw [q] at e; cases e
      | some d' =>
        rw [q] at e
        cases e
        obtain ⟨v, hv, av⟩ := a.get q
        refine ⟨v, ?_, av.less hh⟩
        unfold L2.start
        rw [List.getElem?_append_left (by rw [List.length_map, a.length]; exact hi), List.getElem?_map, hv]
        rfl
    · rw [List.getElem?_append_right (by rw [List.length_map]; omega), List.getElem?_replicate] at e
      split at e <;> cases e
end
theorem gok_ev {P : Program} {w : World} {K : PySem.W.Frag} {mg : Str → Option Value} {base : Heap} {k : Nat} {f : Addr} {fd : FuncData} {ps Nm : List Str} {cls : Cl} {n m : Nat} {pre : (Addr → Prop) → List D → Prop} {FF : List D → D → Prop} {x qual : Str} {st : Stmt}
    (F : Fun K x qual st f fd) (S : FnScope Nm ps (defScope st)) (hn : ps.length = n) (hm : Nm.length - n = m)
    (hb : ∀ (cdv : Value) (A : Around) (out : List Env) (s : Shared) (H : Hp) (E : XK), A.guards = some [] → Room k (A.deeper (envOfC qual (defScope st) s.heap.objs.size f cdv)) →
      ∃ t, PSs (cxOf CX0 P w K mg base Nm qual (defScope st) f cdv A out s H E).nox (defBody st) t ∧ ∀ p xs, xs.length = n → pre p xs → Sv cls p t (entry m xs) (fun _ => FF xs .non) (FF xs) noSt noSt) :
    GOk P w K mg base (k + 1) f fd ps (spG cls n pre FF) := by
  refine gok_of F S (fun vs H Q E ⟨p, N, xs, _, a, l, _⟩ => by rw [a.length, l, hn]) fun cdv A out s H vs Q E hg hr hs => ?_
  obtain ⟨t, ht, hv⟩ := hb cdv A out s H E hg hr
  obtain ⟨p, N, xs, W, a, l, hp, q⟩ := hs
  refine ⟨t, ht, ?_⟩
  have S0 := sta_entry (Nm := Nm) W a
  rw [a.length, l, hm] at S0
  exact hv p xs l hp [] N H _ _ H S0 _ (fun ad' σ' H' ds' z S' => q .non H' .non z S'.go .non) (fun v H' d z g b => q v H' d z g b) (fun _ _ _ _ z => z.elim) (fun _ _ _ _ z => z.elim)

/-! ### what may be called -/
def Cal (P : Program) (w : World) (K : PySem.W.Frag) (mg : Str → Option Value) (base : Heap) (x : Str) (k : Nat) (ps : List Str) (kws : List (List Str × List Nat)) (sp : Sp) : Prop :=
  ∃ (f : Addr) (fd : FuncData), GOk P w K mg base k f fd ps sp ∧ mg x = some (.ref f) ∧ PySem.W.keepIn K (.ref f) = true ∧ Binds K fd ps [] ∧
    ∀ q ∈ kws, ∀ (s : Shared) (ws : List Value), ws.length = q.1.length → BindsTo s fd ⟨[], q.1.zip ws⟩ (ps.zip (perm q.2 ws))
section
variable {X : Cx} {k : Nat} {ps : List Str} {kws : List (List Str × List Nat)} {sp : Sp} {x : Str} {p pos : Pos} {e : Expr} {es : List Expr} {t : TA}
theorem pe_callC (C : Cal X.prog X.w X.K X.mg X.base x k ps kws sp) (hg : X.A.guards = some []) (hr : Room k X.A) (gl : Gl X x) (ha : PA X (e :: es) t) (hdb : (x == ("__debug__" : Str)) = false := by decide)
    (he : starEach (e :: es) X.env = (false, eval e X.env) :: starEach es X.env := by rfl) (hpl : (backTo pos (starEach es X.env)).any (·.1) = false := by rfl) : PE X (.Call (.Name x p) (e :: es) [] pos) (tCall sp [] E0 t) := by
  obtain ⟨f, fd, G, hm, hk, hb, _⟩ := C
  exact pe_callG G hg hr gl hm hk hb .nil ha hdb he hpl
theorem pe_keyC {ks : List Str} {is : List Nat} {kw : List Keyword} {tk : TA} (C : Cal X.prog X.w X.K X.mg X.base x k ps kws sp) (hin : (ks, is) ∈ kws) (hg : X.A.guards = some []) (hr : Room k X.A) (gl : Gl X x) (hkw : PK X kw tk)
    (hall : (backToKw pos (keywordEach kw X.env)).all (·.1.isSome) = true := by rfl) (hks : (backToKw pos (keywordEach kw X.env)).filterMap (·.1) = ks := by rfl) (hdb : (x == ("__debug__" : Str)) = false := by decide)
    (hpl : ((backTo pos (starEach [] X.env)).any (·.1) || (backToKw pos (keywordEach kw X.env)).any (·.1.isNone)) = false := by rfl) : PE X (.Call (.Name x p) [] kw pos) (tKey sp is ks.length tk) := by
  obtain ⟨f, fd, G, hm, hk, _, hb⟩ := C
  exact pe_callKG G hg hr gl hm hk (hb _ hin) hkw hall hks hdb hpl
end
theorem Cal.mono {P : Program} {w : World} {K : PySem.W.Frag} {mg : Str → Option Value} {base : Heap} {x : Str} {j k : Nat} {ps : List Str} {kws : List (List Str × List Nat)} {sp : Sp} (C : Cal P w K mg base x j ps kws sp) (h : j ≤ k) : Cal P w K mg base x k ps kws sp := by
  obtain ⟨f, fd, G, r⟩ := C
  exact ⟨f, fd, G.mono h, r⟩

/-- the built-ins' names are nobody's here -/
structure Bt (mg : Str → Option Value) : Prop where
  len : mg "len" = none
  tuple : mg "tuple" = none
  list : mg "list" = none
  sum : mg "sum" = none
  all : mg "all" = none
  any : mg "any" = none
  abs : mg "abs" = none
  max : mg "max" = none
  min : mg "min" = none
  int : mg "int" = none
  bool : mg "bool" = none
  divmod : mg "divmod" = none
  isinstance : mg "isinstance" = none
  range : mg "range" = none
  zip : mg "zip" = none
  repr : mg "repr" = none
  enumerate : mg "enumerate" = none
  sorted : mg "sorted" = none
  str : mg "str" = none
  dict : mg "dict" = none

/-! ### operators of these texts: the written part is said, so that a comprehension's block has the same readings -/
section
variable {X : Cx} {K : PySem.W.Frag}
theorem opAdd : OpR X (binaryOp .Add) (rOr (rI0 fun i j => .int (i + j)) rCat) := op_or op_add op_cat
theorem opMul (h : X.K = K) : OpR X (binaryOp .Mult) (rOr (rI CMulW fun i j => .int (i * j)) (rOr rRep (rRepT K))) := by subst h; exact op_or op_mulW (op_or op_rep op_repT)
theorem opEq (h : X.K = K) (hu : X.A.units + 64 < cLine) : OpR X (compareOp .Eq) (rOr rEq (rEqD K)) := by subst h; exact op_or op_eq (op_eqD hu)
theorem opNe (h : X.K = K) (hu : X.A.units + 64 < cLine) : OpR X (compareOp .NotEq) (rOr rNe (rNeD K)) := by subst h; exact op_or op_ne (op_neD hu)
def rLen (K : PySem.W.Frag) : List V → Hp → VK → Prop := fun xs H Q => ∃ p ys, xs = [.ref p] ∧ (SqL K H p ys ∨ SqT K H p ys) ∧ Q (.int ys.length) H
theorem kLen (h : X.K = K) : CallR X (.builtin "len") (rLen K) := by subst h; exact call_len_seq
def rTuple (K : PySem.W.Frag) : List V → Hp → VK → Prop := fun xs H Q => ∃ p ys, xs = [.ref p] ∧ ((SqL K H p ys ∧ ∀ l, H l = none → Q (.ref l) (upd H l (.tup ys))) ∨ (SqT K H p ys ∧ Q (.ref p) H))
theorem kTuple (h : X.K = K) : CallR X (.type "tuple") (rTuple K) := by subst h; exact call_tuple_of
def rList (K : PySem.W.Frag) : List V → Hp → VK → Prop := fun xs H Q => ∃ p ys, xs = [.ref p] ∧ (SqL K H p ys ∨ SqT K H p ys) ∧ ∀ l, H l = none → Q (.ref l) (upd H l (.lst ys))
theorem kList (h : X.K = K) : CallR X (.type "list") (rList K) := by subst h; exact call_list_of
theorem kSum (h : X.K = K) (hc : X.calm = true) : CallR X (.builtin "sum") (rSum K) := by subst h; exact cr_sum hc
theorem kAll (h : X.K = K) (hc : X.calm = true) : CallR X (.builtin "all") (rAll K) := by subst h; exact cr_all hc
theorem kAny (h : X.K = K) (hc : X.calm = true) : CallR X (.builtin "any") (rAny K) := by subst h; exact cr_any hc
def rAbs : List V → Hp → VK → Prop := fun xs H Q => ∃ i, xs = [.int i] ∧ Q (.int (if i < 0 then -i else i)) H
theorem kAbs : CallR X (.builtin "abs") rAbs := call_abs
def rMax : List V → Hp → VK → Prop := fun xs H Q => ∃ i j, xs = [.int i, .int j] ∧ Q (.int (if j > i then j else i)) H
theorem kMax (hc : X.calm = true) : CallR X (.builtin "max") rMax := call_max2 hc
def rMin : List V → Hp → VK → Prop := fun xs H Q => ∃ i j, xs = [.int i, .int j] ∧ Q (.int (if j < i then j else i)) H
theorem kMin (hc : X.calm = true) : CallR X (.builtin "min") rMin := call_min2 hc
def rInt : List V → Hp → VK → Prop := fun xs H Q => (∃ i, xs = [.int i] ∧ Q (.int i) H) ∨ ∃ k, xs = [.bl k] ∧ Q (.int (if k then 1 else 0)) H
theorem kInt : CallR X (.type "int") rInt := call_int1
def rDivmod : List V → Hp → VK → Prop := fun xs H Q => ∃ i j, xs = [.int i, .int j] ∧ CDiv i j ∧ ∀ p, H p = none → Q (.ref p) (upd H p (.tup [.int (i / j), .int (i % j)]))
theorem kDivmod : CallR X (.builtin "divmod") rDivmod := call_divmod
theorem kIsi (h : X.K = K) : CallR X (.builtin "isinstance") (cOr (rIsi K) (rIsiT K)) := by subst h; exact call_or call_isi call_isiT
theorem kShow (h : X.K = K) (hg : X.A.guards = some []) (hu : X.A.units + 64 < cLine) : CallR X (.builtin "repr") (rShow K) := by subst h; exact call_show hg hu
theorem kIx (h : X.K = K) : IxR X (rIx K) := by subst h; exact ix_seq
theorem kSl (h : X.K = K) : SlR X (rSlL K) := by subst h; exact sl_list
theorem piList {tg l : Expr} {tl : TE} (h : X.K = K) (hl : PE X l tl) : PI X tg l (iList K tl) := by subst h; exact pi_list hl
theorem piTup {tg l : Expr} {tl : TE} (h : X.K = K) (hl : PE X l tl) : PI X tg l (iTup K tl) := by subst h; exact pi_tup hl
theorem piZip {e e2 : Expr} {ta : TA} {p pos tpos : Pos} {elts : List Expr} {kk : Nat} (h : X.K = K) (hg : Gl X "zip") (hm : X.mg "zip" = none) (ha : PA X [e, e2] ta)
    (hs : starEach [e, e2] X.env = (false, eval e X.env) :: starEach [e2] X.env := by rfl) (hpl : (backTo pos (starEach [e2] X.env)).any (·.1) = false := by rfl) :
    PI X (.Tuple elts kk tpos) (.Call (.Name "zip" p) [e, e2] [] pos) (iZipS K ta) := by subst h; exact pi_zipS hg hm ha hs hpl
theorem pgTup {es : List Expr} {k : Nat} {t : TGs} {n : Nat} {pos : Pos} (h : X.K = K) (hc : X.calm = true) (ht : PGs X es t) (hn : (assignEach es X.env).length = n := by rfl) (hst : (assignEach es X.env).findIdx? (·.1) = none := by rfl) :
    PG X (.Tuple es k pos) (gTup K n t) := by subst h; exact pg_tup hc ht hn hst
theorem ptTruth {a : Expr} {ta : TE} (h : X.K = K) (ha : PE X a ta) (he : ∀ whole, isTrue a X.env whole = (do let v ← whole; standAt a.pos; holding [v] (truthy v))) : PT X a (fun σ H Q => ta σ H fun x H' => ∃ k, TruV K x H' k ∧ Q k H') := by
  subst h; exact pt_truth ha he
end
theorem room_u {k : Nat} {A : Around} (h : Room k A) : A.units + 64 < cLine := h.units

/-! ### pots -/
section
variable {cls : Cl} {p : Addr → Prop} {ds ds' : Sts} {ta tb tc te : TE} {P PX PY PZ : D → Prop} {K : PySem.W.Frag} {nx bk ct : Sts → Prop} {rt : D → Prop}
theorem pot_at {H : Hp} {a : Addr} (h : IsPot H a) : ∃ x y : Int, H a = some (.lst [.int x, .int y]) ∧ 0 ≤ x ∧ 0 ≤ y ∧ y < 2147483648 := h
theorem ev_pot0 {i : Nat} {a : Addr} (e : ds[i]? = some (some (Slot.dat (.adr a)))) (hp : p a) : Ev cls p (tOp (rIx K) (tVar i) (tC (.int 0))) ds (fun d => ∃ x : Int, 0 ≤ x ∧ d = .int x) := fun pn N H0 ad σ H S Q q => by
  obtain ⟨v, h1, h2⟩ := S.dat i _ e
  cases h2
  obtain ⟨x, y, hx, h0, _⟩ := S.wf.pot a hp
  exact ⟨.ref a, h1, .inl ⟨a, _, 0, .int x, rfl, rfl, .inl (.inl hx), rfl, q _ H _ ⟨x, h0, rfl⟩ (Go.refl H) (.int _)⟩⟩
theorem ev_pot1 {i : Nat} {a : Addr} (e : ds[i]? = some (some (Slot.dat (.adr a)))) (hp : p a) : Ev cls p (tOp (rIx K) (tVar i) (tC (.int 1))) ds (fun d => ∃ x : Int, 0 ≤ x ∧ x < 2147483648 ∧ d = .int x) := fun pn N H0 ad σ H S Q q => by
  obtain ⟨v, h1, h2⟩ := S.dat i _ e
  cases h2
  obtain ⟨x, y, hx, _, h0, h3⟩ := S.wf.pot a hp
  exact ⟨.ref a, h1, .inl ⟨a, _, 1, .int y, rfl, rfl, .inl (.inl hx), rfl, q _ H _ ⟨y, h0, h3, rfl⟩ (Go.refl H) (.int _)⟩⟩
theorem Go.potSet {H : Hp} {a : Addr} {x y x' y' : Int} (hp : p a) (h : H a = some (.lst [.int x, .int y])) (hx : 0 ≤ x') (hy : 0 ≤ y') (hz : y' < 2147483648) : Go p H (upd H a (.lst [.int x', .int y'])) :=
  ⟨fun b o n e => by rw [upd_ne (fun z => n (by rw [z]; exact hp))]; exact e, fun b hb q => by
    by_cases z : b = a
    · subst z; exact ⟨x', y', upd_same, hx, hy, hz⟩
    · obtain ⟨u, v, e, r⟩ := q
      exact ⟨u, v, by rw [upd_ne z]; exact e, r⟩⟩
/-- pot[1] = e -/
theorem sv_pot1 {i : Nat} {a : Addr} (e : ds[i]? = some (some (Slot.dat (.adr a)))) (hp : p a) (h : Ev cls p te ds P) (hP : ∀ d, P d → ∃ y : Int, d = .int y ∧ 0 ≤ y ∧ y < 2147483648) (k : nx ds) :
    Sv cls p (tAsg te (gSub (tVar i) (tC (.int 1)) rSetL)) ds nx rt bk ct := fun pn N H0 ad σ H S Dn q1 _ _ _ =>
  h pn N H0 ad σ H S _ fun v H1 d pd g1 av => by
    obtain ⟨y', rfl, hy, hz⟩ := hP d pd
    cases av
    have S1 := S.mono g1
    obtain ⟨w, h1, h2⟩ := S1.dat i _ e
    cases h2
    obtain ⟨x, y, hx, h0, _⟩ := S1.wf.pot a hp
    exact ⟨.ref a, h1, a, _, 1, 1, rfl, rfl, hx, rfl, q1 ad σ _ ds k (S1.mono (Go.potSet hp hx h0 hy hz))⟩
/-- pot[0], x = e -/
theorem sv_pot0 {i j : Nat} {a : Addr} (e : ds[i]? = some (some (Slot.dat (.adr a)))) (hp : p a) (h : Ev cls p te ds P) (hP : ∀ d, P d → ∃ x r : Int, d = .tup [.int x, .int r] ∧ 0 ≤ x ∧ nx (ds.set j (some (Slot.dat (.int r))))) :
    Sv cls p (tAsg te (gTup K 2 (gCons (gSub (tVar i) (tC (.int 0)) rSetL) (gCons (gName j) gNil)))) ds nx rt bk ct := fun pn N H0 ad σ H S Dn q1 _ _ _ =>
  h pn N H0 ad σ H S _ fun v H1 d pd g1 av => by
    obtain ⟨x', r, rfl, hx', hn⟩ := hP d pd
    have S1 := S.mono g1
    cases av with
    | @tup T ws _ n hT hh =>
    cases hh with
    | cons b1 hh =>
    cases hh with
    | cons b2 hh =>
    cases hh
    cases b1
    cases b2
    obtain ⟨w, h1, h2⟩ := S1.dat i _ e
    cases h2
    obtain ⟨x, y, hx, h0, hy, hz⟩ := S1.wf.pot a hp
    refine ⟨T, _, rfl, .inl (.inl hT), rfl, _, _, rfl, .ref a, h1, a, _, 0, 0, rfl, rfl, hx, rfl, _, _, rfl, rfl, ?_⟩
    exact q1 ad _ _ _ hn ((S1.mono (Go.potSet hp hx hx' hy hz)).put (.int r))
/-- a drawing def: a pot and a size above 0, a number below it -/
def preDraw (p : Addr → Prop) (xs : List D) : Prop := ∃ a n, xs = [.adr a, .int n] ∧ p a ∧ 0 < n ∧ n < 1073741824
def isDraw (xs : List D) (d : D) : Prop := ∃ a n i, xs = [.adr a, .int n] ∧ 0 ≤ i ∧ i < n ∧ d = .int i
end

/-! ### the end -/
/-- the law's def: the script, then True -/
def preLaw (p : Addr → Prop) (xs : List D) : Prop := (∀ a, ¬ p a) ∧ ∃ ns : List Int, xs = [.scr ns] ∧ ns.length ≤ 63
def isTrue1 (_ : List D) (d : D) : Prop := d = .bl true
section
variable {P : Program} {w : World} {K : PySem.W.Frag} {mg mb : Str → Option Value} {k : Nat} {fa a : Addr} {fd : FuncData} {x : Str} {cls : Cl} {s1 : Shared} {vs : List Value} {ns : List Int}
theorem law_end (KX : K.In s1.heap) (hns : s1.heap.Ns mainGlobals mg) (hb : s1.heap.Ns builtinsNs mb) (hbb : ∀ x : Str, x ≠ "__name__" → mb x = bootBuiltins x) (hlim : s1.heap.NoLimit) (hgen : s1.gens = #[])
    (ha : s1.heap.get? a = some { cls := .type "list", data := .seq vs.toArray }) (hi : IntsAre vs ns) (hl : ns.length ≤ 63) (hr : Room k callerA) (hc : cls.K = K)
    (F : ∀ base : Heap, K.In base → base.Ns mainGlobals mg → GOk P w K mg base k fa fd [x] (spG cls 1 preLaw isTrue1)) (hbind : ∀ (s : Shared) (u : Value), BindsTo s fd ⟨[u], []⟩ [(x, u)]) :
    codeAny (model P w) callerA (.call (.ref fa) ⟨[.ref a], []⟩) (fun r s' => r = .ok (.ret (.bool true)) ∧ OldK s1.heap s'.heap ∧ s'.os = s1.os ∧ AllBare s'.gens) s1 := by
  have lv := hi.length
  have l63 : ns.length ≤ sizeLine := Nat.le_trans hl (by decide)
  -- one abstract heap: it knows of nothing but the script
  have main : ∀ H : Hp, (∀ b, H b ≠ none → b = a) → HOk P w H s1.heap → (∀ b u, H b = some u → ∃ o, u = .frz o (.lst (ns.map V.int))) → (H a ≠ none → K.lookup a = none) → (∀ N, (∀ b, ¬ N b) → At cls N H (.ref a) (.scr ns)) →
      codeAny (model P w) callerA (.call (.ref fa) ⟨[.ref a], []⟩) (fun r s' => r = .ok (.ret (.bool true)) ∧ OldK s1.heap s'.heap ∧ s'.os = s1.os ∧ AllBare s'.gens) s1 := by
    intro H only hok frz hK hA
    have keep : ∀ {b : Addr} {m : Str → Option Value}, s1.heap.Ns b m → (hidT s1.heap H).Ns b m := by
      rintro b m ⟨o, es, ep, e, dd, r⟩
      refine ⟨o, es, ep, hidT_get e ?_, dd, r⟩
      cases q : H b with
      | none => rfl
      | some u =>
        have z := only b (by rw [q]; exact fun z => nomatch z)
        subst z
        rw [ha] at e
        cases e
        cases (show Data.seq vs.toArray _ = Data.dict es ep from dd)
    have kin : K.In (hidT s1.heap H) := by
      intro b o e
      refine hidT_get (KX b o e) ?_
      cases q : H b with
      | none => rfl
      | some u =>
        have z := only b (by rw [q]; exact fun z => nomatch z)
        subst z
        rw [hK (by rw [q]; exact fun z => nomatch z)] at e
        cases e
    obtain ⟨ml, l1, l2⟩ := hlim
    have e0 : Env0 P w K mg (hidT s1.heap H) callerA [] s1 H := {
      frames := rfl
      mod := ⟨kin, keep hns, ⟨mb, keep hb, hbb⟩, ⟨ml, keep l1, l2⟩⟩
      bs := fun b o e => of_hidT e
      bsz := Nat.le_of_eq (hidT_size _ _)
      funs := trivial
      frf := fun b z => nomatch z
      hok := hok
      bare := .of_eq hgen }
    have promise : spG cls 1 preLaw isTrue1 [.ref a] H (fun v _ => v = .bl true) (fun _ _ _ => False) :=
      ⟨fun _ => False, fun _ => False, [.scr ns], ⟨fun _ z => z, fun _ z => z.elim, fun _ z => z.elim⟩, .cons (hA _ fun _ z => z) .nil, rfl, ⟨fun _ z => z, ns, rfl, hl⟩, fun v H' d fd g av => by
        cases (show d = D.bl true from fd)
        cases av
        rfl⟩
    refine codeAny_mono ((F _ kin (keep hns)).go callerA [] s1 H ⟨[.ref a], []⟩ [.ref a] [.ref a] _ _ rfl hr e0 (hbind s1 (.ref a)) (.cons rfl .nil) promise) fun r s' h => ?_
    match r, h with
    | .error _, h => exact h.elim
    | .ok .next, h => exact h.elim
    | .ok .brk, h => exact h.elim
    | .ok .cont, h => exact h.elim
    | .ok (.ret u), ⟨v, H', os, bare, un, hok', rv, q⟩ =>
      cases (show v = V.bl true from q)
      cases (show u = Value.bool true from rv)
      refine ⟨rfl, OldK.of_keep fun b o e => ?_, os, bare⟩
      cases q : H b with
      | none => exact un.keep b o e q (fun z => nomatch z) (fun z => nomatch z)
      | some u =>
        obtain ⟨ob, rfl⟩ := frz b u q
        have e1 := (hok b _ q).1
        rw [e] at e1
        cases e1
        exact (hok' b _ (un.frzs b _ _ q)).1
  cases hk : K.lookup a with
  | some o =>
    have e := KX a o hk
    rw [ha] at e
    cases e
    refine main (fun _ => none) (fun b z => absurd rfl z) (fun b u z => nomatch z) (fun b u z => nomatch z) (fun z => absurd rfl z) fun N _ => .scrK fun H' => .inr ⟨_, vs.toArray, _, by rw [hc]; exact hk, rfl, rfl, rfl, ?_, ?_⟩
    · rw [List.size_toArray, lv]; exact l63
    · simpa using vals_ints hi
  | none =>
    have one : ∀ {b : Addr} {u : HO}, (if b = a then some (HO.frz { cls := .type "list", data := .seq vs.toArray } (.lst (ns.map V.int))) else none) = some u → b = a ∧ u = HO.frz { cls := .type "list", data := .seq vs.toArray } (.lst (ns.map V.int)) := by
      intro b u e
      by_cases z : b = a
      · rw [if_pos z] at e; cases e; exact ⟨z, rfl⟩
      · rw [if_neg z] at e; cases e
    refine main (fun b => if b = a then some (.frz { cls := .type "list", data := .seq vs.toArray } (.lst (ns.map V.int))) else none) (fun b z => ?_) (fun b u z => ?_) (fun b u z => ⟨_, (one z).2⟩) (fun _ => hk) fun N n => .scr (n a) (.inr ⟨_, if_pos rfl⟩)
    · by_cases y : b = a
      · exact y
      · exact absurd (if_neg y) z
    · obtain ⟨rfl, rfl⟩ := one z
      exact ⟨ha, by rw [List.length_map]; exact l63, vs, _, vals_ints hi, ha⟩
end
theorem walk_end {l : PySem.W.OpenLaw} {k : Nat} {q : Program} {loose : List Str} {XP : (Str → Option Value) → Heap → Prop} {YP : World → Heap → Prop} {d : DefRec} {K : Params → PySem.W.Frag} {x : Str} {cls : World → Cl}
    (hn : l.most = some 63) (hdf : d.params.defaults = []) (hr : Room k callerA) (hY : ∀ (w : World) (h : Heap), YP w h → (K w.params).In h) (hc : ∀ w, (cls w).K = K w.params)
    (F : ∀ (w : World) (mg : Str → Option Value) (fa : Addr) (h : Heap), (K w.params).In h → h.Ns mainGlobals mg → mg d.name = some (.ref fa) →
      ∃ fd : FuncData, (∀ (s : Shared) (u : Value), BindsTo s fd ⟨[u], []⟩ [(x, u)]) ∧
        ∀ base : Heap, (K w.params).In base → base.Ns mainGlobals mg → GOk l.prog w (K w.params) mg base k fa fd [x] (spG (cls w) 1 preLaw isTrue1)) :
    PySem.W.WalkO q loose XP YP l.row.toRowW d [] (fun f vs => PySem.call f vs) := by
  refine Att.attach_call hn hdf ?_
  intro w s0 s1 mg mb fa o pm cd doc a vs ns G Y ho hd hcd hmg hobj hints hlen hg
  obtain ⟨fd, hb, hF⟩ := F w mg fa _ (hY w _ Y) G.T.g hmg
  exact law_end (hY w _ Y) G.T.g G.T.b G.T.builtins G.T.nolimit hg hobj hints hlen hr (hc w) hF hb
/-! ### defs as the text's top has written them -/
structure Df (K : PySem.W.Frag) (x : Str) (st : Stmt) (f : Addr) (fd : FuncData) : Prop where
  F : Fun K x x st f fd
  a : PySem.W.nsIn K mainGlobals x = some (some (.ref f))
theorem df_mk {K : PySem.W.Frag} {x : Str} {st : Stmt} {f : Addr} {oc : Value} {od an : Option Addr} {sl : Array (Option Value)} {kV dc pm cd ct : Value} (a : PySem.W.nsIn K mainGlobals x = some (some (.ref f)))
    (l : K.lookup f = some ⟨oc, od, .func (PySem.W.fnOf x x (defArgs st) (defBody st) (defScope st) .none kV dc pm an cd ct), sl⟩) (c : PySem.W.codeIn K cd x = true) (k : PySem.W.keepIn K (.ref f) = true) : ∃ f fd, Df K x st f fd := ⟨f, _, fun_mk l c k, a⟩
theorem cal_mk {P : Program} {w : World} {K : PySem.W.Frag} {mg : Str → Option Value} {base h : Heap} {x : Str} {st : Stmt} {f : Addr} {fd : FuncData} {k : Nat} {ps : List Str} {kws : List (List Str × List Nat)} {sp : Sp} (D : Df K x st f fd) (X : K.In h) (G : h.Ns mainGlobals mg)
    (g : GOk P w K mg base k f fd ps sp) (hb : ∀ (kV doc pm : Value) (an : Option Addr) (cdv ct : Value) (us : List Value), us.length = ps.length → bindArgs (PySem.W.fnOf x x (defArgs st) (defBody st) (defScope st) .none kV doc pm an cdv ct) ⟨us, []⟩ = pure (ps.zip us))
    (hk : ∀ q ∈ kws, ∀ (kV doc pm : Value) (an : Option Addr) (cdv ct : Value) (ws : List Value), ws.length = q.1.length → bindArgs (PySem.W.fnOf x x (defArgs st) (defBody st) (defScope st) .none kV doc pm an cdv ct) ⟨[], q.1.zip ws⟩ = pure (ps.zip (perm q.2 ws))) : Cal P w K mg base x k ps kws sp := by
  refine ⟨f, fd, g, PySem.W.mg_of X G D.a, D.F.kp, D.F.binds hb, fun q hq s ws hl => ?_⟩
  obtain ⟨oc, od, kV, doc, pm, an, cdv, ct, osl, rfl, lk, hcd⟩ := D.F.ex
  exact .of_eq (hk q hq kV doc pm an cdv ct ws hl)
theorem bt_mk {K : PySem.W.Frag} {h : Heap} {mg : Str → Option Value} (X : K.In h) (G : h.Ns mainGlobals mg) (H : ∀ x ∈ (["len", "tuple", "list", "sum", "all", "any", "abs", "max", "min", "int", "bool", "divmod", "isinstance", "range", "zip", "repr", "enumerate", "sorted", "str", "dict"] : List Str), PySem.W.nsIn K mainGlobals x = some none) : Bt mg := by
  have z : ∀ x ∈ (["len", "tuple", "list", "sum", "all", "any", "abs", "max", "min", "int", "bool", "divmod", "isinstance", "range", "zip", "repr", "enumerate", "sorted", "str", "dict"] : List Str), mg x = none := fun x hx => PySem.W.mg_none_of X G (H x hx)
  constructor <;> exact z _ (by decide)
theorem gc_mk {K : PySem.W.Frag} {h : Heap} {mg : Str → Option Value} {x : Str} {i : Int} {t : Tok} (X : K.In h) (G : h.Ns mainGlobals mg) (e : PySem.W.nsIn K mainGlobals x = some (some (.int i t))) : ∃ t, mg x = some (.int i t) := ⟨t, PySem.W.mg_of X G e⟩
/-- the end of a law without objects -/
theorem walk_end0 {l : PySem.W.OpenLaw} {k : Nat} {q : Program} {loose : List Str} {XP : (Str → Option Value) → Heap → Prop} {YP : World → Heap → Prop} {d : DefRec} {K : Params → PySem.W.Frag} {x : Str}
    (hn : l.most = some 63) (hdf : d.params.defaults = []) (hr : Room k callerA) (hY : ∀ (w : World) (h : Heap), YP w h → (K w.params).In h)
    (F : ∀ (w : World) (mg : Str → Option Value) (fa : Addr) (h : Heap), (K w.params).In h → h.Ns mainGlobals mg → mg d.name = some (.ref fa) →
      ∃ fd : FuncData, (∀ (s : Shared) (u : Value), BindsTo s fd ⟨[u], []⟩ [(x, u)]) ∧
        ∀ base : Heap, (K w.params).In base → base.Ns mainGlobals mg → GOk l.prog w (K w.params) mg base k fa fd [x] (spG ⟨K w.params, fun _ => mainGlobals⟩ 1 preLaw isTrue1)) :
    PySem.W.WalkO q loose XP YP l.row.toRowW d [] (fun f vs => PySem.call f vs) := walk_end (cls := fun w => ⟨K w.params, fun _ => mainGlobals⟩) hn hdf hr hY (fun _ => rfl) F
end Lk

namespace Lk
open PySem PySem.Spec PyProof.Rows L2

section
variable {cls : Cl} {p : Addr → Prop} {ds ds' : Sts} {ta tb tc td te : TE} {P PX PY PZ PW : D → Prop} {t : TA} {PA PB : List D → Prop} {K : PySem.W.Frag}
theorem ea1 (h : Ev cls p ta ds PX) : EvA cls p (tCons ta tNil) ds (fun l => ∃ x, PX x ∧ l = [x]) := (ea_cons h ea_nil).mono fun l ⟨x, xs, h, e, z⟩ => ⟨x, h, by rw [z, e]⟩
theorem ea2 (h : Ev cls p ta ds PX) (k : Ev cls p tb ds PY) : EvA cls p (tCons ta (tCons tb tNil)) ds (fun l => ∃ x y, PX x ∧ PY y ∧ l = [x, y]) := (ea_cons h (ea1 k)).mono fun l ⟨x, xs, h, ⟨y, k, e⟩, z⟩ => ⟨x, y, h, k, by rw [z, e]⟩
theorem ea3 (h : Ev cls p ta ds PX) (k : Ev cls p tb ds PY) (m : Ev cls p tc ds PZ) : EvA cls p (tCons ta (tCons tb (tCons tc tNil))) ds (fun l => ∃ x y z, PX x ∧ PY y ∧ PZ z ∧ l = [x, y, z]) :=
  (ea_cons h (ea2 k m)).mono fun l ⟨x, xs, h, ⟨y, z, k, m, e⟩, q⟩ => ⟨x, y, z, h, k, m, by rw [q, e]⟩
theorem ea4 (h : Ev cls p ta ds PX) (k : Ev cls p tb ds PY) (m : Ev cls p tc ds PZ) (n : Ev cls p td ds PW) : EvA cls p (tCons ta (tCons tb (tCons tc (tCons td tNil)))) ds (fun l => ∃ x y z w, PX x ∧ PY y ∧ PZ z ∧ PW w ∧ l = [x, y, z, w]) :=
  (ea_cons h (ea3 k m n)).mono fun l ⟨x, xs, h, ⟨y, z, w, k, m, n, e⟩, q⟩ => ⟨x, y, z, w, h, k, m, n, by rw [q, e]⟩
/-- a call of a def of these texts with known arguments -/
theorem ev_call' {n : Nat} {pre : (Addr → Prop) → List D → Prop} {F : List D → D → Prop} (h : EvA cls p t ds PA) (hp : ∀ xs, PA xs → xs.length = n ∧ pre p xs ∧ ∀ d, F xs d → P d) : Ev cls p (tCall (spG cls n pre F) [] E0 t) ds P :=
  (ev_call h fun xs a => ⟨(hp xs a).1, (hp xs a).2.1⟩).mono fun d ⟨xs, a, f⟩ => (hp xs a).2.2 d f
theorem ev_key' {n m : Nat} {is : List Nat} {pre : (Addr → Prop) → List D → Prop} {F : List D → D → Prop} (h : EvA cls p t ds PA) (hp : ∀ xs, PA xs → xs.length = m ∧ (perm is xs).length = n ∧ pre p (perm is xs) ∧ ∀ d, F (perm is xs) d → P d) : Ev cls p (tKey (spG cls n pre F) is m t) ds P :=
  (ev_key h fun xs a => ⟨(hp xs a).1, (hp xs a).2.1, (hp xs a).2.2.1⟩).mono fun d ⟨xs, a, f⟩ => (hp xs a).2.2.2 d f

/-! ### what isinstance answers -/
def isInt : D → Bool
  | .int _ => true
  | _ => false
def isBl : D → Bool
  | .bl _ => true
  | _ => false
def isLst : D → Bool
  | .lst _ => true
  | _ => false
def isTup : D → Bool
  | .tup _ => true
  | _ => false
theorem isB_int : ∀ {d : D}, builtD d = true → isB (tyName d) "int" = some (isInt d || isBl d)
  | .non, _ => by decide +kernel
  | .bl _, _ => by show isB "bool" "int" = some true; decide +kernel
  | .int _, _ => by show isB "int" "int" = some true; decide +kernel
  | .str _, _ => by show isB "str" "int" = some false; decide +kernel
  | .lst _, _ => by show isB "list" "int" = some false; decide +kernel
  | .tup _, _ => by show isB "tuple" "int" = some false; decide +kernel
  | .dk _ _, _ => by show isB "dict" "int" = some false; decide +kernel
theorem isB_bool : ∀ {d : D}, builtD d = true → isB (tyName d) "bool" = some (isBl d)
  | .non, _ => by decide +kernel
  | .bl _, _ => by show isB "bool" "bool" = some true; decide +kernel
  | .int _, _ => by show isB "int" "bool" = some false; decide +kernel
  | .str _, _ => by show isB "str" "bool" = some false; decide +kernel
  | .lst _, _ => by show isB "list" "bool" = some false; decide +kernel
  | .tup _, _ => by show isB "tuple" "bool" = some false; decide +kernel
  | .dk _ _, _ => by show isB "dict" "bool" = some false; decide +kernel
theorem isB_list : ∀ {d : D}, builtD d = true → isB (tyName d) "list" = some (isLst d)
  | .non, _ => by decide +kernel
  | .bl _, _ => by show isB "bool" "list" = some false; decide +kernel
  | .int _, _ => by show isB "int" "list" = some false; decide +kernel
  | .str _, _ => by show isB "str" "list" = some false; decide +kernel
  | .lst _, _ => by show isB "list" "list" = some true; decide +kernel
  | .tup _, _ => by show isB "tuple" "list" = some false; decide +kernel
  | .dk _ _, _ => by show isB "dict" "list" = some false; decide +kernel
theorem isB_tuple : ∀ {d : D}, builtD d = true → isB (tyName d) "tuple" = some (isTup d)
  | .non, _ => by decide +kernel
  | .bl _, _ => by show isB "bool" "tuple" = some false; decide +kernel
  | .int _, _ => by show isB "int" "tuple" = some false; decide +kernel
  | .str _, _ => by show isB "str" "tuple" = some false; decide +kernel
  | .lst _, _ => by show isB "list" "tuple" = some false; decide +kernel
  | .tup _, _ => by show isB "tuple" "tuple" = some true; decide +kernel
  | .dk _ _, _ => by show isB "dict" "tuple" = some false; decide +kernel
/-- isinstance(x, int), .. as they stand -/
theorem ev_isI (h : Ev cls p ta ds PX) (hb : ∀ d, PX d → builtD d = true) : Ev cls p (tCB (cOr (rIsi K) (rIsiT K)) (tCons ta (tCons (tC (.ty "int")) tNil))) ds (fun r => ∃ d, PX d ∧ r = .bl (isInt d || isBl d)) :=
  (ev_cb (ea2 h ev_ty) (rc_l (rc_isi fun xs ⟨x, y, hx, hy, e⟩ => ⟨x, _, by rw [e, hy], hb x hx, isB_int (hb x hx)⟩))).mono fun r ⟨d, b, ⟨x, y, hx, hy, e⟩, h2, h3⟩ => by
    cases e
    rw [isB_int (hb d hx)] at h2
    cases h2
    exact ⟨d, hx, h3⟩
theorem ev_isBo (h : Ev cls p ta ds PX) (hb : ∀ d, PX d → builtD d = true) : Ev cls p (tCB (cOr (rIsi K) (rIsiT K)) (tCons ta (tCons (tC (.ty "bool")) tNil))) ds (fun r => ∃ d, PX d ∧ r = .bl (isBl d)) :=
  (ev_cb (ea2 h ev_ty) (rc_l (rc_isi fun xs ⟨x, y, hx, hy, e⟩ => ⟨x, _, by rw [e, hy], hb x hx, isB_bool (hb x hx)⟩))).mono fun r ⟨d, b, ⟨x, y, hx, hy, e⟩, h2, h3⟩ => by
    cases e
    rw [isB_bool (hb d hx)] at h2
    cases h2
    exact ⟨d, hx, h3⟩
theorem cb_r {r1 r2 : List V → Hp → VK → Prop} {t : TA} (h : Ev cls p (tCB r2 t) ds P) (mono : ∀ (σ : L2.St) (H : Hp) (Q Q' : List V → Hp → Prop), (∀ vs H', Q vs H' → Q' vs H') → t σ H Q → t σ H Q') : Ev cls p (tCB (cOr r1 r2) t) ds P := fun pn N H0 ad σ H S Q q =>
  mono σ H _ _ (fun vs H' z => .inr z) (h pn N H0 ad σ H S Q q)
theorem ev_isS {i : Nat} {d : D} (e : ds[i]? = some (some (Slot.dat d))) (hb : builtD d = true) : Ev cls p (tCB (cOr (rIsi K) (rIsiT K)) (tCons (tVar i) (tCons (tTup (tCons (tC (.ty "list")) (tCons (tC (.ty "tuple")) tNil))) tNil))) ds (· = .bl (isLst d || isTup d)) := by
  refine Ev.mono (P := fun r => ∃ d' b c, d' = d ∧ isB (tyName d') "list" = some b ∧ isB (tyName d') "tuple" = some c ∧ r = .bl (b || c)) (cb_r (ev_isi2 (ev_var e) fun d' e' => ?_) ?_) ?_
  · subst e'
    exact ⟨hb, _, _, isB_list hb, isB_tuple hb⟩
  · rintro σ H Q Q' k ⟨v, h1, h2, h3⟩
    exact ⟨v, h1, h2, fun l hl => k _ _ (h3 l hl)⟩
  · rintro r ⟨d', b, c, rfl, h1, h2, rfl⟩
    rw [isB_list hb] at h1
    rw [isB_tuple hb] at h2
    cases h1
    cases h2
    rfl

/-! ### comprehensions whose values are known -/
theorem paired_map {f : D → D} : ∀ {xs ys : List D}, Paired (fun x y => y = f x) xs ys → ys = xs.map f
  | _, _, .nil => rfl
  | _, _, .cons h t => by rw [h, paired_map t]; rfl
theorem filter_true' {xs : List D} : xs.filter (fun _ => true) = xs := by
  rw [List.filter_eq_self]
  exact fun _ _ => rfl
/-- over the things xs, no test: for each x the value is such -/
theorem ev_lcS {wi : TI} {g : TG} {vs js : List Nat} {xs : List D} {Pe : D → D → Prop} (hi : EI cls p wi ds (· = xs)) (hz : xs.length ≤ 100000) (hj : ∀ j ∈ js, j ∈ vs) (hw : (wipeD ds vs).map ownOf = ds.map ownOf)
    (h : ∀ x ∈ xs, ∃ ds', EvG cls p g js x (wipeD ds vs) ds' ∧ ds'.map ownOf = ds.map ownOf ∧ Ev cls p te ds' (Pe x)) :
    Ev cls p (tLc wi g tYes te vs) ds (fun d => ∃ ys, Paired Pe xs ys ∧ d = .lst ys) := by
  refine (ev_lc (b := fun _ => true) (Pe := Pe) hi (fun ys e => by rw [e]; exact hz) hj (fun ys e x hx => ?_) hw).mono ?_
  · subst e
    obtain ⟨ds', a, b, c⟩ := h x hx
    exact ⟨ds', a, b, et_yes, fun _ => c⟩
  · rintro d ⟨zs, ys, e, pp, z⟩
    subst e
    rw [filter_true'] at pp
    exact ⟨ys, pp, z⟩
theorem ev_lcF {wi : TI} {g : TG} {vs js : List Nat} {xs : List D} {f : D → D} (hi : EI cls p wi ds (· = xs)) (hz : xs.length ≤ 100000) (hj : ∀ j ∈ js, j ∈ vs) (hw : (wipeD ds vs).map ownOf = ds.map ownOf)
    (h : ∀ x ∈ xs, ∃ ds', EvG cls p g js x (wipeD ds vs) ds' ∧ ds'.map ownOf = ds.map ownOf ∧ Ev cls p te ds' (· = f x)) :
    Ev cls p (tLc wi g tYes te vs) ds (· = .lst (xs.map f)) := by
  refine (ev_lcS (Pe := fun x y => y = f x) hi hz hj hw h).mono ?_
  rintro d ⟨ys, pp, e⟩
  rw [e, paired_map pp]
theorem ei_row {k : Bool} {xs : List D} (h : Ev cls p te ds (· = sq k xs)) : EI cls p (iOr (iList K te) (iTup K te)) ds (· = xs) := by
  cases k with
  | true => exact ei_l ((ei_list h fun d e => ⟨xs, e⟩).mono fun ys e => by cases (show D.lst ys = D.lst xs from e); rfl)
  | false => exact ei_r ((ei_tup h fun d e => ⟨xs, e⟩).mono fun ys e => by cases (show D.tup ys = D.tup xs from e); rfl)
theorem sq_inj {k l : Bool} {xs ys : List D} (h : sq k xs = sq l ys) : xs = ys := by
  cases k <;> cases l <;> (first | (cases (show D.lst _ = D.lst _ from h); rfl) | (cases (show D.tup _ = D.tup _ from h); rfl) | cases (show D.lst _ = D.tup _ from h) | cases (show D.tup _ = D.lst _ from h))
theorem ei_zipR {k l : Bool} {xs ys : List D} (h : EvA cls p t ds (· = [sq k xs, sq l ys])) : EI cls p (iZipS K t) ds (· = zips xs ys) :=
  (ei_zip h fun zs e => ⟨k, l, xs, ys, e⟩).mono fun zs ⟨k', l', a, b, e, z⟩ => by
    have e := List.cons.inj e
    have e2 := List.cons.inj e.2
    rw [z, sq_inj e.1, sq_inj e2.1]
theorem ei_rng {n : Int} (h : EvA cls p t ds (· = [.int n])) (h0 : -100000 ≤ n) (h1 : n ≤ 100000) : EI cls p (iRng1 t) ds (· = irng 0 n.toNat) :=
  (ei_range1 h fun xs e => ⟨n, e, by omega, by omega⟩).mono fun xs ⟨m, e, z⟩ => by
    cases List.cons.inj e |>.1
    exact z

def row (k : Bool) (a : List Int) : D := sq k (a.map D.int)
theorem row_inj {k l : Bool} {a b : List Int} (h : row k a = row l b) : a = b := by
  have e := sq_inj h
  have inj : ∀ {a b : List Int}, a.map D.int = b.map D.int → a = b := by
    intro a
    induction a with
    | nil => intro b e; cases b with | nil => rfl | cons _ _ => cases e
    | cons x a ih =>
      intro b e
      cases b with
      | nil => cases e
      | cons y b =>
        have e := List.cons.inj e
        rw [D.int.inj e.1, ih e.2]
  exact inj e
/-- len(x) -/
theorem ev_len {k : Bool} {xs : List D} (h : Ev cls p te ds (· = sq k xs)) : Ev cls p (tCB (rLen K) (tCons te tNil)) ds (· = .int xs.length) := by
  refine (ev_cb (ea1 h) (rc_len ?_)).mono ?_
  · rintro _ ⟨_, rfl, rfl⟩
    exact ⟨k, xs, rfl⟩
  · rintro r ⟨l, ys, ⟨_, rfl, e⟩, e2⟩
    rw [e2, sq_inj (List.cons.inj e).1]
/-- tuple(x), list(x) -/
theorem ev_tupOf {k : Bool} {xs : List D} (h : Ev cls p te ds (· = sq k xs)) : Ev cls p (tCB (rTuple K) (tCons te tNil)) ds (· = .tup xs) := by
  refine (ev_cb (ea1 h) (rc_tuple ?_)).mono ?_
  · rintro _ ⟨_, rfl, rfl⟩
    exact ⟨k, xs, rfl⟩
  · rintro r ⟨l, ys, ⟨_, rfl, e⟩, e2⟩
    rw [e2, sq_inj (List.cons.inj e).1]
theorem ev_lstOf {k : Bool} {xs : List D} (h : Ev cls p te ds (· = sq k xs)) : Ev cls p (tCB (rList K) (tCons te tNil)) ds (· = .lst xs) := by
  refine (ev_cb (ea1 h) (rc_list ?_)).mono ?_
  · rintro _ ⟨_, rfl, rfl⟩
    exact ⟨k, xs, rfl⟩
  · rintro r ⟨l, ys, ⟨_, rfl, e⟩, e2⟩
    rw [e2, sq_inj (List.cons.inj e).1]
/-- sum of whole numbers, abs -/
theorem ev_sum {is : List Int} (h : Ev cls p te ds (· = .lst (is.map D.int))) : Ev cls p (tCB (rSum K) (tCons te tNil)) ds (· = .int is.sum) := by
  refine (ev_cb (ea1 h) (rc_sum ?_)).mono ?_
  · rintro _ ⟨_, rfl, rfl⟩
    exact ⟨is, rfl⟩
  · rintro r ⟨js, ⟨_, rfl, e⟩, e2⟩
    have e1 : row true js = row true is := (List.cons.inj e).1
    rw [e2, row_inj e1]
theorem ev_abs {i : Int} (h : Ev cls p te ds (· = .int i)) : Ev cls p (tCB rAbs (tCons te tNil)) ds (· = .int (if i < 0 then -i else i)) := by
  refine (ev_cb (ea1 h) (rc_abs ?_)).mono ?_
  · rintro _ ⟨_, rfl, rfl⟩
    exact ⟨i, rfl⟩
  · rintro r ⟨j, ⟨_, rfl, e⟩, e2⟩
    cases (List.cons.inj e).1
    exact e2
theorem ev_negI {i : Int} (h : Ev cls p te ds (· = .int i)) : Ev cls p (tUn (rU fun i => .int (-i)) te) ds (· = .int (-i)) := (ev_neg h intP).mono fun d ⟨j, hj, e⟩ => by cases hj; exact e
theorem bls_inj : ∀ {a b : List Bool}, a.map D.bl = b.map D.bl → a = b
  | [], [], _ => rfl
  | [], _ :: _, e => nomatch e
  | _ :: _, [], e => nomatch e
  | x :: a, y :: b, e => by
    have e := List.cons.inj e
    rw [D.bl.inj e.1, bls_inj e.2]
theorem ev_all {bs : List Bool} (h : Ev cls p te ds (· = .lst (bs.map D.bl))) : Ev cls p (tCB (rAll K) (tCons te tNil)) ds (· = .bl (bs.all id)) := by
  refine (ev_cb (ea1 h) (rc_all ?_)).mono ?_
  · rintro _ ⟨_, rfl, rfl⟩
    exact ⟨bs, rfl⟩
  · rintro r ⟨js, ⟨_, rfl, e⟩, e2⟩
    rw [e2, bls_inj (D.lst.inj (List.cons.inj e).1)]
/-! ### zips of rows -/
theorem zips_ints : ∀ (a b : List Int), zips (a.map D.int) (b.map D.int) = (a.zip b).map fun q => D.tup [.int q.1, .int q.2]
  | [], _ => rfl
  | _ :: _, [] => rfl
  | x :: a, y :: b => by
    show D.tup [.int x, .int y] :: zips (a.map D.int) (b.map D.int) = _
    rw [zips_ints a b]
    rfl
/-- [f(x, y) for x, y in zip(a, b)], a and b rows -/
theorem ev_lcZ {i j : Nat} {vs : List Nat} {k l : Bool} {a b : List Int} {f : Int → Int → D} (h : EvA cls p t ds (· = [row k a, row l b])) (hz : a.length ≤ 1000) (hv : i ∈ vs ∧ j ∈ vs) (hw : (wipeD ds vs).map ownOf = ds.map ownOf)
    (ho : ∀ x y, (((wipeD ds vs).set i (some (Slot.dat (.int x)))).set j (some (Slot.dat (.int y)))).map ownOf = ds.map ownOf)
    (he : ∀ x y, (x, y) ∈ a.zip b → Ev cls p te (((wipeD ds vs).set i (some (Slot.dat (.int x)))).set j (some (Slot.dat (.int y)))) (· = f x y)) :
    Ev cls p (tLc (iZipS K t) (gTup K 2 (gCons (gName i) (gCons (gName j) gNil))) tYes te vs) ds (· = .lst (List.zipWith f a b)) := by
  refine (ev_lcS (js := [i, j]) (Pe := fun d r => ∀ x y, d = .tup [.int x, .int y] → r = f x y) (ei_zipR h) ?_ ?_ hw ?_).mono ?_
  · rw [zips_len, List.length_map]; omega
  · intro z hz
    rcases List.mem_cons.mp hz with e | hz
    · rw [e]; exact hv.1
    · rw [List.mem_singleton.mp hz]; exact hv.2
  · intro d hd
    rw [zips_ints, List.mem_map] at hd
    obtain ⟨⟨x, y⟩, hq, rfl⟩ := hd
    exact ⟨_, eg_tup (egs_cons (egs_cons egs_nil)) rfl, ho x y, (he x y hq).mono fun r e x' y' z => by cases z; exact e⟩
  · rintro d ⟨ys, pp, rfl⟩
    have gen : ∀ (a b : List Int) (ys : List D), Paired (fun d r => ∀ x y, d = D.tup [.int x, .int y] → r = f x y) (zips (a.map D.int) (b.map D.int)) ys → ys = List.zipWith f a b := by
      intro a
      induction a with
      | nil => intro b ys pp; cases pp; rfl
      | cons x a ih =>
        intro b ys pp
        cases b with
        | nil => cases pp; rfl
        | cons y b =>
          cases (show Paired _ (D.tup [.int x, .int y] :: zips (a.map D.int) (b.map D.int)) ys from pp) with
          | cons h t => rw [h x y rfl, ih b _ t]; rfl
    rw [gen a b ys pp]
/-- [f(x) for x in a], a a row -/
theorem ev_lcR {i : Nat} {vs : List Nat} {k : Bool} {a : List Int} {f : Int → D} (h : Ev cls p ta ds (· = row k a)) (hz : a.length ≤ 1000) (hv : i ∈ vs) (hw : (wipeD ds vs).map ownOf = ds.map ownOf)
    (ho : ∀ x, ((wipeD ds vs).set i (some (Slot.dat (.int x)))).map ownOf = ds.map ownOf)
    (he : ∀ x ∈ a, Ev cls p te ((wipeD ds vs).set i (some (Slot.dat (.int x)))) (· = f x)) :
    Ev cls p (tLc (iOr (iList K ta) (iTup K ta)) (gName i) tYes te vs) ds (· = .lst (a.map f)) := by
  refine (ev_lcS (js := [i]) (Pe := fun d r => ∀ x, d = .int x → r = f x) (ei_row h) ?_ ?_ hw ?_).mono ?_
  · rw [List.length_map]; omega
  · intro z hz
    rw [List.mem_singleton.mp hz]; exact hv
  · intro d hd
    rw [List.mem_map] at hd
    obtain ⟨x, hx, rfl⟩ := hd
    exact ⟨_, eg_name, ho x, (he x hx).mono fun r e x' z => by cases z; exact e⟩
  · rintro d ⟨ys, pp, rfl⟩
    have gen : ∀ (a : List Int) (ys : List D), Paired (fun d r => ∀ x, d = D.int x → r = f x) (a.map D.int) ys → ys = a.map f := by
      intro a
      induction a with
      | nil => intro ys pp; cases pp; rfl
      | cons x a ih =>
        intro ys pp
        cases pp with
        | cons h t => rw [h x rfl, ih _ t]; rfl
    rw [gen a ys pp]
/-- whole numbers are put together -/
theorem ev_addI {x y : Int} (h : Ev cls p ta ds (· = .int x)) (k : Ev cls p tb ds (· = .int y)) : Ev cls p (tOp (rOr (rI0 fun i j => .int (i + j)) rCat) ta tb) ds (· = .int (x + y)) :=
  (ev_op h k (rv_l (rv_I0 intP intP))).mono fun d ⟨i, j, hi, hj, e⟩ => by cases hi; cases hj; exact e
theorem ev_subI {x y : Int} (h : Ev cls p ta ds (· = .int x)) (k : Ev cls p tb ds (· = .int y)) : Ev cls p (tOp (rI0 fun i j => .int (i - j)) ta tb) ds (· = .int (x - y)) :=
  (ev_op h k (rv_I0 intP intP)).mono fun d ⟨i, j, hi, hj, e⟩ => by cases hi; cases hj; exact e
theorem ev_mulI {x y : Int} (h : Ev cls p ta ds (· = .int x)) (k : Ev cls p tb ds (· = .int y)) (hc : CMulW x y) : Ev cls p (tOp (rOr (rI CMulW fun i j => .int (i * j)) (rOr rRep (rRepT K))) ta tb) ds (· = .int (x * y)) :=
  (ev_op h k (rv_l (rv_IC intP intP fun i j hi hj => by cases hi; cases hj; exact hc))).mono fun d ⟨i, j, hi, hj, e⟩ => by cases hi; cases hj; exact e
theorem mulW {x y : Int} (hx : x.natAbs < 2 ^ 400000) (hy : y.natAbs < 2 ^ 400000) : CMulW x y := wide_mul hx hy (by decide) (by decide) (by decide)
theorem pow_le {n : Nat} {a b : Nat} (h : n < 2 ^ a) (hab : a ≤ b) : n < 2 ^ b := Nat.lt_of_lt_of_le h (Nat.pow_le_pow_right (by decide) hab)

/-! ### tests that do not hold, values that are True -/
variable {nx bk ct : Sts → Prop} {rt : D → Prop} {ts : TS} {tl tr : TE} {tt tu : TT}
theorem sv_guard (h : ET cls p tt ds (· = false)) (k : nx ds) : Sv cls p (tIfS tt ts tNext) ds nx rt bk ct := sv_if h (fun e => nomatch e) fun _ => sv_next k
theorem ev_show {d : D} {n : Nat} (h : Ev cls p te ds (· = d)) (hn : n ≤ 20) (hs : shD n d = true) (hz : szD n d ≤ 10000000) : Ev cls p (tCB (rShow K) (tCons te tNil)) ds (· = .str (py d).shown) := by
  refine (ev_cb (ea1 h) (rc_show ?_)).mono ?_
  · rintro _ ⟨_, rfl, rfl⟩
    exact ⟨_, n, rfl, hn, hs, hz⟩
  · rintro r ⟨x, ⟨y, e1, e2⟩, e3⟩
    have e4 := (List.cons.inj e2).1
    rw [e3, e4, e1]
theorem et_neS {a : Str} (h : Ev cls p tl ds (· = .str a)) (k : Ev cls p tr ds (· = .str a)) : ET cls p (tTest (tOp (rOr rNe (rNeD K)) tl tr)) ds (· = false) := by
  refine (et_test (ev_op h k (rv_l (rv_neS fun dx dy hx hy => ⟨_, _, hx, hy⟩))) (fun d ⟨_, _, _, _, e⟩ => ⟨_, e⟩)).mono ?_
  rintro b ⟨x, y, hx, hy, e⟩
  have e1 := D.str.inj hx
  have e2 := D.str.inj hy
  rw [D.bl.inj e, e1, e2, decide_eq_true rfl]
  rfl
theorem ev_eqS {a : Str} (h : Ev cls p tl ds (· = .str a)) (k : Ev cls p tr ds (· = .str a)) : Ev cls p (tOp (rOr rEq (rEqD K)) tl tr) ds (· = .bl true) := by
  refine (ev_op h k (rv_l (rv_eqS fun dx dy hx hy => ⟨_, _, hx, hy⟩))).mono ?_
  rintro d ⟨x, y, hx, hy, e⟩
  have e1 := D.str.inj hx
  have e2 := D.str.inj hy
  rw [e, e1, e2, decide_eq_true rfl]
theorem et_neI {i : Int} (h : Ev cls p tl ds (· = .int i)) (k : Ev cls p tr ds (· = .int i)) : ET cls p (tTest (tOp (rOr rNe (rNeD K)) tl tr)) ds (· = false) := by
  refine (et_test (ev_op h k (rv_l (rv_neI intP intP))) blP_S).mono ?_
  rintro b ⟨x, y, hx, hy, e⟩
  have e1 := D.int.inj hx
  have e2 := D.int.inj hy
  rw [D.bl.inj e, e1, e2]
  show (!decide (i = i)) = false
  rw [decide_eq_true rfl]
  rfl
theorem ev_eqD {d : D} {n : Nat} (h : Ev cls p tl ds (· = d)) (k : Ev cls p tr ds (· = d)) (hn : n ≤ 64) (ho : okD n d = true) : Ev cls p (tOp (rOr rEq (rEqD K)) tl tr) ds (· = .bl true) := by
  refine (ev_op h k (rv_r (rv_eqD fun dx dy hx hy => ⟨n, hn, by rw [hx]; exact ho, by rw [hy]; exact ho⟩))).mono ?_
  rintro r ⟨x, y, hx, hy, e⟩
  rw [e, hx, hy, SeqAt.eqv_refl _ (okD_can n d ho).1]
theorem et_neD {d : D} {n : Nat} (h : Ev cls p tl ds (· = d)) (k : Ev cls p tr ds (· = d)) (hn : n ≤ 64) (ho : okD n d = true) : ET cls p (tTest (tOp (rOr rNe (rNeD K)) tl tr)) ds (· = false) := by
  refine (et_test (ev_op h k (rv_r (rv_neD fun dx dy hx hy => ⟨n, hn, by rw [hx]; exact ho, by rw [hy]; exact ho⟩))) (fun d ⟨_, _, _, _, e⟩ => ⟨_, e⟩)).mono ?_
  rintro b ⟨x, y, hx, hy, e⟩
  rw [D.bl.inj e, hx, hy, SeqAt.eqv_refl _ (okD_can n d ho).1]
  rfl
theorem et_orF (h : ET cls p tt ds (· = false)) (k : ET cls p tu ds (· = false)) : ET cls p (tOr tt tu) ds (· = false) := (et_or h fun _ => k).mono fun b h => h.elim (fun z => nomatch z.2) fun z => z.2
theorem ev_andT (h : Ev cls p ta ds (· = .bl true)) (k : Ev cls p tb ds (· = .bl true)) : Ev cls p (tAndV ta tb) ds (· = .bl true) := (ev_andV h blP fun _ => k).mono fun d h => h.elim (fun z => nomatch z.2) fun z => z.2
theorem et_notT (h : ET cls p tt ds (· = true)) : ET cls p (tNot tt) ds (· = false) := (et_not h).mono fun b e => by cases b with | false => rfl | true => cases e
theorem et_gtF {i j : Int} (h : Ev cls p tl ds (· = .int i)) (k : Ev cls p tr ds (· = .int j)) (hij : ¬ j < i) : ET cls p (tTest (tOp (rI0 fun i j => .bl (decide (j < i))) tl tr)) ds (· = false) := by
  refine (et_test (ev_op h k (rv_B0 intP intP)) blP_S).mono ?_
  rintro b ⟨x, y, hx, hy, e⟩
  cases hx; cases hy
  rw [D.bl.inj e]
  exact decide_eq_false hij
theorem ev_lst2 {x y : D} (h : Ev cls p ta ds (· = x)) (k : Ev cls p tb ds (· = y)) : Ev cls p (tLst (tCons ta (tCons tb tNil))) ds (· = .lst [x, y]) :=
  (ev_lst (ea2 h k) fun xs ⟨_, _, _, _, e⟩ => by rw [e]; exact (by decide : 2 ≤ 100000)).mono fun d ⟨xs, ⟨a, b, ha, hb, e⟩, e2⟩ => by rw [e2, e, ha, hb]
theorem ev_lst1 {x : D} (h : Ev cls p ta ds (· = x)) : Ev cls p (tLst (tCons ta tNil)) ds (· = .lst [x]) :=
  (ev_lst (ea1 h) fun xs ⟨_, _, e⟩ => by rw [e]; exact (by decide : 1 ≤ 100000)).mono fun d ⟨xs, ⟨a, ha, e⟩, e2⟩ => by rw [e2, e, ha]
theorem ev_lst0 : Ev cls p (tLst tNil) ds (· = .lst []) :=
  (ev_lst ea_nil fun xs e => by rw [e]; exact Nat.zero_le _).mono fun d ⟨xs, e, e2⟩ => by rw [e2, e]
theorem ev_lst3 {x y z : D} (h : Ev cls p ta ds (· = x)) (k : Ev cls p tb ds (· = y)) (m : Ev cls p tc ds (· = z)) : Ev cls p (tLst (tCons ta (tCons tb (tCons tc tNil)))) ds (· = .lst [x, y, z]) :=
  (ev_lst (ea3 h k m) fun xs ⟨_, _, _, _, _, _, e⟩ => by rw [e]; exact (by decide : 3 ≤ 100000)).mono fun d ⟨xs, ⟨a, b, c, ha, hb, hc, e⟩, e2⟩ => by rw [e2, e, ha, hb, hc]
theorem ev_lst4 {x y z w : D} (h : Ev cls p ta ds (· = x)) (k : Ev cls p tb ds (· = y)) (m : Ev cls p tc ds (· = z)) (n : Ev cls p td ds (· = w)) : Ev cls p (tLst (tCons ta (tCons tb (tCons tc (tCons td tNil))))) ds (· = .lst [x, y, z, w]) :=
  (ev_lst (ea4 h k m n) fun xs ⟨_, _, _, _, _, _, _, _, e⟩ => by rw [e]; exact (by decide : 4 ≤ 100000)).mono fun d ⟨xs, ⟨a, b, c, d', ha, hb, hc, hd, e⟩, e2⟩ => by rw [e2, e, ha, hb, hc, hd]
/-- what a row shows, how it is compared -/
theorem sh_row (n : Nat) (k : Bool) {a : List Int} (h : ∀ i ∈ a, i.natAbs < 2 ^ 1900) : shD (n + 1) (row k a) = true := by
  have e : (a.map D.int).all (shD n) = true := by
    rw [List.all_eq_true]
    intro d hd
    obtain ⟨i, hi, rfl⟩ := List.mem_map.mp hd
    cases n <;> exact decide_eq_true (h i hi)
  cases k <;> exact e
theorem sz_row (n : Nat) (k : Bool) (a : List Int) : szD (n + 1) (row k a) = 4 + 2002 * a.length := by
  have e : ((a.map D.int).map fun x => szD n x + 2).sum = 2002 * a.length := by
    induction a with
    | nil => rfl
    | cons i a ih =>
      rw [List.map_cons, List.map_cons, List.sum_cons, ih, List.length_cons]
      have : szD n (.int i) = 2000 := by cases n <;> rfl
      rw [this]
      omega
  cases k <;> (show 4 + _ = _; rw [e])
theorem ok_row (n : Nat) (k : Bool) (a : List Int) : okD (n + 1) (row k a) = true := by
  have e : (a.map D.int).all (okD n) = true := by
    rw [List.all_eq_true]
    intro d hd
    obtain ⟨i, hi, rfl⟩ := List.mem_map.mp hd
    cases n <;> rfl
  cases k <;> exact e
theorem mem_zipWith {f : Int → Int → Int} : ∀ {a b : List Int} {z : Int}, z ∈ List.zipWith f a b → ∃ x y, x ∈ a ∧ y ∈ b ∧ z = f x y
  | [], _, _, h => nomatch h
  | _ :: _, [], _, h => nomatch h
  | x :: a, y :: b, z, h => by
    rcases List.mem_cons.mp (show z ∈ f x y :: List.zipWith f a b from h) with e | h
    · exact ⟨x, y, List.mem_cons_self .., List.mem_cons_self .., e⟩
    · obtain ⟨u, v, h1, h2, e⟩ := mem_zipWith h
      exact ⟨u, v, List.mem_cons_of_mem _ h1, List.mem_cons_of_mem _ h2, e⟩
theorem sum_bound {B : Nat} : ∀ {a : List Int}, (∀ i ∈ a, i.natAbs < B) → a.sum.natAbs ≤ a.length * B
  | [], _ => by simp
  | x :: a, h => by
    have h1 := h x (List.mem_cons_self ..)
    have h2 := sum_bound (a := a) fun i hi => h i (List.mem_cons_of_mem _ hi)
    rw [List.sum_cons, List.length_cons, Nat.add_mul]
    omega

/-- tuple([f(x, y) for x, y in zip(a, b)]), tuple([f(x) for x in a]): rows -/
theorem ev_rowZ {i j : Nat} {vs : List Nat} {k l : Bool} {a b : List Int} (f : Int → Int → Int) (h : Ev cls p ta ds (· = row k a)) (g : Ev cls p tb ds (· = row l b)) (hz : a.length ≤ 1000) (hv : i ∈ vs ∧ j ∈ vs) (hw : (wipeD ds vs).map ownOf = ds.map ownOf)
    (ho : ∀ x y, (((wipeD ds vs).set i (some (Slot.dat (.int x)))).set j (some (Slot.dat (.int y)))).map ownOf = ds.map ownOf)
    (he : ∀ x y, (x, y) ∈ a.zip b → Ev cls p te (((wipeD ds vs).set i (some (Slot.dat (.int x)))).set j (some (Slot.dat (.int y)))) (· = .int (f x y))) :
    Ev cls p (tLc (iZipS K (tCons ta (tCons tb tNil))) (gTup K 2 (gCons (gName i) (gCons (gName j) gNil))) tYes te vs) ds (· = row true (List.zipWith f a b)) :=
  (ev_lcZ (f := fun x y => .int (f x y)) ((ea2 h g).mono fun xs ⟨x, y, ex, ey, e⟩ => by rw [e, ex, ey]) hz hv hw ho he).mono fun d e => by rw [e]; show _ = D.lst _; rw [List.map_zipWith]
theorem ev_rowR {i : Nat} {vs : List Nat} {k : Bool} {a : List Int} (f : Int → Int) (h : Ev cls p ta ds (· = row k a)) (hz : a.length ≤ 1000) (hv : i ∈ vs) (hw : (wipeD ds vs).map ownOf = ds.map ownOf)
    (ho : ∀ x, ((wipeD ds vs).set i (some (Slot.dat (.int x)))).map ownOf = ds.map ownOf)
    (he : ∀ x ∈ a, Ev cls p te ((wipeD ds vs).set i (some (Slot.dat (.int x)))) (· = .int (f x))) :
    Ev cls p (tLc (iOr (iList K ta) (iTup K ta)) (gName i) tYes te vs) ds (· = row true (a.map f)) :=
  (ev_lcR (f := fun x => .int (f x)) h hz hv hw ho he).mono fun d e => by rw [e]; show _ = D.lst _; rw [List.map_map]; rfl
theorem ev_rowT {k : Bool} {a : List Int} (h : Ev cls p te ds (· = row k a)) : Ev cls p (tCB (rTuple K) (tCons te tNil)) ds (· = row false a) := ev_tupOf h
theorem ev_rowL {k : Bool} {a : List Int} (h : Ev cls p te ds (· = row k a)) : Ev cls p (tCB (rList K) (tCons te tNil)) ds (· = row true a) := ev_lstOf h
/-- a call with two (one) known arguments, by position and by names -/
theorem ev_c2 {pre : (Addr → Prop) → List D → Prop} {F : List D → D → Prop} {x y z : D} (h : Ev cls p ta ds (· = x)) (g : Ev cls p tb ds (· = y)) (hp : pre p [x, y]) (hF : ∀ d, F [x, y] d → d = z) : Ev cls p (tCall (spG cls 2 pre F) [] E0 (tCons ta (tCons tb tNil))) ds (· = z) :=
  ev_call' (ea2 h g) fun xs ⟨_, _, ex, ey, e⟩ => by rw [e, ex, ey]; exact ⟨rfl, hp, hF⟩
theorem ev_k2 {pre : (Addr → Prop) → List D → Prop} {F : List D → D → Prop} {x y z : D} (h : Ev cls p ta ds (· = x)) (g : Ev cls p tb ds (· = y)) (hp : pre p [x, y]) (hF : ∀ d, F [x, y] d → d = z) : Ev cls p (tKey (spG cls 2 pre F) [1, 0] 2 (tCons tb (tCons ta tNil))) ds (· = z) :=
  ev_key' (ea2 g h) fun xs ⟨_, _, ey, ex, e⟩ => by rw [e, ex, ey]; exact ⟨rfl, rfl, hp, hF⟩
theorem ev_c1 {pre : (Addr → Prop) → List D → Prop} {F : List D → D → Prop} {x z : D} (h : Ev cls p ta ds (· = x)) (hp : pre p [x]) (hF : ∀ d, F [x] d → d = z) : Ev cls p (tCall (spG cls 1 pre F) [] E0 (tCons ta tNil)) ds (· = z) :=
  ev_call' (ea1 h) fun xs ⟨_, ex, e⟩ => by rw [e, ex]; exact ⟨rfl, hp, hF⟩
theorem ev_k1 {pre : (Addr → Prop) → List D → Prop} {F : List D → D → Prop} {x z : D} (h : Ev cls p ta ds (· = x)) (hp : pre p [x]) (hF : ∀ d, F [x] d → d = z) : Ev cls p (tKey (spG cls 1 pre F) [0] 1 (tCons ta tNil)) ds (· = z) :=
  ev_key' (ea1 h) fun xs ⟨_, ex, e⟩ => by rw [e, ex]; exact ⟨rfl, rfl, hp, hF⟩

/-! ### written lists, what is known of them -/
theorem ea_nilE : EvA cls p tNil ds (· = []) := ea_nil
theorem ea_consE {t : TA} {x : D} {xs : List D} (h : Ev cls p ta ds (· = x)) (k : EvA cls p t ds (· = xs)) : EvA cls p (tCons ta t) ds (· = x :: xs) := (ea_cons h k).mono fun l ⟨_, _, hx, hy, e⟩ => by rw [e, hx, hy]
theorem ev_lstE {t : TA} {xs : List D} (h : EvA cls p t ds (· = xs)) (hl : xs.length ≤ 100000) : Ev cls p (tLst t) ds (· = .lst xs) := (ev_lst h fun ys e => by rw [e]; exact hl).mono fun d ⟨ys, e, e2⟩ => by rw [e2, e]
theorem ev_tupE {t : TA} {xs : List D} (h : EvA cls p t ds (· = xs)) (hl : xs.length ≤ 100000) : Ev cls p (tTup t) ds (· = .tup xs) := (ev_tup h fun ys e => by rw [e]; exact hl).mono fun d ⟨ys, e, e2⟩ => by rw [e2, e]
theorem ev_repE {xs : List D} {n : Int} (h : Ev cls p ta ds (· = .lst xs)) (k : Ev cls p tb ds (· = .int n)) (h0 : -(2 ^ 63) ≤ n) (h1 : n < 2 ^ 63) (hz : xs.length * n.toNat ≤ 100000) : Ev cls p (tOp (rOr (rI CMulW fun i j => .int (i * j)) (rOr rRep (rRepT K))) ta tb) ds (· = .lst (reps n.toNat xs)) :=
  (ev_op h k (rv_r (rv_l (rv_rep fun dx dy hx hy => ⟨xs, n, hx, hy, h0, h1, hz⟩)))).mono fun d ⟨ys, m, e1, e2, e⟩ => by rw [e, D.lst.inj e1, D.int.inj e2]
theorem ev_repTE {xs : List D} {n : Int} (h : Ev cls p ta ds (· = .tup xs)) (k : Ev cls p tb ds (· = .int n)) (h0 : xs ≠ []) (h1 : 2 ≤ n) (h2 : n ≤ 1000) (hz : xs.length ≤ 1000) : Ev cls p (tOp (rOr (rI CMulW fun i j => .int (i * j)) (rOr rRep (rRepT K))) ta tb) ds (· = .tup (reps n.toNat xs)) :=
  (ev_op h k (rv_r (rv_r (rv_repT fun dx dy hx hy => ⟨xs, n, hx, hy, h0, h1, h2, hz⟩)))).mono fun d ⟨ys, m, e1, e2, e⟩ => by rw [e, D.tup.inj e1, D.int.inj e2]
theorem ev_catE {xs ys : List D} (h : Ev cls p ta ds (· = .lst xs)) (k : Ev cls p tb ds (· = .lst ys)) (hz : xs.length + ys.length ≤ 100000) : Ev cls p (tOp (rOr (rI0 fun i j => .int (i + j)) rCat) ta tb) ds (· = .lst (xs ++ ys)) :=
  (ev_op h k (rv_r (rv_cat fun dx dy hx hy => ⟨xs, ys, hx, hy, hz⟩))).mono fun d ⟨x, y, e1, e2, e⟩ => by rw [e, D.lst.inj e1, D.lst.inj e2]
theorem et_Bt {b : Bool} (h : Ev cls p te ds (· = .bl b)) : ET cls p (tB te) ds (· = b) := (et_B h blP).mono fun c e => D.bl.inj e
/-- [x for x in xs if b(x)], b known -/
theorem ev_lcY {tu : TT} {wi : TI} {g : TG} {vs js : List Nat} {xs : List D} {b : D → Bool} {Pe : D → D → Prop} (hi : EI cls p wi ds (· = xs)) (hz : xs.length ≤ 100000) (hj : ∀ j ∈ js, j ∈ vs) (hw : (wipeD ds vs).map ownOf = ds.map ownOf)
    (h : ∀ x ∈ xs, ∃ ds', EvG cls p g js x (wipeD ds vs) ds' ∧ ds'.map ownOf = ds.map ownOf ∧ ET cls p tu ds' (· = b x) ∧ (b x = true → Ev cls p te ds' (Pe x))) :
    Ev cls p (tLc wi g tu te vs) ds (fun d => ∃ ys, Paired Pe (xs.filter b) ys ∧ d = .lst ys) :=
  (ev_lc (b := b) (Pe := Pe) hi (fun ys e => by rw [e]; exact hz) hj (fun ys e x hx => by subst e; exact h x hx) hw).mono fun d ⟨zs, ys, e, pp, z⟩ => by subst e; exact ⟨ys, pp, z⟩
theorem none_of {Pe : D → D → Prop} {xs ys : List D} {b : D → Bool} (h : Paired Pe (xs.filter b) ys) (e : xs.filter b = []) : ys = [] := by
  rw [e] at h
  cases h
  rfl

/-! ### what is known of numbers and truths, without a choice -/
theorem et_iE {f : Int → Int → Bool} {i j : Int} (h : Ev cls p tl ds (· = .int i)) (k : Ev cls p tr ds (· = .int j)) : ET cls p (tTest (tOp (rI0 fun i j => .bl (f i j)) tl tr)) ds (· = f i j) :=
  (et_test (ev_op h k (rv_B0 intP intP)) blP_S).mono fun b ⟨x, y, hx, hy, e⟩ => by cases hx; cases hy; exact D.bl.inj e
theorem ev_iE {f : Int → Int → Bool} {i j : Int} (h : Ev cls p tl ds (· = .int i)) (k : Ev cls p tr ds (· = .int j)) : Ev cls p (tOp (rI0 fun i j => .bl (f i j)) tl tr) ds (· = .bl (f i j)) :=
  (ev_op h k (rv_B0 intP intP)).mono fun b ⟨x, y, hx, hy, e⟩ => by cases hx; cases hy; exact e
theorem ev_eqIE {i j : Int} (h : Ev cls p tl ds (· = .int i)) (k : Ev cls p tr ds (· = .int j)) : Ev cls p (tOp (rOr rEq (rEqD K)) tl tr) ds (· = .bl (decide (i = j))) :=
  (ev_op h k (rv_l (rv_eqI intP intP))).mono fun b ⟨x, y, hx, hy, e⟩ => by cases hx; cases hy; exact e
theorem et_eqIE {i j : Int} (h : Ev cls p tl ds (· = .int i)) (k : Ev cls p tr ds (· = .int j)) : ET cls p (tTest (tOp (rOr rEq (rEqD K)) tl tr)) ds (· = decide (i = j)) :=
  (et_test (ev_eqIE h k) blP).mono fun b e => D.bl.inj e
theorem et_chE {f f' : Int → Int → Bool} {i j k : Int} (ha : Ev cls p ta ds (· = .int i)) (hb : Ev cls p tb ds (· = .int j)) (hc : Ev cls p tc ds (· = .int k)) : ET cls p (tTest (tChain (rI0 fun i j => .bl (f i j)) (rI0 fun i j => .bl (f' i j)) ta tb tc)) ds (· = (f i j && f' j k)) := by
  refine (et_test (ev_chain ha hb hc intP intP intP) ?_).mono ?_
  · rintro d ⟨i', j', e1, e2, h⟩
    rcases h with ⟨_, e⟩ | ⟨_, _, _, e⟩ <;> exact ⟨_, e⟩
  · rintro b ⟨i', j', e1, e2, h⟩
    cases e1; cases e2
    rcases h with ⟨h, e⟩ | ⟨h, k', e3, e⟩
    · rw [h, D.bl.inj e]; rfl
    · cases e3; rw [h, D.bl.inj e]; rfl
theorem ev_andB {a b : Bool} (h : Ev cls p ta ds (· = .bl a)) (k : a = true → Ev cls p tb ds (· = .bl b)) : Ev cls p (tAndV ta tb) ds (· = .bl (a && b)) :=
  (ev_andV h blP fun e => k (D.bl.inj e).symm).mono fun d z => z.elim (fun ⟨e, f⟩ => by rw [e, ← D.bl.inj f]; rfl) fun ⟨e, f⟩ => by rw [f, ← D.bl.inj e]; rfl
theorem ev_orB {a b : Bool} (h : Ev cls p ta ds (· = .bl a)) (k : a = false → Ev cls p tb ds (· = .bl b)) : Ev cls p (tOrV ta tb) ds (· = .bl (a || b)) :=
  (ev_orV h blP fun e => k (D.bl.inj e).symm).mono fun d z => z.elim (fun ⟨e, f⟩ => by rw [e, ← D.bl.inj f]; rfl) fun ⟨e, f⟩ => by rw [f, ← D.bl.inj e]; rfl
theorem et_andE {a b : Bool} (h : ET cls p tt ds (· = a)) (k : a = true → ET cls p tu ds (· = b)) : ET cls p (tAnd tt tu) ds (· = (a && b)) :=
  (et_and h fun e => k e.symm).mono fun d z => z.elim (fun ⟨e, f⟩ => by rw [e, ← f]; rfl) fun ⟨e, f⟩ => by rw [f, ← e]; rfl
theorem et_orE {a b : Bool} (h : ET cls p tt ds (· = a)) (k : a = false → ET cls p tu ds (· = b)) : ET cls p (tOr tt tu) ds (· = (a || b)) :=
  (et_or h fun e => k e.symm).mono fun d z => z.elim (fun ⟨e, f⟩ => by rw [e, ← f]; rfl) fun ⟨e, f⟩ => by rw [f, ← e]; rfl
theorem et_notE {a : Bool} (h : ET cls p tt ds (· = a)) : ET cls p (tNot tt) ds (· = !a) := (et_not h).mono fun b e => by rw [← e, Bool.not_not]
theorem ev_ifE {b : Bool} {x y : D} (h : ET cls p tt ds (· = b)) (k : b = true → Ev cls p ta ds (· = x)) (k' : b = false → Ev cls p tb ds (· = y)) : Ev cls p (tIf tt ta tb) ds (· = if b = true then x else y) :=
  (ev_if h (fun e => k e.symm) fun e => k' e.symm).mono fun d z => z.elim (fun ⟨e, f⟩ => by rw [f, ← e]; rfl) fun ⟨e, f⟩ => by rw [f, ← e]; rfl
theorem sv_ifE {b : Bool} {tu' : TS} (h : ET cls p tt ds (· = b)) (k : b = true → Sv cls p ts ds nx rt bk ct) (k' : b = false → Sv cls p tu' ds nx rt bk ct) : Sv cls p (tIfS tt ts tu') ds nx rt bk ct := sv_if h (fun e => k e.symm) fun e => k' e.symm
theorem sv_par3 {i j l : Nat} {t : TA} (h : EvA cls p t ds PA) (k : ∀ xs, PA xs → ∃ a b c, xs = [a, b, c] ∧ nx (((ds.set i (some (Slot.dat a))).set j (some (Slot.dat b))).set l (some (Slot.dat c)))) : Sv cls p (tPar3 i j l t) ds nx rt bk ct := fun pn N H0 ad σ H S Dn q1 _ _ _ =>
  h pn N H0 ad σ H S _ fun vs H1 xs ps g1 a => by
    obtain ⟨x, y, z, rfl, hn⟩ := k xs ps
    cases a with
    | cons a b =>
    cases b with
    | cons b c =>
    cases c with
    | cons c d =>
      cases d
      exact ⟨_, _, _, rfl, q1 ad _ H1 _ hn ((((S.mono g1).put a).put (b.less hid_set)).put ((c.less hid_set).less hid_set))⟩
/-- an item of an own list -/
theorem ev_ownIx {i : Nat} {xs : List D} {k : Int} {d : D} (e : ds[i]? = some (some (Slot.own xs))) (hi : Ev cls p tb ds (· = .int k)) (hd : atI xs k = some d) : Ev cls p (tOp (rIx K) (tVar i) tb) ds (· = d) := fun pn N H0 ad σ H S Q q => by
  obtain ⟨h1, h2, h3, vs, h4, h5⟩ := S.own i xs e
  refine ⟨.ref (ad i), h1, hi pn N H0 ad σ H S _ fun w H1 dj pj g a => ?_⟩
  subst pj
  cases a
  have e4 : H1 (ad i) = some (.lst vs) := g.ext _ _ (fun z => h2 (S.wf.sub _ z)) h4
  have h6 := h5.mono S.hsub g
  unfold atI at hd
  cases q1 : ixN xs.length k with
  | none => rw [q1] at hd; cases hd
  | some j =>
    rw [q1] at hd
    obtain ⟨v, hv, av⟩ := h6.get hd
    refine .inl ⟨ad i, vs, k, v, rfl, rfl, .inl (.inl e4), ?_, q v H1 d rfl g av⟩
    unfold atI
    rw [h6.length, q1]
    exact hv
theorem zw_zip {α : Type} (f : Int → Int → α) : ∀ a b : List Int, List.zipWith f a b = (a.zip b).map fun q => f q.1 q.2
  | [], _ => rfl
  | _ :: _, [] => rfl
  | x :: a, y :: b => by
    show f x y :: List.zipWith f a b = f x y :: (a.zip b).map fun q => f q.1 q.2
    rw [zw_zip f a b]
theorem zips_at {a b : List Int} {n : Nat} {d : D} (h : (zips (a.map D.int) (b.map D.int))[n]? = some d) : ∃ x y, d = .tup [.int x, .int y] ∧ (a.zip b)[n]? = some (x, y) := by
  rw [zips_ints, List.getElem?_map] at h
  cases q : (a.zip b)[n]? with
  | none => rw [q] at h; cases h
  | some z => rw [q] at h; exact ⟨z.1, z.2, (Option.some.inj h).symm, rfl⟩
theorem take_zw {α : Type} {f : Int → Int → α} {a b : List Int} {n : Nat} {x y : Int} (h : (a.zip b)[n]? = some (x, y)) : (List.zipWith f a b).take (n + 1) = (List.zipWith f a b).take n ++ [f x y] := by
  rw [List.take_add_one, zw_zip, List.getElem?_map, h]
  rfl
theorem ints_at {a : List Int} {n : Nat} {d : D} (h : (a.map D.int)[n]? = some d) : ∃ x, d = .int x ∧ a[n]? = some x ∧ x ∈ a := by
  rw [List.getElem?_map] at h
  cases q : a[n]? with
  | none => rw [q] at h; cases h
  | some z => rw [q] at h; exact ⟨z, (Option.some.inj h).symm, rfl, List.mem_of_getElem? q⟩

/-- rows that are compared -/
theorem eqv_ints : ∀ a b : List Int, PyData.eqvAll (pyAll (a.map D.int)) (pyAll (b.map D.int)) = decide (a = b)
  | [], [] => by simp [pyAll, PyData.eqvAll]
  | [], _ :: _ => by simp [pyAll, PyData.eqvAll]
  | _ :: _, [] => by simp [pyAll, PyData.eqvAll]
  | x :: a, y :: b => by
    rw [List.map_cons, List.map_cons]
    show PyData.eqvAll (PyData.int x :: pyAll (a.map D.int)) (PyData.int y :: pyAll (b.map D.int)) = _
    rw [PyData.eqvAll, eqv_ints a b, Bool.eq_iff_iff, Bool.and_eq_true, decide_eq_true_iff, decide_eq_true_iff, PyData.eqv, List.cons.injEq]
    simp
theorem eqv_row (k : Bool) (a b : List Int) : (py (row k a)).eqv (py (row k b)) = decide (a = b) := by
  cases k
  · show PyData.eqv (.tuple (pyAll (a.map D.int))) (.tuple (pyAll (b.map D.int))) = _
    rw [PyData.eqv, eqv_ints]
  · show PyData.eqv (.list (pyAll (a.map D.int))) (.list (pyAll (b.map D.int))) = _
    rw [PyData.eqv, eqv_ints]
theorem ev_eqR {k : Bool} {a b : List Int} (h : Ev cls p tl ds (· = row k a)) (g : Ev cls p tr ds (· = row k b)) : Ev cls p (tOp (rOr rEq (rEqD K)) tl tr) ds (· = .bl (decide (a = b))) := by
  refine (ev_op h g (rv_r (rv_eqD fun dx dy hx hy => ⟨2, by decide, by rw [hx]; exact ok_row 1 _ _, by rw [hy]; exact ok_row 1 _ _⟩))).mono ?_
  rintro d ⟨x, y, hx, hy, e⟩
  rw [e, hx, hy, eqv_row]
/-- repr of two truths -/
theorem ev_showB2 {b c : Bool} (h : Ev cls p te ds (· = .lst [.bl b, .bl c])) : Ev cls p (tCB (rShow K) (tCons te tNil)) ds (· = .str (py (.lst [.bl b, .bl c])).shown) := ev_show (n := 2) h (by decide) rfl (by show 4 + (2002 + (2002 + 0)) ≤ 10000000; decide)

/-! ### draws -/
theorem intDraw {lo hi : Int} : IntP (fun d => ∃ x : Int, lo ≤ x ∧ x < hi ∧ d = .int x) := fun d ⟨x, _, _, e⟩ => ⟨x, e⟩
theorem ev_draw {i : Nat} {a : Addr} {n : Int} (e : ds[i]? = some (some (Slot.dat (.adr a)))) (hp : p a) (h : Ev cls p tb ds (· = .int n)) (h0 : 0 < n) (h1 : n < 1073741824) :
    Ev cls p (tCall (spG cls 2 preDraw isDraw) [] E0 (tCons (tVar i) (tCons tb tNil))) ds (fun d => ∃ x : Int, 0 ≤ x ∧ x < n ∧ d = .int x) := by
  refine ev_call' (ea2 (ev_var e) h) ?_
  rintro _ ⟨x, y, ex, ey, rfl⟩
  rw [ex, ey]
  refine ⟨rfl, ⟨a, n, rfl, hp, h0, h1⟩, ?_⟩
  rintro d ⟨a', n', i', e, l1, l2, e2⟩
  cases (List.cons.inj (List.cons.inj e).2).1
  exact ⟨i', l1, l2, e2⟩
theorem ev_powI {x y : Int} (h : Ev cls p ta ds (· = .int x)) (k : Ev cls p tb ds (· = .int y)) (hc : CPow x y) : Ev cls p (tOp (rI CPow fun i j => .int (i ^ j.toNat)) ta tb) ds (· = .int (x ^ y.toNat)) :=
  (ev_op h k (rv_IC intP intP fun i j hi hj => by cases hi; cases hj; exact hc)).mono fun d ⟨i, j, hi, hj, e⟩ => by cases hi; cases hj; exact e
/-- an item of a list by a place that is drawn -/
theorem rv_ixs (h : ∀ dx dy, PX dx → PY dy → ∃ k xs i d, dx = sq k xs ∧ dy = .int i ∧ atI xs i = some d ∧ P d) : Rv cls p (rIx K) PX PY P := fun N H x y dx dy W ax ay px py Q q => by
  obtain ⟨k, xs, i, d, e1, e2, e3, pd⟩ := h dx dy px py
  cases k with
  | true => exact .inl (rv_ixL (K := K) (cls := cls) (p := p) (PX := (· = dx)) (PY := (· = dy)) (P := P) (fun dx' dy' hx hy => ⟨xs, i, d, hx.trans e1, hy.trans e2, e3, pd⟩) N H x y dx dy W ax ay rfl rfl Q q)
  | false => exact .inr (.inl (rv_ixT (K := K) (cls := cls) (p := p) (PX := (· = dx)) (PY := (· = dy)) (P := P) (fun dx' dy' hx hy => ⟨xs, i, d, hx.trans e1, hy.trans e2, e3, pd⟩) N H x y dx dy W ax ay rfl rfl Q q))
theorem ev_ixI {k : Bool} {xs : List D} {i : Int} {d : D} (h : Ev cls p ta ds (· = sq k xs)) (g : Ev cls p tb ds (· = .int i)) (e : atI xs i = some d) : Ev cls p (tOp (rIx K) ta tb) ds (· = d) :=
  ev_op h g (rv_ixs fun dx dy hx hy => ⟨k, xs, i, d, hx, hy, e, rfl⟩)
theorem atI_of {α : Type} {xs : List α} {i : Int} (h0 : 0 ≤ i) (h1 : i < xs.length) : ∃ d, atI xs i = some d ∧ d ∈ xs := by
  have hi : i.toNat < xs.length := by omega
  refine ⟨xs[i.toNat], ?_, List.getElem_mem hi⟩
  unfold atI ixN
  rw [if_pos h0, if_pos h1]
  exact List.getElem?_eq_getElem hi
/-- the script -/
theorem ev_lenS {ns : List Int} (h : Ev cls p te ds (· = .scr ns)) (hK : cls.K = K) : Ev cls p (tCB (rLen K) (tCons te tNil)) ds (· = .int ns.length) := fun pn N H0 ad σ H S Q q =>
  h pn N H0 ad σ H S _ fun v H1 d pd g a => by
    subst pd hK
    have key : ∃ r, v = .ref r ∧ SqL cls.K H1 r (ns.map V.int) := by
      cases a with
      | scr n r => exact ⟨_, rfl, .inl r⟩
      | scrK r => exact ⟨_, rfl, r H1⟩
    obtain ⟨r, rfl, hr⟩ := key
    exact ⟨r, _, rfl, .inl hr, by rw [List.length_map]; exact q _ H1 _ rfl g (.int _)⟩
theorem ev_ixS {ns : List Int} {i x : Int} (h : Ev cls p ta ds (· = .scr ns)) (g : Ev cls p tb ds (· = .int i)) (e : atI ns i = some x) (hK : cls.K = K) : Ev cls p (tOp (rIx K) ta tb) ds (· = .int x) := fun pn N H0 ad σ H S Q q =>
  h pn N H0 ad σ H S _ fun v H1 d pd g1 a => g pn N H0 ad σ H1 (S.mono g1) _ fun w H2 d2 pd2 g2 a2 => by
    subst pd hK pd2
    cases a2
    have key : ∃ r, v = .ref r ∧ SqL cls.K H2 r (ns.map V.int) := by
      cases a.mono S.hsub g2 with
      | scr n r => exact ⟨_, rfl, .inl r⟩
      | scrK r => exact ⟨_, rfl, r H2⟩
    obtain ⟨r, rfl, hr⟩ := key
    have e2 : atI (ns.map V.int) i = some (.int x) := by
      unfold atI at e ⊢
      rw [List.length_map]
      cases q : ixN ns.length i with
      | none => rw [q] at e; cases e
      | some j =>
        rw [q] at e
        show (ns.map V.int)[j]? = _
        rw [List.getElem?_map, show ns[j]? = some x from e]
        rfl
    exact .inl ⟨r, _, i, _, rfl, rfl, hr, e2, q _ H2 _ rfl (g1.trans g2) (.int x)⟩
theorem ev_max {i j : Int} (h : Ev cls p ta ds (· = .int i)) (k : Ev cls p tb ds (· = .int j)) : Ev cls p (tCB rMax (tCons ta (tCons tb tNil))) ds (· = .int (if j > i then j else i)) := by
  refine (ev_cb (ea2 h k) (rc_max2 ?_)).mono ?_
  · rintro _ ⟨_, _, rfl, rfl, rfl⟩
    exact ⟨i, j, rfl⟩
  · rintro r ⟨i', j', ⟨_, _, rfl, rfl, e⟩, e2⟩
    cases (List.cons.inj e).1
    cases (List.cons.inj (List.cons.inj e).2).1
    exact e2
theorem ev_min {i j : Int} (h : Ev cls p ta ds (· = .int i)) (k : Ev cls p tb ds (· = .int j)) : Ev cls p (tCB rMin (tCons ta (tCons tb tNil))) ds (· = .int (if j < i then j else i)) := by
  refine (ev_cb (ea2 h k) (rc_min2 ?_)).mono ?_
  · rintro _ ⟨_, _, rfl, rfl, rfl⟩
    exact ⟨i, j, rfl⟩
  · rintro r ⟨i', j', ⟨_, _, rfl, rfl, e⟩, e2⟩
    cases (List.cons.inj e).1
    cases (List.cons.inj (List.cons.inj e).2).1
    exact e2
/-- int(x), x a whole number of such a kind -/
theorem ev_intP (h : Ev cls p ta ds P) (hi : IntP P) : Ev cls p (tCB rInt (tCons ta tNil)) ds P := by
  refine (ev_cb (ea1 h) (rc_int ?_)).mono ?_
  · rintro _ ⟨x, hx, rfl⟩
    obtain ⟨i, rfl⟩ := hi x hx
    exact ⟨i, rfl⟩
  · rintro r ⟨i', ⟨x, hx, e⟩, rfl⟩
    cases (List.cons.inj e).1
    exact hx
/-- e % n for a written n above 0: a rest -/
theorem ev_modP {n : Int} (h : Ev cls p ta ds P) (hi : IntP P) (k : Ev cls p tb ds (· = .int n)) (hn : 0 < n) : Ev cls p (tOp (rI (fun _ j => 0 < j) fun i j => .int (i % j)) ta tb) ds (fun d => ∃ x : Int, 0 ≤ x ∧ x < n ∧ d = .int x) :=
  (ev_op h k (rv_IC hi intP fun i j _ e => by cases e; exact hn)).mono fun d ⟨i, j, hi, hj, e⟩ => by
    cases hj
    exact ⟨i % n, Int.emod_nonneg _ (by omega), Int.emod_lt_of_pos _ hn, e⟩

theorem mulW64 {x y : Int} (hx : x.natAbs < 2 ^ 64) (hy : y.natAbs < 2 ^ 64) : CMulW x y := mulW (pow_le hx (by decide)) (pow_le hy (by decide))
theorem ev_addP (h : Ev cls p ta ds PX) (k : Ev cls p tb ds PY) (hx : IntP PX) (hy : IntP PY) : Ev cls p (tOp (rOr (rI0 fun i j => .int (i + j)) rCat) ta tb) ds (SInt (fun i j => i + j) PX PY) := ev_op h k (rv_l (rv_I0 hx hy))
theorem ev_subP (h : Ev cls p ta ds PX) (k : Ev cls p tb ds PY) (hx : IntP PX) (hy : IntP PY) : Ev cls p (tOp (rI0 fun i j => .int (i - j)) ta tb) ds (SInt (fun i j => i - j) PX PY) := ev_op h k (rv_I0 hx hy)
theorem ev_mulP (h : Ev cls p ta ds PX) (k : Ev cls p tb ds PY) (hx : IntP PX) (hy : IntP PY) (hc : ∀ i j, PX (.int i) → PY (.int j) → CMulW i j) : Ev cls p (tOp (rOr (rI CMulW fun i j => .int (i * j)) (rOr rRep (rRepT K))) ta tb) ds (SInt (fun i j => i * j) PX PY) :=
  ev_op h k (rv_l (rv_IC hx hy hc))
theorem ev_fdivP {n : Int} (h : Ev cls p ta ds P) (hi : IntP P) (k : Ev cls p tb ds (· = .int n)) (hn : 0 < n) (hs : n.natAbs < 2 ^ 30) : Ev cls p (tOp (rI CDivW fun i j => .int (i / j)) ta tb) ds (SInt (fun i j => i / j) P (· = .int n)) :=
  ev_op h k (rv_IC hi intP fun i j _ e => by cases e; exact wide_div hn hs (by decide) (by decide))
/-! ### the first def of a law: a new pot -/
def spPot (cls : Cl) : Sp := fun vs H Q _ => ∃ (N : Addr → Prop) (ns : List Int) (k : Int), Wf (fun _ => False) N H ∧ AtAll cls N H vs [.scr ns, .int k] ∧ 0 ≤ k ∧ k < 1000 ∧
  ∀ (a : Addr) (H' : Hp) (x y : Int), H a = none → Go (fun _ => False) H H' → H' a = some (.lst [.int x, .int y]) → 0 ≤ x → 0 ≤ y → y < 2147483648 → Q (.ref a) H'
theorem pot_ret {te1 te2 : TE} {Dn : Ends} (h1 : Ev cls (fun _ => False) te1 ds (fun d => ∃ x : Int, 0 ≤ x ∧ d = .int x)) (h2 : Ev cls (fun _ => False) te2 ds (fun d => ∃ x : Int, 0 ≤ x ∧ x < 2147483648 ∧ d = .int x))
    {pn : List (V × D)} {N : Addr → Prop} {H0 H : Hp} {ad : Nat → Addr} {σ : L2.St} (S : Sta cls (fun _ => False) pn N H0 ad H σ ds)
    (q : ∀ (a : Addr) (H' : Hp) (x y : Int), H0 a = none → Go (fun _ => False) H0 H' → H' a = some (.lst [.int x, .int y]) → 0 ≤ x → 0 ≤ y → y < 2147483648 → Dn.rt (.ref a) H') : tRet (tLst (tCons te1 (tCons te2 tNil))) Dn σ H := by
  refine h1 pn N H0 ad σ H S _ fun v H1 d ⟨x, hx, e⟩ g1 a1 => ?_
  refine h2 pn N H0 ad σ H1 (S.mono g1) _ fun w H2 d' ⟨y, hy, hz, e'⟩ g2 a2 => ?_
  subst e e'
  cases a1
  cases a2
  refine ⟨by show 2 ≤ sizeLine; decide, fun l hl => q l _ x y ?_ ((S.go.trans (g1.trans g2)).trans (Go.new hl)) upd_same hx hy hz⟩
  cases e : H0 l with
  | none => rfl
  | some o => rw [(S.go.trans (g1.trans g2)).ext l o (fun z => z) e] at hl; cases hl
/-- f(pot(..)): the pot is handed on -/
theorem ev_potCall {t : TA} {ns : List Int} {kk : Int} {P : D → Prop} {pre : (Addr → Prop) → List D → Prop} {F : List D → D → Prop} (h : EvA cls (fun _ => False) t ds (· = [.scr ns, .int kk])) (h0 : 0 ≤ kk) (h1 : kk < 1000)
    (hp : ∀ (a : Addr) (p : Addr → Prop), p a → pre p [.adr a]) (hF : ∀ a d, F [.adr a] d → P d) (hfl : ∀ d, P d → ∃ b, d = .bl b) : Ev cls (fun _ => False) (tCall (spG cls 1 pre F) [] E0 (tCons (tCall (spPot cls) [] E0 t) tNil)) ds P := by
  intro pn N H0 ad σ H S Q q
  refine h pn N H0 ad σ H S _ fun vs H1 xs e g1 a1 => ?_
  subst e
  have S1 := S.mono g1
  refine ⟨hid N ad ds, ns, kk, S1.hwf, by rw [List.append_nil]; exact a1, h0, h1, fun a H2 x y ha g2 e2 hx hy hz => ?_⟩
  refine ⟨fun b => b = a, fun b => b = a, [.adr a], ⟨fun _ z => z, fun b z => ?_, fun b z => ?_⟩, .cons (.adr a) .nil, rfl, hp a _ rfl, fun v H3 d fd g3 av => ?_⟩
  · rw [z, e2]; exact fun z => nomatch z
  · rw [z]; exact ⟨x, y, e2, hx, hy, hz⟩
  · obtain ⟨b, rfl⟩ := hfl d (hF a d fd)
    cases av
    refine q _ H3 _ (hF a _ fd) (g1.trans ⟨fun c o _ e => ?_, fun c z => z.elim⟩) (.bl b)
    have ne : c ≠ a := fun z => by rw [z, ha] at e; cases e
    exact g3.ext c o ne (g2.ext c o (fun z => z) e)
end
end Lk

namespace Lk
open PySem PySem.Spec PyProof.Rows L2

/-! ### a class of these texts is called -/
theorem guards_make {A : Around} {C : Addr} {us : List Value} {kw : List (Str × Value)} (h : A.guards = some []) : (A.under (.builtin "type.__call__" ⟨.ref C :: us, kw⟩)).guards = some [] := by
  have e : (Code.builtin "type.__call__" ⟨.ref C :: us, kw⟩).isGuard = false := by
    show guardIds.contains "type.__call__" = false
    decide +kernel
  unfold Around.under
  dsimp only
  unfold Code.guards
  rw [h, e]
  rfl
section
variable {X : Cx} {k : Nat} {f C : Addr} {fd : FuncData} {ps : List Str} {sp : Sp} {x : Str} {p pos : Pos} {e : Expr} {es : List Expr} {t tk : TA}
theorem run_makeG {pins : List (Addr × Obj)} {σ : L2.St} {H : Hp} {s : Shared} {Q : VK} {us ws : List Value} {zs : List V} {kw : List (Str × Value)} (M : Mk X.K C f) (F : GOk X.prog X.w X.K X.mg X.base k f fd ps sp) (hg : X.A.guards = some [])
    (hr : Room (k + 1) X.A) (hb : ∀ (s' : Shared) (u : Value), BindsTo s' fd ⟨u :: us, kw⟩ (ps.zip (u :: ws))) (I : Inv X pins σ H s) (r : Vals zs ws)
    (h : ∀ x dx, H x = none → H dx = none → dx ≠ x → sp (.ref x :: zs) (upd (upd H dx (.own x)) x (.ins C dx [])) (fun v H2 => v = .non ∧ Q (.ref x) H2) E0) :
    wpAny (model X.prog X.w) X.A (call (.ref C) us kw) (EP X pins σ Q) X.xe s := by
  let n := s.heap.objs.size
  have f0 : H n = none := I.hok.fresh (Nat.le_refl _)
  have f1 : H (n + 1) = none := I.hok.fresh (Nat.le_succ _)
  have q := h (n + 1) n f1 f0 (Nat.ne_of_lt (Nat.lt_succ_self n))
  have J := Inv.made (C := C) I
  have rr : Vals (V.ref (n + 1) :: zs) (Value.ref (n + 1) :: ws) := .cons rfl r
  refine wpAny_call (make_map (f := f) I.kIn M.makes M.init (beq_iff_eq.mp M.fn) ?_)
  refine codeAny_mono (F.go _ X.stack _ _ ⟨.ref (n + 1) :: us, kw⟩ (.ref (n + 1) :: ws) _ _ E0 (guards_make hg) (hr.make C us kw) (J.env0.make C us kw) (hb _ _) rr q) ?_
  intro fl s' hs
  match fl, hs with
  | .error _, hs => exact hs.elim
  | .ok .next, hs => exact hs.elim
  | .ok .brk, hs => exact hs.elim
  | .ok .cont, hs => exact hs.elim
  | .ok (.ret u), hs =>
    obtain ⟨v, H3, I3, rv, ev, q3⟩ := J.after hs
    subst ev
    exact ⟨rv, .ref (n + 1), H3, I3, rfl, q3⟩
/-- what may be made -/
def Mkr (P : Program) (w : World) (K : PySem.W.Frag) (mg : Str → Option Value) (base : Heap) (x : Str) (C : Addr) (k : Nat) (ps : List Str) (kws : List (List Str × List Nat)) (sp : Sp) : Prop :=
  ∃ (f : Addr) (fd : FuncData), GOk P w K mg base k f fd (("self" : Str) :: ps) sp ∧ mg x = some (.ref C) ∧ Mk K C f ∧ (∀ (s : Shared) (u : Value) (us : List Value), us.length = ps.length → BindsTo s fd ⟨u :: us, []⟩ ((("self" : Str) :: ps).zip (u :: us))) ∧
    ∀ q ∈ kws, ∀ (s : Shared) (u : Value) (ws : List Value), ws.length = q.1.length → BindsTo s fd ⟨[u], q.1.zip ws⟩ ((("self" : Str) :: ps).zip (u :: perm q.2 ws))
def tMk (C : Addr) (sp : Sp) (n : Nat) (t : TA) : TE := fun σ H Q => t σ H fun vs H1 => vs.length = n ∧ ∀ x dx, H1 x = none → H1 dx = none → dx ≠ x → sp (.ref x :: vs) (upd (upd H1 dx (.own x)) x (.ins C dx [])) (fun v H2 => v = .non ∧ Q (.ref x) H2) E0
/-- C(e, ..) -/
theorem pe_makeC {kws : List (List Str × List Nat)} (W : Mkr X.prog X.w X.K X.mg X.base x C k ps kws sp) (hg : X.A.guards = some []) (hr : Room (k + 1) X.A) (gl : Gl X x) (ha : PA X (e :: es) t) (hdb : (x == ("__debug__" : Str)) = false := by decide)
    (he : starEach (e :: es) X.env = (false, eval e X.env) :: starEach es X.env := by rfl) (hpl : (backTo pos (starEach es X.env)).any (·.1) = false := by rfl) : PE X (.Call (.Name x p) (e :: es) [] pos) (tMk C sp ps.length t) := by
  obtain ⟨f, fd, G, hm, M, hb, _⟩ := W
  refine ⟨fun pins s σ H Q I h => wpAny_Call_Name_kw (ld_glob I gl hm (PySem.W.callWith_K (h₀ := X.base) I.ok.mod.kin M.kp (thn (ha.run pos pins s σ H _ I h) fun us s1 ⟨vs, H1, I1, r, l, q⟩ => ⟨I1.kIn, ?_⟩) he hpl) hdb)⟩
  exact run_makeG M G hg hr (fun s' u => hb s' u us (r.length.symm.trans l)) I1 r q
def tMkK (C : Addr) (sp : Sp) (is : List Nat) (n : Nat) (t : TA) : TE := fun σ H Q => t σ H fun vs H1 => vs.length = n ∧ ∀ x dx, H1 x = none → H1 dx = none → dx ≠ x → sp (.ref x :: perm is vs) (upd (upd H1 dx (.own x)) x (.ins C dx [])) (fun v H2 => v = .non ∧ Q (.ref x) H2) E0
/-- C(k = v, ..) -/
theorem pe_makeKC {kws : List (List Str × List Nat)} {ks : List Str} {is : List Nat} {kw : List Keyword} (W : Mkr X.prog X.w X.K X.mg X.base x C k ps kws sp) (hin : (ks, is) ∈ kws) (hg : X.A.guards = some []) (hr : Room (k + 1) X.A) (gl : Gl X x) (hkw : PK X kw tk)
    (hall : (backToKw pos (keywordEach kw X.env)).all (·.1.isSome) = true := by rfl) (hks : (backToKw pos (keywordEach kw X.env)).filterMap (·.1) = ks := by rfl) (hdb : (x == ("__debug__" : Str)) = false := by decide)
    (hpl : ((backTo pos (starEach [] X.env)).any (·.1) || (backToKw pos (keywordEach kw X.env)).any (·.1.isNone)) = false := by rfl) : PE X (.Call (.Name x p) [] kw pos) (tMkK C sp is ks.length tk) := by
  obtain ⟨f, fd, G, hm, M, _, hb⟩ := W
  refine ⟨fun pins s σ H Q I h => wpAny_Call_Name_kw (ld_glob I gl hm (PySem.W.callWith_KW0 (h₀ := X.base) I.ok.mod.kin M.kp hall (thn (hkw.run pos pins s σ H _ I h) fun ws s2 ⟨zs, H2, I2, rz, l, q⟩ => ⟨I2.kIn, ?_⟩) hpl) hdb)⟩
  rw [hks]
  exact run_makeG (us := []) M G hg hr (fun s' u => hb _ hin s' u ws (rz.length.symm.trans l)) I2 (Vals.perm rz is) q
end

/-! ### what __init__ promises: the attributes, one behind the other -/
structure GoX (p : Addr → Prop) (a : Addr) (H H' : Hp) : Prop where
  ext : ∀ b o, ¬ p b → b ≠ a → H b = some o → H' b = some o
  pot : ∀ b, p b → IsPot H b → IsPot H' b
def spInit (cls : Cl) (c n : Nat) (ns : List Str) (pre : List D → Prop) (G : List D → List D → Prop) : Sp := fun vs H Q _ => ∃ (p N : Addr → Prop) (a dx : Addr) (vs' : List V) (xs : List D),
  vs = .ref a :: vs' ∧ N a ∧ ¬ p a ∧ H a = some (.ins (cls.C c) dx []) ∧ Wf p N H ∧ AtAll cls N H vs' xs ∧ xs.length = n ∧ pre xs ∧
    ∀ (H' : Hp) (ts : List V) (ys : List D), GoX p a H H' → H' a = some (.ins (cls.C c) dx (ns.zip ts)) → ns.length = ts.length → AtAll cls N H' ts ys → G xs ys → Q .non H'
section
variable {cls : Cl} {p : Addr → Prop} {ds ds' : Sts} {ta tb tc te : TE} {P PX PY : D → Prop} {t : TA} {PA : List D → Prop} {K : PySem.W.Frag} {c n : Nat} {ns : List Str} {pre : List D → Prop} {G : List D → List D → Prop}
theorem make_at {N : Addr → Prop} {H : Hp} {vs : List V} {xs : List D} {Q : VK} (W : Wf p N H) (a : AtAll cls N H vs xs) (hl : xs.length = n) (hp : pre xs)
    (q : ∀ v H' ys, G xs ys → Go p H H' → At cls N H' v (.obj c ns ys) → Q v H') {x dx : Addr} (hx : H x = none) (hd : H dx = none) (hne : dx ≠ x) :
    spInit cls c n ns pre G (.ref x :: vs) (upd (upd H dx (.own x)) x (.ins (cls.C c) dx [])) (fun v H2 => v = .non ∧ Q (.ref x) H2) E0 := by
  have keepH : ∀ b o, H b = some o → (upd (upd H dx (.own x)) x (.ins (cls.C c) dx [])) b = some o := fun b o e => by
    rw [upd_ne (ne_of_none e hx), upd_ne (ne_of_none e hd)]; exact e
  have nN : ¬ N x := fun z => W.dom x z hx
  have npx : ¬ p x := fun z => nN (W.sub x z)
  refine ⟨p, fun b => N b ∨ b = x, x, dx, vs, xs, rfl, .inr rfl, npx, upd_same, ⟨fun b hb => .inl (W.sub b hb), fun b hb => ?_, fun b hb => ?_⟩, a.keep (fun b hb hn z => ?_) (fun b o _ e => keepH b o e), hl, hp, fun H' ts ys g e l at_ gg => ⟨rfl, ?_⟩⟩
  · rcases hb with hb | rfl
    · obtain ⟨o, e⟩ := some_of (W.dom b hb)
      rw [keepH b o e]; exact fun z => nomatch z
    · rw [upd_same]; exact fun z => nomatch z
  · obtain ⟨i, j, e, r⟩ := W.pot b hb
    exact ⟨i, j, keepH _ _ e, r⟩
  · rcases z with z | z
    · exact hn z
    · exact hb (by rw [z]; exact hx)
  · refine q (.ref x) H' ys gg ⟨fun b o n e => g.ext b o n (fun z => by rw [z, hx] at e; cases e) (keepH b o e), fun b hb hpot => g.pot b hb (by obtain ⟨i, j, e, r⟩ := hpot; exact ⟨i, j, keepH _ _ e, r⟩)⟩ (.obj nN e l (at_.less fun _ z => .inl z))
/-- a new object -/
theorem ev_make (h : EvA cls p t ds PA) (hp : ∀ xs, PA xs → xs.length = n ∧ pre xs) : Ev cls p (tMk (cls.C c) (spInit cls c n ns pre G) n t) ds (fun d => ∃ xs ys, PA xs ∧ G xs ys ∧ d = .obj c ns ys) := fun pn N H0 ad σ H S Q q =>
  h pn N H0 ad σ H S _ fun vs H1 xs ps g1 a1 => ⟨a1.length.trans (hp xs ps).1, fun x dx hx hd hne =>
    make_at (S.mono g1).hwf a1 (hp xs ps).1 (hp xs ps).2 (fun v H' ys gg g2 av => q v H' _ ⟨xs, ys, ps, gg, rfl⟩ (g1.trans g2) av) hx hd hne⟩
theorem ev_makeK {m : Nat} {is : List Nat} (h : EvA cls p t ds PA) (hp : ∀ xs, PA xs → xs.length = m ∧ (perm is xs).length = n ∧ pre (perm is xs)) : Ev cls p (tMkK (cls.C c) (spInit cls c n ns pre G) is m t) ds (fun d => ∃ xs ys, PA xs ∧ G (perm is xs) ys ∧ d = .obj c ns ys) := fun pn N H0 ad σ H S Q q =>
  h pn N H0 ad σ H S _ fun vs H1 xs ps g1 a1 => ⟨a1.length.trans (hp xs ps).1, fun x dx hx hd hne =>
    make_at (S.mono g1).hwf (a1.perm is) (hp xs ps).2.1 (hp xs ps).2.2 (fun v H' ys gg g2 av => q v H' _ ⟨xs, ys, ps, gg, rfl⟩ (g1.trans g2) av) hx hd hne⟩
/-- an attribute of an object -/
def Fdc (K : PySem.W.Frag) (C : Addr) (f : Str) : Prop := Cls K C ∧ NoAttr K C f
theorem ev_fld {f : Str} {xs : List D} {d : D} (h : Ev cls p te ds (· = .obj c ns xs)) (hc : Fdc K (cls.C c) f) (e : (ns.zip xs).lookup f = some d) : Ev cls p (tFld K te f) ds (· = d) := fun pn N H0 ad σ H S Q q =>
  h pn N H0 ad σ H S _ fun v H1 d' e' g a => by
    subst e'
    cases a with
    | @obj a dx _ _ vs _ n r l at_ =>
      have key : ∀ (ns : List Str) (vs : List V) (xs : List D), AtAll cls (hid N ad ds) H1 vs xs → (ns.zip xs).lookup f = some d → ∃ w, (ns.zip vs).lookup f = some w ∧ At cls (hid N ad ds) H1 w d := by
        intro ns
        induction ns with
        | nil => intro vs xs _ e; cases e
        | cons m ns ih =>
          intro vs xs a e
          cases a with
          | nil => cases e
          | cons av at_ =>
            rw [List.zip_cons_cons] at e ⊢
            rw [List.lookup_cons] at e ⊢
            cases q : (f == m) with
            | true => rw [q] at e; cases (Option.some.inj e); exact ⟨_, rfl, av⟩
            | false => rw [q] at e; exact ih _ _ at_ e
      obtain ⟨w, h1, h2⟩ := key ns vs xs at_ e
      exact ⟨a, _, dx, _, w, rfl, r, hc.1, hc.2, h1, q w H1 d rfl g h2⟩
end

/-! ### defs that need nothing of what is being shown: properties -/
theorem fok_ev {P : Program} {w : World} {K : PySem.W.Frag} {mg : Str → Option Value} {base : Heap} {k : Nat} {f : Addr} {fd : FuncData} {ps Nm : List Str} {cls : Cl} {n m : Nat} {pre : (Addr → Prop) → List D → Prop} {FF : List D → D → Prop} {x qual : Str} {st : Stmt}
    (F : Fun K x qual st f fd) (S : FnScope Nm ps (defScope st)) (hn : ps.length = n) (hm : Nm.length - n = m)
    (hb : ∀ (cdv : Value) (A : Around) (out : List Env) (s : Shared) (H : Hp) (E : XK), Room k (A.deeper (envOfC qual (defScope st) s.heap.objs.size f cdv)) →
      ∃ t, PSs (cxOf CX0 P w K mg base Nm qual (defScope st) f cdv A out s H E).nox (defBody st) t ∧ ∀ p xs, xs.length = n → pre p xs → Sv cls p t (entry m xs) (fun _ => FF xs .non) (FF xs) noSt noSt) :
    FnOk P w K mg base CX0 (k + 1) f fd ps (spG cls n pre FF) := by
  refine F.ok S (fun vs H Q E ⟨p, N, xs, _, a, l, _⟩ => by rw [a.length, l, hn]) fun cdv A out s H vs Q E hr hs => ?_
  obtain ⟨t, ht, hv⟩ := hb cdv A out s H E hr
  obtain ⟨p, N, xs, W, a, l, hp, q⟩ := hs
  refine ⟨t, ht, ?_⟩
  have S0 := sta_entry (Nm := Nm) W a
  rw [a.length, l, hm] at S0
  exact hv p xs l hp [] N H _ _ H S0 _ (fun ad' σ' H' ds' z S' => q .non H' .non z S'.go .non) (fun v H' d z g b => q v H' d z g b) (fun _ _ _ _ z => z.elim) (fun _ _ _ _ z => z.elim)
def Prp (P : Program) (w : World) (K : PySem.W.Frag) (mg : Str → Option Value) (base : Heap) (C : Addr) (f : Str) (k : Nat) (sp : Sp) : Prop :=
  ∃ (pa g : Addr) (fd : FuncData) (ps : List Str), Cls K C ∧ PropOf K C f pa g ∧ FnOk P w K mg base CX0 k g fd ps sp ∧ Binds K fd ps []
theorem pe_propC {X : Cx} {C : Addr} {f : Str} {k : Nat} {sp : Sp} {e : Expr} {pos : Pos} {ta : TE} (W : Prp X.prog X.w X.K X.mg X.base C f k sp) (hr : Room (k + 1) X.A) (he : PE X e ta) (hab : attributeBase e f X.env (eval e X.env) = eval e X.env := by rfl) :
    PE X (.Attribute e f pos) (tProp C sp [] E0 ta) := by
  obtain ⟨pa, g, fd, ps, c, hp, F, hb⟩ := W
  exact pe_prop he c hp F hr hb .nil pass0 hab
section
variable {cls : Cl} {p : Addr → Prop} {ds ds' : Sts} {ta tb tc te : TE} {P PX PY : D → Prop} {t : TA} {PA : List D → Prop} {K : PySem.W.Frag} {c n : Nat} {ns : List Str} {pre : (Addr → Prop) → List D → Prop} {F : List D → D → Prop}
theorem ev_prop {xs : List D} (h : Ev cls p te ds (· = .obj c ns xs)) (hp : pre p [.obj c ns xs]) (hF : ∀ d, F [.obj c ns xs] d → P d) : Ev cls p (tProp (cls.C c) (spG cls 1 pre F) [] E0 te) ds P := fun pn N H0 ad σ H S Q q =>
  h pn N H0 ad σ H S _ fun v H1 d' e' g a => by
    subst e'
    cases a with
    | @obj a dx _ _ vs _ n r l at_ =>
      exact ⟨a, dx, _, rfl, r, p, hid N ad ds, [_], (S.mono g).hwf, .cons (.obj n r l at_) .nil, rfl, hp, fun v H' d f g2 av => q v H' d (hF d f) (g.trans g2) av⟩
/-- a class as a value -/
theorem ev_cls {a : Addr} : Ev cls p (tC (.ref a)) ds (· = .adr a) := fun _ _ _ _ _ H _ Q q => q _ H _ rfl (Go.refl H) (.adr a)
/-- what is known of a class, for isinstance -/
structure ClF (K : PySem.W.Frag) (C : Addr) : Prop where
  cl : Cls K C
  ha : PySem.W.findIn K (.ref C) "__class__" = some (some (.builtin "object.__class__"))
  hn : PySem.W.specialIn K (.builtin "object.__class__") "__get__" = some (some (.builtin "getset_descriptor.__get__"))
  htk : PySem.W.takesIn K (.builtin "object.__class__") = some true
  hm : PySem.W.mroIn K C (.type "object") = some true
  me : PySem.W.kitOne K (.ref C) (.ref C) = some true
  no : ∀ n ∈ ["NoneType", "bool", "int", "str", "list", "tuple", "dict"], PySem.W.kitOne K (.type n) (.ref C) = some false
theorem ty_in : ∀ {d : D}, builtD d = true → tyName d ∈ (["NoneType", "bool", "int", "str", "list", "tuple", "dict"] : List String)
  | .non, _ => by show "NoneType" ∈ (["NoneType", "bool", "int", "str", "list", "tuple", "dict"] : List String); decide
  | .bl _, _ => by show "bool" ∈ (["NoneType", "bool", "int", "str", "list", "tuple", "dict"] : List String); decide
  | .int _, _ => by show "int" ∈ (["NoneType", "bool", "int", "str", "list", "tuple", "dict"] : List String); decide
  | .str _, _ => by show "str" ∈ (["NoneType", "bool", "int", "str", "list", "tuple", "dict"] : List String); decide
  | .lst _, _ => by show "list" ∈ (["NoneType", "bool", "int", "str", "list", "tuple", "dict"] : List String); decide
  | .tup _, _ => by show "tuple" ∈ (["NoneType", "bool", "int", "str", "list", "tuple", "dict"] : List String); decide
  | .dk _ _, _ => by show "dict" ∈ (["NoneType", "bool", "int", "str", "list", "tuple", "dict"] : List String); decide
def isObj (c : Nat) : D → Bool
  | .obj c' _ _ => c == c'
  | _ => false
theorem ev_isObj {d : D} (h : Ev cls p te ds (· = d)) (hc : ClF K (cls.C c)) (hd : builtD d = true ∨ ∃ ns xs, d = .obj c ns xs) : Ev cls p (tCB (cOr (rIsi K) (rIsiT K)) (tCons te (tCons (tC (.ref (cls.C c))) tNil))) ds (· = .bl (isObj c d)) := by
  refine ev_cb (ea2 h ev_cls) (rc_l ?_)
  rintro N H vs xs W a ⟨x, y, rfl, rfl, rfl⟩ Q q
  cases a with | cons a1 a2 => cases a2 with | cons a2 a3 =>
    cases a3
    cases a2
    rcases hd with hb | ⟨ns, xs, rfl⟩
    · refine ⟨_, _, _, _, false, rfl, .own _, tyX_of a1 hb, hc.no _ (ty_in hb), q _ H _ ?_ (Go.refl H) (.bl _)⟩
      cases x <;> first | exact absurd hb Bool.false_ne_true | rfl
    · cases a1 with
      | obj n r l at_ =>
        refine ⟨_, _, _, _, true, rfl, .own _, .base (.ins r hc.cl hc.ha hc.hn hc.htk hc.hm), hc.me, q _ H _ ?_ (Go.refl H) (.bl _)⟩
        show D.bl true = D.bl (c == c)
        rw [beq_self_eq_true]
end

/-! ### an object's attributes are stored -/
theorem Sta.nomut {cls : Cl} {p N : Addr → Prop} {pn : List (V × D)} {H : Hp} {ad : Nat → Addr} {σ : L2.St} {ds : Sts} (S : Sta cls p pn N H ad H σ ds) : ∀ (i : Nat) (c : Con), ds[i]? ≠ some (some (Slot.mut c)) := fun i c e => by
  obtain ⟨_, _, _, _, h, k⟩ := S.mt i c e
  exact k.ne h
theorem Sta.store {cls : Cl} {p N : Addr → Prop} {H0 H : Hp} {ad : Nat → Addr} {σ : L2.St} {ds : Sts} {a : Addr} {o : HO} (S : Sta cls p [] N H0 ad H σ ds) (no : ∀ (i : Nat) (ys : List D), ds[i]? ≠ some (some (Slot.own ys))) (nm : ∀ (i : Nat) (c : Con), ds[i]? ≠ some (some (Slot.mut c))) (ha : N a) (hp : ¬ p a) :
    Sta cls p [] N (upd H a o) ad (upd H a o) σ ds := by
  have S0 : Sta cls p [] N (fun b => if b = a then none else H b) ad H σ ds := ⟨S.wf, ⟨fun b u _ e => by
      by_cases z : b = a
      · rw [if_pos z] at e; cases e
      · rw [if_neg z] at e; exact e, fun b hb ⟨i, j, e, r⟩ => S.wf.pot b hb⟩, S.len, S.dat, fun i ys e => absurd e (no i ys), S.pin, fun i j xs ys e => absurd e (no i xs), fun i c e => absurd e (nm i c), fun i j c c' e => absurd e (nm i c)⟩
  have S1 := S0.turn (o := o) ha hp (if_pos rfl) fun i c e => absurd e (nm i c)
  exact ⟨S1.wf, Go.refl _, S1.len, S1.dat, fun i ys e => absurd e (no i ys), S1.pin, fun i j xs ys e => absurd e (no i xs), fun i c e => absurd e (nm i c), fun i j c c' e => absurd e (nm i c)⟩
structure Ini (cls : Cl) (p N : Addr → Prop) (a dx C : Addr) (ns : List Str) (xs : List D) (H : Hp) (σ : L2.St) (ds : Sts) : Prop where
  sta : ∃ ad, Sta cls p [] N H ad H σ ds
  no : ∀ (i : Nat) (ys : List D), ds[i]? ≠ some (some (Slot.own ys))
  obj : ∃ vs, H a = some (.ins C dx (ns.zip vs)) ∧ ns.length = vs.length ∧ AtAll cls N H vs xs
/-- a block of __init__ -/
def SvI (cls : Cl) (c : Nat) (p : Addr → Prop) (a : Addr) (t : TS) (ds : Sts) (ns : List Str) (xs : List D) (post : Sts → List Str → List D → Prop) : Prop := ∀ (N : Addr → Prop) (dx : Addr) (H : Hp) (σ : L2.St), N a → ¬ p a → ds[0]? = some (some (Slot.dat (.adr a))) →
  Ini cls p N a dx (cls.C c) ns xs H σ ds → ∀ Dn : Ends, (∀ σ' H' ds' ns' xs', GoX p a H H' → ds'[0]? = some (some (Slot.dat (.adr a))) → Ini cls p N a dx (cls.C c) ns' xs' H' σ' ds' → post ds' ns' xs' → Dn.nx σ' H') → t Dn σ H
section
variable {cls : Cl} {p : Addr → Prop} {ds : Sts} {te : TE} {P : D → Prop} {K : PySem.W.Frag} {c : Nat} {a : Addr} {ns : List Str} {xs : List D} {t u : TS} {mid post : Sts → List Str → List D → Prop} {nx : Sts → Prop}
theorem GoX.trans {H H1 H2 : Hp} (g : GoX p a H H1) (h : GoX p a H1 H2) : GoX p a H H2 := ⟨fun b o n m e => h.ext b o n m (g.ext b o n m e), fun b q r => h.pot b q (g.pot b q r)⟩
theorem GoX.of {H H1 : Hp} (g : Go p H H1) : GoX p a H H1 := ⟨fun b o n _ e => g.ext b o n e, g.pot⟩
theorem svi_seq (h : SvI cls c p a t ds ns xs mid) (k : ∀ ds' ns' xs', mid ds' ns' xs' → SvI cls c p a u ds' ns' xs' post) : SvI cls c p a (tSeq t u) ds ns xs post := fun N dx H σ ha hp h0 I Dn q =>
  h N dx H σ ha hp h0 I { Dn with nx := u Dn } fun σ1 H1 ds1 ns1 xs1 g z I1 m => k ds1 ns1 xs1 m N dx H1 σ1 ha hp z I1 Dn fun σ' H' ds' ns' xs' g' z' I' po => q σ' H' ds' ns' xs' (g.trans g') z' I' po
theorem svi_next (h : post ds ns xs) : SvI cls c p a tNext ds ns xs post := fun N dx H σ ha hp h0 I Dn q => q σ H ds ns xs (GoX.of (Go.refl H)) h0 I h
/-- statements that store nothing in the object -/
theorem svi_sv (h : Sv cls p t ds nx (fun _ => False) noSt noSt) (hn : ∀ ds', nx ds' → (∀ (i : Nat) (ys : List D), ds'[i]? ≠ some (some (Slot.own ys))) ∧ ds'[0]? = some (some (Slot.dat (.adr a))) ∧ ∀ (i : Nat) (c : Con), ds'[i]? ≠ some (some (Slot.mut c))) : SvI cls c p a t ds ns xs (fun ds' ns' xs' => nx ds' ∧ ns' = ns ∧ xs' = xs) := fun N dx H σ ha hp h0 I Dn q => by
  obtain ⟨⟨ad, S⟩, no, vs, e, l, at_⟩ := I
  refine h [] N H ad σ H S Dn (fun ad' σ' H' ds' z S' => ?_) (fun _ _ _ z => z.elim) (fun _ _ _ _ z => z.elim) (fun _ _ _ _ z => z.elim)
  obtain ⟨n1, n2, n3⟩ := hn ds' z
  exact q σ' H' ds' ns xs (GoX.of S'.go) n2 ⟨⟨ad', S'.wf, Go.refl _, S'.len, S'.dat, fun i ys e => absurd e (n1 i ys), S'.pin, fun i j xs ys e => absurd e (n1 i xs), fun i c e => absurd e (n3 i c), fun i j c c' e => absurd e (n3 i c)⟩, n1, vs, S'.go.ext a _ hp e, l, at_.mono S.wf.sub S'.go⟩ ⟨z, rfl, rfl⟩
theorem putF_zip {f : Str} {y : V} : ∀ {ns : List Str} {vs : List V}, f ∉ ns → ns.length = vs.length → putF f y (ns.zip vs) = (ns ++ [f]).zip (vs ++ [y])
  | [], [], _, _ => rfl
  | [], _ :: _, _, l => by cases l
  | _ :: _, [], _, l => by cases l
  | m :: ns, v :: vs, h, l => by
    show (if m = f then _ else (m, v) :: putF f y (ns.zip vs)) = (m, v) :: (ns ++ [f]).zip (vs ++ [y])
    rw [if_neg (fun z => h (by rw [z]; exact List.mem_cons_self ..)), putF_zip (fun z => h (List.mem_cons_of_mem _ z)) (Nat.succ.inj l)]
/-- self.f = e -/
theorem svi_fld {f : Str} (h : Ev cls p te ds P) (hc : Fdc K (cls.C c) f) (hf : f ∉ ns) (hl : ns.length < 1000) : SvI cls c p a (sFld K (tVar 0) te f) ds ns xs (fun ds' ns' xs' => ds' = ds ∧ ns' = ns ++ [f] ∧ ∃ d, P d ∧ xs' = xs ++ [d]) := fun N dx H σ ha hp h0 I Dn q => by
  obtain ⟨⟨ad, S⟩, no, vs, e, l, at_⟩ := I
  have hh : ∀ b, hid N ad ds b → N b := fun b z => z.elim id fun ⟨i, ys, e, _⟩ => absurd e (no i ys)
  refine h [] N H ad σ H S _ fun y H1 d pd g1 a1 => ?_
  have S1 := S.mono g1
  obtain ⟨v, h1, h2⟩ := S1.dat 0 _ h0
  cases h2
  have e1 : H1 a = some (.ins (cls.C c) dx (ns.zip vs)) := g1.ext a _ hp e
  refine ⟨.ref a, h1, a, _, dx, _, rfl, e1, hc.1, hc.2, ?_, ?_⟩
  · rw [List.length_zip]; omega
  have kp : ∀ b o, ¬ N b → H1 b = some o → (upd H1 a (.ins (cls.C c) dx (putF f y (ns.zip vs)))) b = some o := fun b o n eb => by
    rw [upd_ne (fun z => n (by rw [z]; exact ha))]; exact eb
  refine q σ _ ds (ns ++ [f]) (xs ++ [d]) ⟨fun b o n m eb => by rw [upd_ne m]; exact g1.ext b o n eb, fun b hb hpot => ?_⟩ h0 ⟨⟨ad, S1.store no S.nomut ha hp⟩, no, vs ++ [y], ?_, ?_, ?_⟩ ⟨rfl, rfl, d, pd, rfl⟩
  · obtain ⟨i, j, ei, r⟩ := g1.pot b hb hpot
    exact ⟨i, j, by rw [upd_ne (fun z => hp (by rw [← z]; exact hb))]; exact ei, r⟩
  · rw [upd_same, putF_zip hf l]
  · rw [List.length_append, List.length_append, l]; rfl
  · exact AtAll.append ((at_.mono S.wf.sub g1).keep (fun _ _ n => n) kp) (.cons ((a1.keep (fun b _ n z => n (.inl z)) (fun _ _ _ e => e)).keep (fun _ _ n => n) kp) .nil)
theorem gok_init {Pg : Program} {w : World} {mg : Str → Option Value} {base : Heap} {k : Nat} {f : Addr} {fd : FuncData} {ps Nm : List Str} {n m : Nat} {pre : List D → Prop} {G : List D → List D → Prop} {x qual : Str} {st : Stmt}
    (F : Fun K x qual st f fd) (S : FnScope Nm ps (defScope st)) (hn : ps.length = n + 1) (hm : Nm.length - (n + 1) = m)
    (hb : ∀ (cdv : Value) (A : Around) (out : List Env) (s : Shared) (H : Hp) (E : XK), A.guards = some [] → Room k (A.deeper (envOfC qual (defScope st) s.heap.objs.size f cdv)) →
      ∃ t, PSs (cxOf CX0 Pg w K mg base Nm qual (defScope st) f cdv A out s H E).nox (defBody st) t ∧ ∀ p a xs, xs.length = n → pre xs → SvI cls c p a t (entry m (.adr a :: xs)) [] [] (fun _ ns' ys => ns' = ns ∧ G xs ys)) :
    GOk Pg w K mg base (k + 1) f fd ps (spInit cls c n ns pre G) := by
  refine gok_of F S (fun vs H Q E ⟨p, N, a, dx, vs', xs, e, _, _, _, _, at_, l, _⟩ => by rw [e, List.length_cons, at_.length, l, hn]) fun cdv A out s H vs Q E hg hr hs => ?_
  obtain ⟨t, ht, hv⟩ := hb cdv A out s H E hg hr
  obtain ⟨p, N, a, dx, vs', xs, rfl, ha, hp, e, W, at_, l, hpre, q⟩ := hs
  refine ⟨t, ht, ?_⟩
  have S0 := sta_entry (Nm := Nm) W (AtAll.cons (.adr a) at_)
  have no : ∀ (i : Nat) (ys : List D), (entry m (.adr a :: xs))[i]? ≠ some (some (Slot.own ys)) := fun i ys e => by
    have : ∀ (l : Sts), (∀ o ∈ l, ∀ ys, o ≠ some (Slot.own ys)) → l[i]? ≠ some (some (Slot.own ys)) := fun l h e => h _ (List.mem_of_getElem? e) ys rfl
    refine this _ ?_ e
    intro o ho ys z
    subst z
    unfold entry at ho
    rcases List.mem_append.mp ho with ho | ho
    · obtain ⟨d, _, e⟩ := List.mem_map.mp ho
      cases e
    · have := List.eq_of_mem_replicate ho
      cases this
  rw [List.length_cons, at_.length, l, hm] at S0
  exact hv p a xs l hpre N dx H _ ha hp rfl ⟨⟨_, S0⟩, no, [], e, rfl, .nil⟩ _ fun σ' H' ds' ns' ys g z I po => by
    obtain ⟨rfl, gg⟩ := po
    obtain ⟨_, _, ts, e', l', at'⟩ := I
    exact q H' ts ys g e' l' at' gg
end
def notOwn : Option Slot → Bool
  | some (Slot.own _) => false
  | _ => true
theorem noOwn_of {l : Sts} (h : l.all notOwn = true) : ∀ (i : Nat) (ys : List D), l[i]? ≠ some (some (Slot.own ys)) := fun i ys e => by
  have := List.all_eq_true.mp h _ (List.mem_of_getElem? e)
  cases this
def notMut : Option Slot → Bool
  | some (Slot.mut _) => false
  | _ => true
theorem noMut_of {l : Sts} (h : l.all notMut = true) : ∀ (i : Nat) (c : Con), l[i]? ≠ some (some (Slot.mut c)) := fun i c e => by
  have := List.all_eq_true.mp h _ (List.mem_of_getElem? e)
  cases this
end Lk

namespace Lk
open PySem PySem.Spec PyProof.Rows L2

/-! ### ==, repr of objects by their own defs; parts of texts -/
section
variable {X : Cx} {k : Nat} {f C : Addr} {fd : FuncData} {ps : List Str} {sp : Sp}
theorem looks_of {pins : List (Addr × Obj)} {σ : L2.St} {H : Hp} {s : Shared} {y : V} {u t : Value} (I : Inv X pins σ H s) (r : RelV y u) (ty : TyX X.K H y t) : PySem.W.Looks (model X.prog X.w) s.heap (typeOf u) t := by
  obtain ⟨P, Z, hp, _⟩ := kit_of I r ty
  exact Z.ty _ _ I.kIn hp
/-- x == y, x of the class C with an own == -/
def rEqO (K : PySem.W.Frag) (C : Addr) (sp : Sp) : R2 := fun x y H Q => ∃ a dx fs t, x = .ref a ∧ H a = some (.ins C dx fs) ∧ TyX K H y t ∧ PySem.W.notFirst K C t = true ∧ sp [.ref a, y] H (fun v H' => (∃ b, v = .bl b) ∧ Q v H') E0
theorem op_eqO (F : GOk X.prog X.w X.K X.mg X.base k f fd ps sp) (hg : X.A.guards = some []) (hr : Room k X.A) (hs : PySem.W.findIn X.K (.ref C) "__eq__" = some (some (.ref f))) (hf : PySem.W.isFn X.K (.ref f) = true) (hb : Binds X.K fd ps []) : OpR X (compareOp .Eq) (rEqO X.K C sp) := by
  intro pins s σ H x y v u Q I rx ry h
  obtain ⟨a, dx, fs, t, rfl, ha, ty, nf, q⟩ := h
  cases rx
  obtain ⟨mA, J, _⟩ := ins_get I.hok ha
  obtain ⟨od, J, _⟩ := J.look
  obtain ⟨m, hF⟩ := I.fr
  show wpAny (model X.prog X.w) X.A (richCompare .Eq (.ref a) u) (EP X pins σ Q) X.xe s
  refine PySem.W.cmp_K (op := .Eq) (tb := t) (by have := hr.units; omega) hF I.ok.mod.kin J (looks_of I ry ty) nf hs hf ?_
  have hl := F.len _ _ _ _ q
  have hb1 := hb s [.ref a, u] I.kIn (by rw [List.append_nil]; exact hl)
  rw [List.append_nil] at hb1
  refine wpAny_call (codeAny_mono (F.go X.A X.stack s H ⟨[.ref a, u], []⟩ [.ref a, u] [.ref a, y] _ E0 hg hr I.env0 hb1 (.cons rfl (.cons ry .nil)) q) ?_)
  intro r s' hq
  match r, hq with
  | .error _, hq => exact hq.elim
  | .ok .next, hq => exact hq.elim
  | .ok .brk, hq => exact hq.elim
  | .ok .cont, hq => exact hq.elim
  | .ok (.ret w), hq =>
    obtain ⟨z, H', I', rz, ⟨b, ez⟩, q'⟩ := I.after hq
    subst ez
    cases rz
    exact ⟨.bl b, H', I', rfl, q'⟩
/-- repr(x), x of the class C with an own repr -/
def rShO (C : Addr) (sp : Sp) : List V → Hp → VK → Prop := fun xs H Q => ∃ a dx fs, xs = [.ref a] ∧ H a = some (.ins C dx fs) ∧ sp [.ref a] H (fun v H' => (∃ y, v = .str y) ∧ Q v H') E0
theorem call_shO (F : GOk X.prog X.w X.K X.mg X.base k f fd ps sp) (hg : X.A.guards = some []) (hr : Room (k + 1) X.A) (hs : PySem.W.findIn X.K (.ref C) "__repr__" = some (some (.ref f))) (hf : PySem.W.isFn X.K (.ref f) = true) (hb : Binds X.K fd ps []) : CallR X (.builtin "repr") (rShO C sp) := by
  intro pins s σ H xs us Q I r h
  obtain ⟨a, dx, fs, rfl, ha, q⟩ := h
  obtain ⟨u, rfl, ru⟩ := L2.vals1 r
  cases ru
  obtain ⟨mA, J, _⟩ := ins_get I.hok ha
  obtain ⟨od, J, _⟩ := J.look
  obtain ⟨m, hF⟩ := I.fr
  refine PySem.W.repr_K (by have := hr.units; show X.A.units + 1 < cLine; omega) hF I.ok.mod.kin J hs hf ?_
  have hl := F.len _ _ _ _ q
  have hb1 := hb s [.ref a] I.kIn (by rw [List.append_nil]; exact hl)
  rw [List.append_nil] at hb1
  refine wpAny_call (codeAny_mono (F.go X.A.in1 X.stack s H ⟨[.ref a], []⟩ [.ref a] [.ref a] _ E0 hg hr.in1 I.env0.in1 hb1 (.cons rfl .nil) q) ?_)
  intro r s' hq
  match r, hq with
  | .error _, hq => exact hq.elim
  | .ok .next, hq => exact hq.elim
  | .ok .brk, hq => exact hq.elim
  | .ok .cont, hq => exact hq.elim
  | .ok (.ret w), hq =>
    obtain ⟨z, H', I', rz, ⟨b, ez⟩, q'⟩ := I.after hq
    subst ez
    obtain ⟨t, rfl⟩ := rz
    exact ⟨.str b, H', I', ⟨t, rfl⟩, q'⟩
/-- {x!r}, x a list or tuple of data -/
def tFmtD (K : PySem.W.Frag) (te : TE) : TE := fun σ H Q => te σ H fun v H1 => ∃ (a : Addr) (d : PyData), v = .ref a ∧ Dp K H1 v d ∧ d.showable = true ∧ d.hasDict = false ∧ d.depth ≤ 20 ∧ d.shown.length ≤ sizeLine ∧ Q (.str d.shown) H1
theorem pe_fmtD {e : Expr} {te : TE} {pos : Pos} (hg : X.A.guards = some []) (hu : X.A.units + 64 < cLine) (he : PE X e te) : PE X (.FormattedValue e 114 none pos) (tFmtD X.K te) := by
  refine ⟨fun pins s σ H Q I h => ?_⟩
  refine wpAny_FormattedValue_repr (thn (he.run pins s σ H _ I h) fun v s1 hv => ?_)
  obtain ⟨x, H1, I1, r1, a, d, rfl, dp, h1, h2, h3, h4, q⟩ := hv
  cases r1
  obtain ⟨as, rd⟩ := Dp.reads I1 d (.ref a) (.ref a) dp rfl
  refine pyReprObj_of_reads rd h1 (fun z => by rw [h2] at z; cases z) hg (by omega) (fun _ _ e => e) (fun h' u tk k => ?_) h4
  exact wpAny_formatField_str ⟨.str d.shown, H1, I1.kept k, ⟨_, rfl⟩, q⟩ ⟨.str d.shown, H1, (I1.kept k).tok _, ⟨_, rfl⟩, q⟩ h4

def Eqr (P : Program) (w : World) (K : PySem.W.Frag) (mg : Str → Option Value) (base : Heap) (C : Addr) (k : Nat) (sp : Sp) : Prop :=
  ∃ (f : Addr) (fd : FuncData) (ps : List Str), GOk P w K mg base k f fd ps sp ∧ PySem.W.findIn K (.ref C) "__eq__" = some (some (.ref f)) ∧ PySem.W.isFn K (.ref f) = true ∧ Binds K fd ps []
def Rpr (P : Program) (w : World) (K : PySem.W.Frag) (mg : Str → Option Value) (base : Heap) (C : Addr) (k : Nat) (sp : Sp) : Prop :=
  ∃ (f : Addr) (fd : FuncData) (ps : List Str), GOk P w K mg base k f fd ps sp ∧ PySem.W.findIn K (.ref C) "__repr__" = some (some (.ref f)) ∧ PySem.W.isFn K (.ref f) = true ∧ Binds K fd ps []
variable {K : PySem.W.Frag}
theorem opEqC (W : Eqr X.prog X.w X.K X.mg X.base C k sp) (hg : X.A.guards = some []) (hr : Room k X.A) (h : X.K = K) (hu : X.A.units + 64 < cLine) : OpR X (compareOp .Eq) (rOr (rOr rEq (rEqD K)) (rEqO K C sp)) := by
  obtain ⟨f, fd, ps, F, hs, hf, hb⟩ := W
  subst h
  exact op_or (opEq rfl hu) (op_eqO F hg hr hs hf hb)
theorem kShowC (W : Rpr X.prog X.w X.K X.mg X.base C k sp) (hg : X.A.guards = some []) (hr : Room (k + 1) X.A) (h : X.K = K) (hu : X.A.units + 64 < cLine) : CallR X (.builtin "repr") (cOr (rShow K) (rShO C sp)) := by
  obtain ⟨f, fd, ps, F, hs, hf, hb⟩ := W
  exact call_or (kShow h hg hu) (call_shO F hg hr hs hf hb)
theorem pe_fldK {e : Expr} {f : Str} {pos : Pos} {ta : TE} (h : X.K = K) (he : PE X e ta) (hb : attributeBase e f X.env (eval e X.env) = eval e X.env := by rfl) : PE X (.Attribute e f pos) (tFld K ta f) := by subst h; exact pe_fld he hb
theorem ps_fldK {o value : Expr} {f : Str} {pos pos' : Pos} {ta tv : TE} (h : X.K = K) (ha : PE X o ta) (hv : PE X value tv) (hs : swapsWith value (some (.Attribute o f pos')) pos.line X.env = pure false := by rfl) : PS X (.Assign [.Attribute o f pos'] value pos) (sFld K ta tv f) := by subst h; exact ps_fld ha hv hs
theorem pe_fmtDK {e : Expr} {te : TE} {pos : Pos} (h : X.K = K) (hg : X.A.guards = some []) (hu : X.A.units + 64 < cLine) (he : PE X e te) : PE X (.FormattedValue e 114 none pos) (tFmtD K te) := by subst h; exact pe_fmtD hg hu he
end
section
variable {cls : Cl} {p : Addr → Prop} {ds : Sts} {te : TE} {P PX PY : D → Prop} {PA : List D → Prop} {K : PySem.W.Frag} {c : Nat} {F : List D → D → Prop} {pre : (Addr → Prop) → List D → Prop}
theorem rv_eqO (hc : ClF K (cls.C c)) (nf : ∀ n ∈ (["NoneType", "bool", "int", "str", "list", "tuple", "dict"] : List String), PySem.W.notFirst K (cls.C c) (.type n) = true)
    (h : ∀ dx dy, PX dx → PY dy → ∃ ns xs, dx = .obj c ns xs ∧ (builtD dy = true ∨ ∃ ns ys, dy = .obj c ns ys) ∧ pre p [dx, dy] ∧ ∀ r, F [dx, dy] r → ∃ b, r = .bl b ∧ P (.bl b)) :
    Rv cls p (rEqO K (cls.C c) (spG cls 2 pre F)) PX PY P := fun N H x y dx dy W ax ay px py' Q q => by
  obtain ⟨ns, xs, rfl, hy, hp, hF⟩ := h dx dy px py'
  have prom : ∀ a, x = .ref a → spG cls 2 pre F [.ref a, y] H (fun v H' => (∃ b, v = .bl b) ∧ Q v H') E0 := fun a e => ⟨p, N, [_, dy], W, .cons (e ▸ ax) (.cons ay .nil), rfl, hp, fun v H' d f g av => by
    obtain ⟨b, rfl, pb⟩ := hF d f
    cases av
    exact ⟨⟨b, rfl⟩, q _ H' _ pb g (.bl b)⟩⟩
  rcases hy with hb | ⟨ms, ys, rfl⟩
  · cases ax with
    | @obj a dx _ _ vs _ n r l at_ => exact ⟨a, dx, _, _, rfl, r, tyX_of ay hb, nf _ (ty_in hb), prom a rfl⟩
  · cases ax with
    | @obj a dx _ _ vs _ n r l at_ =>
      have ay' := ay
      cases ay with
      | @obj b dy _ _ ws _ n2 r2 l2 at2 =>
        refine ⟨a, dx, _, _, rfl, r, .base (.ins r2 hc.cl hc.ha hc.hn hc.htk hc.hm), ?_, prom a rfl⟩
        unfold PySem.W.notFirst
        rw [beq_self_eq_true, Bool.true_or]
theorem rc_shO (h : ∀ xs, PA xs → ∃ ns ys, xs = [.obj c ns ys] ∧ pre p xs ∧ ∀ r, F xs r → ∃ s, r = .str s ∧ P (.str s)) : Rc cls p (rShO (cls.C c) (spG cls 1 pre F)) PA P := fun N H vs xs W a ps Q q => by
  obtain ⟨ns, ys, rfl, hp, hF⟩ := h xs ps
  have a' := a
  cases a with
  | cons a b =>
    cases b
    cases a with
    | @obj a dx _ _ vs _ n r l at_ =>
      refine ⟨a, dx, _, rfl, r, p, N, _, W, a', rfl, hp, fun v H' d f g av => ?_⟩
      obtain ⟨s, rfl, ps'⟩ := hF d f
      cases av
      exact ⟨⟨s, rfl⟩, q _ H' _ ps' g (.str s)⟩
theorem ev_fmtD {k : Bool} {xs : List D} {n : Nat} (h : Ev cls p te ds (· = sq k xs)) (hn : n ≤ 20) (hs : shD n (sq k xs) = true) (hz : szD n (sq k xs) ≤ 10000000) : Ev cls p (tFmtD K te) ds (· = .str (py (sq k xs)).shown) := fun pn N H0 ad σ H S Q q =>
  h pn N H0 ad σ H S _ fun v H1 d e g a => by
    subst e
    obtain ⟨h1, h2, h3, h4⟩ := shD_show n _ hs
    have key : ∃ b, v = .ref b := by
      cases k with
      | true => cases a with | lst n r at_ => exact ⟨_, rfl⟩
      | false => cases a with | tup n r at_ => exact ⟨_, rfl⟩
    obtain ⟨b, rfl⟩ := key
    exact ⟨b, _, rfl, dp_of n _ _ (.inr hs) a, h1, h2, Nat.le_trans h3 hn, Nat.le_trans (Nat.le_trans h4 hz) (by decide), q _ H1 _ rfl g (.str _)⟩
/-- the parts of a text -/
theorem ev_tjs : ∀ {ts : List TE} {ys : List Str}, Paired (fun t y => Ev cls p t ds (· = .str y)) ts ys → ∀ acc : Str, (∀ n : Nat, ((ys.take n).foldl (· ++ ·) acc).length ≤ sizeLine) → ∀ (pn : List (V × D)) (N : Addr → Prop) (H0 : Hp) (ad : Nat → Addr) (σ : L2.St) (H : Hp), Sta cls p pn N H0 ad H σ ds →
    ∀ Q : Str → Hp → Prop, (∀ H', Go p H H' → Q (ys.foldl (· ++ ·) acc) H') → tJs ts acc σ H Q
  | _, _, .nil, acc, hl, pn, N, H0, ad, σ, H, S, Q, q => q H (Go.refl H)
  | _, _, .cons (b := y) (l₂ := ys) h t, acc, hl, pn, N, H0, ad, σ, H, S, Q, q => h pn N H0 ad σ H S _ fun v H1 d e g a => by
    subst e
    cases a
    exact ⟨y, rfl, hl 1, ev_tjs t (acc ++ y) (fun n => hl (n + 1)) pn N H0 ad σ H1 (S.mono g) Q fun H' g' => q H' (g.trans g')⟩
theorem ev_joined {ts : List TE} {ys : List Str} (h : Paired (fun t y => Ev cls p t ds (· = .str y)) ts ys) (hl : ∀ n : Nat, ((ys.take n).foldl (· ++ ·) Str.empty).length ≤ sizeLine) : Ev cls p (fun σ H Q => tJs ts Str.empty σ H fun out H1 => Q (.str out) H1) ds (· = .str (ys.foldl (· ++ ·) Str.empty)) := fun pn N H0 ad σ H S Q q =>
  ev_tjs h Str.empty hl pn N H0 ad σ H S _ fun H' g => q _ H' _ rfl g (.str _)
end
theorem fold_len : ∀ (ys : List Str) (acc : Str) (n : Nat), ((ys.take n).foldl (· ++ ·) acc).length ≤ acc.length + (ys.map Str.length).sum
  | [], acc, n => by rw [List.take_nil]; exact Nat.le_add_right _ _
  | y :: ys, acc, 0 => Nat.le_add_right _ _
  | y :: ys, acc, n + 1 => by
    have h := fold_len ys (acc ++ y) n
    rw [Str.length_append] at h
    rw [List.take_succ_cons, List.foldl_cons, List.map_cons, List.sum_cons]
    omega
end Lk

namespace Lk
open PySem PySem.Spec PyProof.Rows L2

/-! ### a list that nobody else has becomes an own one -/
section
variable {cls : Cl} {p N : Addr → Prop} {pn : List (V × D)} {H0 H H' : Hp} {ad : Nat → Addr} {σ : L2.St} {ds : Sts}
theorem Sta.adopt {i : Nat} {l : Addr} {vs : List V} {xs : List D} (E0 : Sta cls p pn N H0 ad H σ ds) (g : Go p H H') (hl : H l = none) (e : H' l = some (.lst vs)) (h : AtAll cls (fun a => hid N ad ds a ∨ a = l) H' vs xs) (hi : i < ds.length) :
    Sta cls p pn N H0 (fun j => if j = i then l else ad j) H' (σ.set i (some (.ref l))) (ds.set i (some (Slot.own xs))) := by
  have E := E0.mono g
  have old : ∀ a, hid N ad ds a → a ≠ l := fun a h z => E0.hwf.dom a h (by rw [z]; exact hl)
  have hd : ∀ a, hid N (fun j => if j = i then l else ad j) (ds.set i (some (Slot.own xs))) a → hid N ad ds a ∨ a = l := by
    intro a h
    rcases h with h | ⟨j, ys, e, q⟩
    · exact .inl (.inl h)
    · rcases get_set e with ⟨z, _, _⟩ | ⟨ne, e⟩
      · right
        rw [← q]
        simp only [z, if_true]
      · left
        refine .inr ⟨j, ys, e, ?_⟩
        simpa only [if_neg (Ne.symm ne)] using q
  have kp : ∀ {v : V} {d : D}, At cls (hid N ad ds) H v d → At cls (hid N (fun j => if j = i then l else ad j) (ds.set i (some (Slot.own xs)))) H' v d := fun h =>
    (h.keep (N' := fun a => hid N ad ds a ∨ a = l) (H' := H) (fun a hs n z => z.elim n fun z => hs (by rw [z]; exact hl)) fun a o _ e => e).keep (fun a hs n z => n (hd a z)) fun a o n e => g.ext a o (fun z => n (.inl (E0.hsub a z))) e
  have kpA : ∀ {v : List V} {d : List D}, AtAll cls (hid N ad ds) H v d → AtAll cls (hid N (fun j => if j = i then l else ad j) (ds.set i (some (Slot.own xs)))) H' v d := fun h =>
    (h.keep (N' := fun a => hid N ad ds a ∨ a = l) (H' := H) (fun a hs n z => z.elim n fun z => hs (by rw [z]; exact hl)) fun a o _ e => e).keep (fun a hs n z => n (hd a z)) fun a o n e => g.ext a o (fun z => n (.inl (E0.hsub a z))) e
  refine ⟨E.wf, E.go, by rw [List.length_set, List.length_set]; exact E.len, fun j x e => ?_, fun j ys e' => ?_, fun q hq => kp (E0.pin q hq), fun a b ys zs e1 e2 q => ?_, fun j c e' => ?_, fun a b c c' e1 e2 q => ?_⟩
  · rcases get_set e with ⟨rfl, z, _⟩ | ⟨ne, e⟩
    · cases z
    · obtain ⟨w, h1, h2⟩ := E0.dat j x e
      exact ⟨w, by rw [List.getElem?_set_ne ne]; exact h1, kp h2⟩
  · rcases get_set e' with ⟨rfl, z, _⟩ | ⟨ne, e'⟩
    · cases z
      simp only [if_true]
      refine ⟨by rw [List.getElem?_set_self (by rw [E.len]; exact hi)], fun z => E0.wf.dom _ z hl, ?_, vs, e, h.less hd⟩
      cases q : H0 l with
      | none => rfl
      | some o =>
        by_cases hp : p l
        · exact absurd hl (E0.wf.pot l hp).some
        · rw [E0.go.ext l o hp q] at hl; cases hl
    · obtain ⟨h1, h2, h3, ws, h4, h5⟩ := E0.own j ys e'
      simp only [if_neg (Ne.symm ne)]
      exact ⟨by rw [List.getElem?_set_ne ne]; exact h1, h2, h3, ws, g.ext _ _ (fun z => h2 (E0.wf.sub _ z)) h4, kpA h5⟩
  · rcases get_set e1 with ⟨rfl, z, _⟩ | ⟨n1, e1⟩
    · rcases get_set e2 with ⟨rfl, _, _⟩ | ⟨n2, e2⟩
      · rfl
      · simp only [if_true, if_neg (Ne.symm n2)] at q
        obtain ⟨_, _, _, ws, h4, _⟩ := E0.own b zs e2
        rw [← q, hl] at h4; cases h4
    · rcases get_set e2 with ⟨rfl, _, _⟩ | ⟨n2, e2⟩
      · simp only [if_true, if_neg (Ne.symm n1)] at q
        obtain ⟨_, _, _, ws, h4, _⟩ := E0.own a ys e1
        rw [q, hl] at h4; cases h4
      · simp only [if_neg (Ne.symm n1), if_neg (Ne.symm n2)] at q
        exact E0.inj a b ys zs e1 e2 q
  · rcases get_set e' with ⟨_, z, _⟩ | ⟨ne, e'⟩
    · cases z
    · obtain ⟨w, h1, h2, h3, h4, h5⟩ := E0.mt j c e'
      simp only [if_neg (Ne.symm ne)]
      exact ⟨w, by rw [List.getElem?_set_ne ne]; exact h1, h2, h3, h4, h5.keep (fun a hs n z => (hd a z).elim n fun z => hs (by rw [z]; exact hl)) (fun a o n e => g.ext a o (fun z => n (E0.hsub a z)) e) fun o e => g.ext _ o h3 e⟩
  · rcases get_set e1 with ⟨_, z, _⟩ | ⟨n1, e1⟩
    · cases z
    · rcases get_set e2 with ⟨_, z, _⟩ | ⟨n2, e2⟩
      · cases z
      · simp only [if_neg (Ne.symm n1), if_neg (Ne.symm n2)] at q
        exact E0.minj a b c c' e1 e2 q
end
/-- an expression that answers a list that nobody else has -/
def EvF (cls : Cl) (p : Addr → Prop) (t : TE) (ds : Sts) (P : List D → Prop) : Prop := ∀ (pn : List (V × D)) (N : Addr → Prop) (H0 : Hp) (ad : Nat → Addr) (σ : L2.St) (H : Hp), Sta cls p pn N H0 ad H σ ds → ∀ Q : VK,
  (∀ l H' vs xs, P xs → Go p H H' → H l = none → H' l = some (.lst vs) → AtAll cls (fun a => hid N ad ds a ∨ a = l) H' vs xs → Q (.ref l) H') → t σ H Q
section
variable {cls : Cl} {p : Addr → Prop} {ds : Sts} {ta tb te : TE} {P PX : D → Prop} {PA : List D → Prop} {t : TA} {ts tu' : TS} {nx bk ct : Sts → Prop} {rt : D → Prop} {K : PySem.W.Frag}
theorem EvF.mono {P Q : List D → Prop} (h : EvF cls p te ds P) (k : ∀ xs, P xs → Q xs) : EvF cls p te ds Q := fun pn N H0 ad σ H S R q => h pn N H0 ad σ H S R fun l H' vs xs px => q l H' vs xs (k xs px)
/-- name = such an expression -/
theorem sv_setF {i : Nat} {P : List D → Prop} (hi : i < ds.length) (h : EvF cls p te ds P) (k : ∀ xs, P xs → nx (ds.set i (some (Slot.own xs)))) : Sv cls p (tAsg te (gName i)) ds nx rt bk ct := fun pn N H0 ad σ H S Dn q1 _ _ _ =>
  h pn N H0 ad σ H S _ fun l H' vs xs px g hl e a => q1 _ _ H' _ (k xs px) (S.adopt g hl e a hi)
theorem fresh_of {N : Addr → Prop} {H H1 : Hp} {l : Addr} (W : Wf p N H) (g : Go p H H1) (h : H1 l = none) : H l = none := by
  cases q : H l with
  | none => rfl
  | some o =>
    by_cases hp : p l
    · exact absurd h (g.pot l hp (W.pot l hp)).some
    · rw [g.ext l o hp q] at h; cases h
theorem out_of {N : Addr → Prop} {H : Hp} {l : Addr} {o : HO} {vs : List V} {xs : List D} (a : AtAll cls N H vs xs) (h : H l = none) : AtAll cls (fun b => N b ∨ b = l) (upd H l o) vs xs :=
  a.keep (fun b hs n z => z.elim n fun z => hs (by rw [z]; exact h)) fun b u _ e => by rw [upd_ne (ne_of_none e h)]; exact e
/-- a written list -/
theorem ef_lst (h : EvA cls p t ds PA) (hl : ∀ xs, PA xs → xs.length ≤ 100000) : EvF cls p (tLst t) ds PA := fun pn N H0 ad σ H S Q q =>
  h pn N H0 ad σ H S _ fun vs H1 xs ps g1 a1 => ⟨by rw [a1.length]; exact Nat.le_trans (hl xs ps) (by decide), fun l e => q l _ vs xs ps (g1.trans (Go.new e)) (fresh_of S.wf g1 e) upd_same (out_of a1 e)⟩
/-- list(x), x a list or tuple -/
theorem ef_list {k : Bool} {xs : List D} (h : Ev cls p te ds (· = sq k xs)) : EvF cls p (tCB (rList K) (tCons te tNil)) ds (· = xs) := fun pn N H0 ad σ H S Q q => by
  refine (ea1 h) pn N H0 ad σ H S _ fun vs H1 ys ⟨x, ex, ey⟩ g1 a1 => ?_
  subst ex ey
  cases a1 with
  | cons a b =>
    cases b
    have W1 := (S.mono g1).hwf
    obtain ⟨r, rfl⟩ := ref_sq a
    obtain ⟨ws, rq, aa⟩ := at_sq (K := K) a
    refine ⟨r, ws, rfl, ?_, fun l e => q l _ ws xs rfl (g1.trans (Go.new e)) (fresh_of S.wf g1 e) upd_same (out_of aa e)⟩
    cases k with
    | true => exact .inl rq
    | false => exact .inr rq
/-- own.extend(e) -/
theorem sv_ext {i : Nat} {xs : List D} {PI : List D → Prop} (e : ds[i]? = some (some (Slot.own xs))) (h : Ev cls p te ds (fun d => ∃ ys, PI ys ∧ d = .lst ys)) (hz : ∀ ys, PI ys → xs.length + ys.length ≤ 100000) (k : ∀ ys, PI ys → nx (ds.set i (some (Slot.own (xs ++ ys))))) :
    Sv cls p (tDrop (tBM K "list" rExtend (tVar i) (tCons te tNil))) ds nx rt bk ct := fun pn N H0 ad σ H S Dn q1 _ _ _ => by
  obtain ⟨h1, h2, h3, vs, h4, h5⟩ := S.own i xs e
  refine ⟨.ref (ad i), h1, .inl ⟨rfl, _, .inl (.inl h4)⟩, h pn N H0 ad σ H S _ fun v H1 d pd g1 a => ?_⟩
  obtain ⟨ys, py', rfl⟩ := pd
  have S1 := S.mono g1
  have e4 : H1 (ad i) = some (.lst vs) := g1.ext _ _ (fun z => h2 (S.wf.sub _ z)) h4
  have h6 := h5.mono S.hsub g1
  cases a with
  | @lst b ws _ n r at_ =>
    refine ⟨ad i, b, vs, ws, rfl, rfl, e4, r, ?_, q1 ad σ _ _ (k ys py') (S1.change e (h6.append at_))⟩
    rw [h6.length, at_.length]
    exact Nat.le_trans (hz ys py') (by decide)
variable {tt : TT}
/-- a comprehension -/
theorem ef_lc {wi : TI} {g : TG} {vs : List Nat} {js : List Nat} {PI : List D → Prop} {b : D → Bool} {Pe : D → D → Prop} (hi : EI cls p wi ds PI) (hz : ∀ xs, PI xs → xs.length ≤ 100000) (hj : ∀ j ∈ js, j ∈ vs)
    (h : ∀ xs, PI xs → ∀ x ∈ xs, ∃ ds', EvG cls p g js x (wipeD ds vs) ds' ∧ ds'.map ownOf = ds.map ownOf ∧ ET cls p tt ds' (· = b x) ∧ (b x = true → Ev cls p te ds' (Pe x)))
    (hw : (wipeD ds vs).map ownOf = ds.map ownOf) :
    EvF cls p (tLc wi g tt te vs) ds (fun ys => ∃ xs, PI xs ∧ Paired Pe (xs.filter b) ys) := by
  intro pn N H0 ad σ H S Q q
  refine hi pn N H0 ad σ H S _ fun J H1 xs qs px g1 hq wk => ?_
  intro DD hD
  have S1 := S.mono g1
  have hNl : ¬ hid N ad ds DD := fresh_hid S1.hwf hD
  have hpD : ¬ p DD := fun z => hNl (S1.hsub _ z)
  have h0D : H0 DD = none := by
    cases e : H0 DD with
    | none => rfl
    | some o => rw [S1.go.ext _ _ hpD e] at hD; cases hD
  have hp1 : ∀ a, p a → H1 a ≠ none := fun a z => S1.wf.dom a (S1.wf.sub a z)
  let N2 : Addr → Prop := fun a => N a ∨ a = DD
  have hmD : ∀ (i : Nat) (c : Con), ds[i]? = some (some (Slot.mut c)) → ad i ≠ DD := fun i c e z => by
    obtain ⟨_, _, _, _, _, hc⟩ := S1.mt i c e
    exact hc.ne (by rw [z]; exact hD)
  have SL : Sta cls p (qs ++ pn) N2 H0 ad (upd H1 DD (.lst [])) σ ds := (S1.pins hq).lay hD
  refine ⟨fun i m H' => m = xs.length - i ∧ i ≤ xs.length ∧ (∃ acc ys, H' DD = some (.lst acc) ∧ AtAll cls (hid N2 ad ds) H' acc ys ∧ Paired Pe ((xs.take i).filter b) ys) ∧ Sta cls p (qs ++ pn) N2 H0 ad H' σ ds ∧ Go p H1 H',
    ⟨xs.length, by rw [Nat.sub_zero], Nat.zero_le _, ⟨[], [], upd_same, .nil, .nil⟩, SL, (Go.refl H1).chg (H1 := H1) hD hp1⟩, ?_⟩
  rintro i m H' ⟨rfl, hi2, ⟨acc, ys, e, aa, pp⟩, S2, g2⟩
  have wki := wk _ H' S2.hwf (fun x hx => S2.pin x (List.mem_append_left _ hx)) i
  by_cases hlt : i < xs.length
  · refine .inr ?_
    have ei : xs[i]? = some xs[i] := List.getElem?_eq_getElem hlt
    obtain ⟨k1, k2⟩ := wki.1 _ ei
    refine ⟨k1, fun H' => (∃ acc ys, H' DD = some (.lst acc) ∧ AtAll cls (hid N2 ad ds) H' acc ys ∧ Paired Pe ((xs.take (i + 1)).filter b) ys) ∧ Sta cls p (qs ++ pn) N2 H0 ad H' σ ds ∧ Go p H1 H',
      fun H3 ⟨z1, z2, z3⟩ => ⟨xs.length - (i + 1), by omega, rfl, hlt, z1, z2, z3⟩, fun x H3 y => ?_⟩
    obtain ⟨g3, a3⟩ := k2 x H3 y
    have S3 := S2.mono g3
    obtain ⟨ds', hg, ho, ht, he⟩ := h xs px xs[i] (List.getElem_mem hlt)
    have ew : hid N2 ad (wipeD ds vs) = hid N2 ad ds := hid_congr hw
    have ed : hid N2 ad ds' = hid N2 ad ds := hid_congr ho
    refine hg _ N2 H0 ad _ H3 (S3.wipe vs) x (by rw [ew]; exact a3) _ fun σ' S4 w => ⟨?_, ?_⟩
    · rw [w vs hj, wipe_wipe]
    refine ht _ N2 H0 ad σ' H3 S4 _ fun c H4 ec g4 => ?_
    have S5 := S3.mono g4
    have tk : xs.take (i + 1) = xs.take i ++ [xs[i]] := by rw [List.take_add_one, ei]; rfl
    subst ec
    cases hb : b xs[i] with
    | true =>
      rw [if_pos rfl]
      refine he hb _ N2 H0 ad σ' H4 (S4.mono g4) _ fun v H5 d pd g5 a5 => ?_
      rw [ed] at a5
      have S6 := S5.mono g5
      have e5 : H5 DD = some (.lst acc) := ((g3.trans g4).trans g5).ext _ _ hpD e
      have a6 : AtAll cls (hid N2 ad ds) H5 acc ys := aa.mono S2.hsub ((g3.trans g4).trans g5)
      refine ⟨acc, e5, ?_, ⟨_, ys ++ [d], upd_same, (a6.append (.cons a5 .nil)).keep (fun _ _ n => n) (fun a o n e => by rw [upd_ne (fun z => n (by rw [z]; exact .inl (.inr rfl)))]; exact e), ?_⟩, S6.turn (.inr rfl) hpD h0D hmD, (((g2.trans g3).trans g4).trans g5).chg (H1 := H1) hD hp1⟩
      · have l1 : acc.length = ys.length := aa.length
        have l2 : ys.length = ((xs.take i).filter b).length := pp.length.symm
        have l3 : ((xs.take i).filter b).length ≤ xs.length := Nat.le_trans (List.length_filter_le _ _) (by rw [List.length_take]; exact Nat.min_le_right _ _)
        have := hz xs px
        exact Nat.lt_of_le_of_lt (show acc.length ≤ 100000 by omega) (by decide)
      · rw [tk, List.filter_append, List.filter_cons, hb]
        simp only [if_true, List.filter_nil]
        exact Paired.snoc pp pd
    | false =>
      rw [if_neg Bool.false_ne_true]
      have e4 : H4 DD = some (.lst acc) := (g3.trans g4).ext _ _ hpD e
      refine ⟨⟨acc, ys, e4, aa.mono S2.hsub (g3.trans g4), ?_⟩, S5, (g2.trans g3).trans g4⟩
      rw [tk, List.filter_append, List.filter_cons, hb]
      simp only [Bool.false_eq_true, if_false, List.filter_nil, List.append_nil]
      exact pp
  · have ei : i = xs.length := by omega
    subst ei
    refine .inl ⟨wki.2 rfl, q DD H' acc ys ⟨xs, px, ?_⟩ (g1.trans g2) (fresh_of S.wf g1 hD) e (aa.less fun a z => z.elim (fun z => z.elim (fun y => .inl (.inl y)) .inr) fun z => .inl (.inr z))⟩
    rw [List.take_length] at pp
    exact pp
theorem ef_lcS {wi : TI} {g : TG} {vs js : List Nat} {xs : List D} {Pe : D → D → Prop} (hi : EI cls p wi ds (· = xs)) (hz : xs.length ≤ 100000) (hj : ∀ j ∈ js, j ∈ vs) (hw : (wipeD ds vs).map ownOf = ds.map ownOf)
    (h : ∀ x ∈ xs, ∃ ds', EvG cls p g js x (wipeD ds vs) ds' ∧ ds'.map ownOf = ds.map ownOf ∧ Ev cls p te ds' (Pe x)) : EvF cls p (tLc wi g tYes te vs) ds (fun ys => Paired Pe xs ys) :=
  (ef_lc (b := fun _ => true) (Pe := Pe) hi (fun ys e => by rw [e]; exact hz) hj (fun ys e x hx => by
    subst e
    obtain ⟨ds', a, b, c⟩ := h x hx
    exact ⟨ds', a, b, et_yes, fun _ => c⟩) hw).mono fun ys ⟨zs, e, pp⟩ => by
      subst e
      rw [filter_true'] at pp
      exact pp
/-- [..] * n -/
theorem ef_rep {xs : List D} {n : Int} (h : Ev cls p ta ds (· = .lst xs)) (k : Ev cls p tb ds (· = .int n)) (h0 : -(2 ^ 63) ≤ n) (h1 : n < 2 ^ 63) (hz : xs.length * n.toNat ≤ 100000) : EvF cls p (tOp (rOr (rI CMulW fun i j => .int (i * j)) (rOr rRep (rRepT K))) ta tb) ds (· = reps n.toNat xs) := fun pn N H0 ad σ H S Q q =>
  h pn N H0 ad σ H S _ fun v H1 d e g1 a1 => k pn N H0 ad σ H1 (S.mono g1) _ fun w H2 d' e' g2 a2 => by
    subst e e'
    cases a2
    cases a1.mono S.hsub g2 with
    | @lst l vs _ n r at_ =>
      refine .inr (.inl ⟨l, _, vs, rfl, rfl, r, h0, h1, ?_, fun l' e => q l' _ _ _ rfl ((g1.trans g2).trans (Go.new e)) (fresh_of S.wf (g1.trans g2) e) upd_same (out_of (at_.reps _) e)⟩)
      rw [at_.length]
      exact Nat.le_trans hz (by decide)
/-- own.append(other.pop(e)) -/
theorem sv_appPop {i j : Nat} {xs ys : List D} {PI : D → Prop} (ei : ds[i]? = some (some (Slot.own xs))) (ej : ds[j]? = some (some (Slot.own ys))) (hij : i ≠ j) (hz : xs.length < 100000) (h : Ev cls p te ds PI)
    (k : ∀ dj, PI dj → ∃ (z : Int) (m : Nat) (d : D), dj = .int z ∧ -(2 ^ 63) ≤ z ∧ z < 2 ^ 63 ∧ seqIndex? z ys.length = some m ∧ ys[m]? = some d ∧ nx ((ds.set j (some (Slot.own (ys.eraseIdx m)))).set i (some (Slot.own (xs ++ [d]))))) :
    Sv cls p (tDrop (tBM K "list" rAppend (tVar i) (tCons (tBM K "list" rPopAt (tVar j) (tCons te tNil)) tNil))) ds nx rt bk ct := fun pn N H0 ad σ H S Dn q1 _ _ _ => by
  obtain ⟨h1, h2, h3, vs, h4, h5⟩ := S.own i xs ei
  obtain ⟨k1, k2, k3, ws, k4, k5⟩ := S.own j ys ej
  refine ⟨.ref (ad i), h1, .inl ⟨rfl, _, .inl (.inl h4)⟩, .ref (ad j), k1, .inl ⟨rfl, _, .inl (.inl k4)⟩, h pn N H0 ad σ H S _ fun v H1 dj pj g1 a1 => ?_⟩
  obtain ⟨z, m, d, rfl, z0, z1, sm, dm, hn⟩ := k dj pj
  cases a1
  have S1 := S.mono g1
  have e4 : H1 (ad i) = some (.lst vs) := g1.ext _ _ (fun z => h2 (S.wf.sub _ z)) h4
  have f4 : H1 (ad j) = some (.lst ws) := g1.ext _ _ (fun z => k2 (S.wf.sub _ z)) k4
  have e5 := h5.mono S.hsub g1
  have f5 := k5.mono S.hsub g1
  obtain ⟨y, hy, ay⟩ := f5.get dm
  have nad : ad i ≠ ad j := fun z => hij (S.inj i j xs ys ei ej z)
  have er : AtAll cls (hid N ad ds) H1 (ws.eraseIdx m) (ys.eraseIdx m) := by
    have gen : ∀ (ys : List D) (ws : List V), AtAll cls (hid N ad ds) H1 ws ys → ∀ m : Nat, AtAll cls (hid N ad ds) H1 (ws.eraseIdx m) (ys.eraseIdx m) := by
      intro ys
      induction ys with
      | nil => intro ws a m; cases a; exact .nil
      | cons d ys ih =>
        intro ws a m
        cases a with
        | cons a b =>
          cases m with
          | zero => exact b
          | succ m => exact .cons a (ih _ b m)
    exact gen _ _ f5 m
  have S2 := S1.change ej er
  have hh : ∀ b, hid N ad (ds.set j (some (Slot.own (ys.eraseIdx m)))) b ↔ hid N ad ds b := fun b => ⟨fun z => z.elim .inl fun ⟨q, zs, e, r⟩ => by
      rcases get_set e with ⟨rfl, _, _⟩ | ⟨ne, e⟩
      · exact .inr ⟨_, ys, ej, r⟩
      · exact .inr ⟨q, zs, e, r⟩, fun z => z.elim .inl fun ⟨q, zs, e, r⟩ => by
      by_cases w : q = j
      · subst w
        exact .inr ⟨q, _, List.getElem?_set_self (List.getElem?_eq_some_iff.mp ej).1, r⟩
      · exact .inr ⟨q, zs, by rw [List.getElem?_set_ne (Ne.symm w)]; exact e, r⟩⟩
  have ei2 : (ds.set j (some (Slot.own (ys.eraseIdx m))))[i]? = some (some (Slot.own xs)) := by rw [List.getElem?_set_ne (Ne.symm hij)]; exact ei
  have up : ∀ b o, ¬ hid N ad ds b → H1 b = some o → (upd H1 (ad j) (.lst (ws.eraseIdx m))) b = some o := fun b o n e => by
    rw [upd_ne (fun z => n (.inr ⟨j, ys, ej, z.symm⟩))]; exact e
  refine ⟨ad j, ws, z, m, y, rfl, rfl, f4, z0, z1, by rw [f5.length]; exact sm, hy, ad i, vs, y, rfl, rfl, ?_, ?_, ?_⟩
  · show (upd H1 (ad j) _) (ad i) = _
    rw [upd_ne nad]; exact e4
  · rw [e5.length]; exact Nat.lt_of_lt_of_le hz (by decide)
  · refine q1 ad σ _ _ hn (S2.change ei2 ((e5.append (.cons ay .nil)).keep (fun b _ n z => n ((hh b).mp z)) up))
end

/-! ### slices of lists and tuples, tuples put together -/
def slOr (r r' : V → Option Int → Option Int → Hp → VK → Prop) : V → Option Int → Option Int → Hp → VK → Prop := fun x lo hi H Q => r x lo hi H Q ∨ r' x lo hi H Q
theorem kSl2 {X : Cx} {K : PySem.W.Frag} (h : X.K = K) : SlR X (slOr (rSlL K) (rSlA K)) := by subst h; exact SlR.or sl_list sl_tupA
theorem opAddT {X : Cx} {K : PySem.W.Frag} (h : X.K = K) : OpR X (binaryOp .Add) (rOr (rI0 fun i j => .int (i + j)) (rOr rCat (rCatA K))) := by subst h; exact op_or op_add (op_or op_cat op_catA)
section
variable {cls : Cl} {p : Addr → Prop} {ds : Sts} {ta tb te : TE} {tl th : TO} {K : PySem.W.Frag}
theorem cut_whole {α : Type} {xs : List α} {lo hi : Option Int} (h : HT.sIx xs.length 0 lo = 0 ∧ HT.sIx xs.length xs.length hi = xs.length) : (xs.drop (HT.sIx xs.length 0 lo)).take (HT.sIx xs.length xs.length hi - HT.sIx xs.length 0 lo) = xs := by
  rw [h.1, h.2, List.drop_zero, Nat.sub_zero, List.take_length]
theorem ev_slS {k : Bool} {xs : List D} {lo hi : Option Int} (h : Ev cls p te ds (· = sq k xs)) (hl : EvO cls p tl ds (· = lo)) (hh : EvO cls p th ds (· = hi)) : Ev cls p (tSl (slOr (rSlL K) (rSlA K)) te tl th) ds (· = sq k (cut xs lo hi)) := fun pn N H0 ad σ H S Q q =>
  h pn N H0 ad σ H S _ fun v H1 d pd g1 a => hl pn N H0 ad σ H1 (S.mono g1) _ fun lo' H2 pl g2 => hh pn N H0 ad σ H2 (S.mono (g1.trans g2)) _ fun hi' H3 ph g3 => by
    subst pd pl ph
    have g := g1.trans (g2.trans g3)
    have a3 := a.mono S.hsub (g2.trans g3)
    cases k with
    | true =>
      cases a3 with
      | @lst l0 vs _ n r hh =>
        exact .inl ⟨l0, vs, rfl, .inl (.inl r), fun l e => q _ _ _ rfl (g.trans (Go.new e)) (.lst (fresh_hid (S.mono g).hwf e) upd_same ((hh.cut lo' hi').mono S.hsub (Go.new e)))⟩
    | false =>
      cases a3 with
      | @tup l0 vs _ n r hh =>
        refine .inr ⟨l0, vs, rfl, .inl (.inl r), fun w => ?_, fun _ l e => q _ _ _ rfl (g.trans (Go.new e)) (.tup (fresh_hid (S.mono g).hwf e) upd_same ((hh.cut lo' hi').mono S.hsub (Go.new e)))⟩
        have e1 : cut xs lo' hi' = xs := by
          rw [hh.length] at w
          exact cut_whole w
        refine q _ _ _ rfl g ?_
        show At cls (hid N ad ds) H3 (.ref l0) (.tup (cut xs lo' hi'))
        rw [e1]
        exact .tup n r hh
theorem ev_catT {xs ys : List D} (h : Ev cls p ta ds (· = .tup xs)) (g : Ev cls p tb ds (· = .tup ys)) (hz : xs.length + ys.length ≤ 100000) : Ev cls p (tOp (rOr (rI0 fun i j => .int (i + j)) (rOr rCat (rCatA K))) ta tb) ds (· = .tup (xs ++ ys)) := fun pn N H0 ad σ H S Q q =>
  h pn N H0 ad σ H S _ fun v H1 d e g1 a1 => g pn N H0 ad σ H1 (S.mono g1) _ fun w H2 d' e' g2 a2 => by
    subst e e'
    cases a1.mono S.hsub g2 with
    | @tup l vs _ n r at_ =>
      cases a2 with
      | @tup l' ws _ n' r' at' =>
        refine .inr (.inr ⟨l, l', vs, ws, rfl, rfl, .inl (.inl r), .inl (.inl r'), ?_, ?_, ?_, ?_⟩)
        · rw [at_.length, at'.length]; exact Nat.le_trans hz (by decide)
        · rintro rfl
          cases at_
          exact q _ _ _ rfl (g1.trans g2) (.tup n' r' at')
        · rintro _ rfl
          cases at'
          refine q _ _ _ rfl (g1.trans g2) ?_
          show At cls (hid N ad ds) H2 (.ref l) (.tup (xs ++ []))
          rw [List.append_nil]
          exact .tup n r at_
        · rintro _ _ l2 e
          exact q _ _ _ rfl ((g1.trans g2).trans (Go.new e)) (.tup (fresh_hid (S.mono (g1.trans g2)).hwf e) upd_same ((at_.append at').mono S.hsub (Go.new e)))
/-- whole numbers, lists are put together where tuples may be, too -/
theorem ev_addT {x y : Int} (h : Ev cls p ta ds (· = .int x)) (k : Ev cls p tb ds (· = .int y)) : Ev cls p (tOp (rOr (rI0 fun i j => .int (i + j)) (rOr rCat (rCatA K))) ta tb) ds (· = .int (x + y)) :=
  (ev_op h k (rv_l (rv_I0 intP intP))).mono fun d ⟨i, j, hi, hj, e⟩ => by cases hi; cases hj; exact e
theorem ev_catL {xs ys : List D} (h : Ev cls p ta ds (· = .lst xs)) (k : Ev cls p tb ds (· = .lst ys)) (hz : xs.length + ys.length ≤ 100000) : Ev cls p (tOp (rOr (rI0 fun i j => .int (i + j)) (rOr rCat (rCatA K))) ta tb) ds (· = .lst (xs ++ ys)) :=
  (ev_op h k (rv_r (rv_l (rv_cat fun dx dy hx hy => ⟨xs, ys, hx, hy, hz⟩)))).mono fun d ⟨x, y, e1, e2, e⟩ => by rw [e, D.lst.inj e1, D.lst.inj e2]
theorem eo_int {i : Int} (h : Ev cls p te ds (· = .int i)) : EvO cls p (tPart te) ds (· = some i) := fun pn N H0 ad σ H S Q q => (eo_some h intP) pn N H0 ad σ H S Q fun o H' ⟨j, hj, e⟩ g => q o H' (by cases hj; exact e) g
end
theorem cut_take {xs : List D} {i : Int} (h0 : 0 ≤ i) : cut xs none (some i) = xs.take i.toNat := by
  unfold cut
  obtain ⟨n, rfl⟩ : ∃ n : Nat, i = n := ⟨i.toNat, by omega⟩
  rw [HT.sIx_none, HT.sIx_nat, List.drop_zero, Nat.sub_zero, Int.toNat_natCast]
  by_cases z : n ≤ xs.length
  · rw [Nat.min_eq_left z]
  · rw [Nat.min_eq_right (by omega), List.take_length, List.take_of_length_le (by omega)]
theorem cut_drop {xs : List D} {i : Int} (h0 : 0 ≤ i) : cut xs (some i) none = xs.drop i.toNat := by
  unfold cut
  obtain ⟨n, rfl⟩ : ∃ n : Nat, i = n := ⟨i.toNat, by omega⟩
  rw [HT.sIx_none, HT.sIx_nat, Int.toNat_natCast]
  by_cases z : n ≤ xs.length
  · rw [Nat.min_eq_left z, List.take_of_length_le (by rw [List.length_drop]; exact Nat.le_refl _)]
  · rw [Nat.min_eq_right (by omega), List.drop_length, List.drop_eq_nil_of_le (by omega), List.take_nil]

/-! ### a class as the text's top has written it -/
theorem dm_mk {K : PySem.W.Frag} {x qual : Str} {st : Stmt} {f : Addr} {oc : Value} {od an : Option Addr} {sl : Array (Option Value)} {kV dc pm cd ct : Value}
    (l : K.lookup f = some ⟨oc, od, .func (PySem.W.fnOf x qual (defArgs st) (defBody st) (defScope st) .none kV dc pm an cd ct), sl⟩) (c : PySem.W.codeIn K cd qual = true) (k : PySem.W.keepIn K (.ref f) = true) : ∃ fd, Fun K x qual st f fd := ⟨_, fun_mk l c k⟩
theorem seven {Pr : String → Prop} (h1 : Pr "NoneType") (h2 : Pr "bool") (h3 : Pr "int") (h4 : Pr "str") (h5 : Pr "list") (h6 : Pr "tuple") (h7 : Pr "dict") : ∀ n ∈ (["NoneType", "bool", "int", "str", "list", "tuple", "dict"] : List String), Pr n := by
  intro n hn
  simp only [List.mem_cons, List.not_mem_nil, or_false] at hn
  rcases hn with rfl | rfl | rfl | rfl | rfl | rfl | rfl <;> assumption
/-- a property: where it stands, and its getter -/
def PrA (K : PySem.W.Frag) (C : Addr) (x qual : Str) (st : Stmt) : Prop := ∃ pa g fd, PropOf K C x pa g ∧ Fun K x qual st g fd
theorem pr_mk {K : PySem.W.Frag} {C : Addr} {x qual : Str} {st : Stmt} {pa f : Addr} {rest : List Value} {oc : Value} {od an : Option Addr} {sl : Array (Option Value)} {kV dc pm cd ct : Value}
    (a : PySem.W.findIn K (.ref C) x = some (some (.ref pa))) (g : PySem.W.specialIn K (.ref pa) "__get__" = some (some (.builtin "property.__get__"))) (t : PySem.W.takesIn K (.ref pa) = some true) (r : PySem.W.recIn K pa "property" = some (.ref f :: rest))
    (l : K.lookup f = some ⟨oc, od, .func (PySem.W.fnOf x qual (defArgs st) (defBody st) (defScope st) .none kV dc pm an cd ct), sl⟩) (c : PySem.W.codeIn K cd qual = true) (k : PySem.W.keepIn K (.ref f) = true) : PrA K C x qual st := by
  obtain ⟨fd, F⟩ := dm_mk l c k
  exact ⟨pa, f, fd, ⟨a, g, t, rest, r⟩, F⟩
/-- a method that is called by the language -/
def MeA (K : PySem.W.Frag) (C : Addr) (x qual : Str) (st : Stmt) : Prop := ∃ f fd, PySem.W.findIn K (.ref C) x = some (some (.ref f)) ∧ PySem.W.isFn K (.ref f) = true ∧ Fun K x qual st f fd
theorem me_mk {K : PySem.W.Frag} {C : Addr} {x qual : Str} {st : Stmt} {f : Addr} {oc : Value} {od an : Option Addr} {sl : Array (Option Value)} {kV dc pm cd ct : Value}
    (a : PySem.W.findIn K (.ref C) x = some (some (.ref f))) (n : PySem.W.isFn K (.ref f) = true)
    (l : K.lookup f = some ⟨oc, od, .func (PySem.W.fnOf x qual (defArgs st) (defBody st) (defScope st) .none kV dc pm an cd ct), sl⟩) (c : PySem.W.codeIn K cd qual = true) (k : PySem.W.keepIn K (.ref f) = true) : MeA K C x qual st := by
  obtain ⟨fd, F⟩ := dm_mk l c k
  exact ⟨f, fd, a, n, F⟩
/-- what stands of a class -/
structure ClA (K : PySem.W.Frag) (x : Str) (C : Addr) : Prop where
  ns : PySem.W.nsIn K mainGlobals x = some (some (.ref C))
  cl : ClF K C
  nf : ∀ n ∈ (["NoneType", "bool", "int", "str", "list", "tuple", "dict"] : List String), PySem.W.notFirst K C (.type n) = true
  mks : PySem.W.makesIn K C = true
  kp : PySem.W.keepIn K (.ref C) = true
  ne : PySem.W.findIn K (.ref C) "__ne__" = some (some (.builtin "object.__ne__"))
theorem ca_mk {K : PySem.W.Frag} {x : Str} {C : Addr} (ns : PySem.W.nsIn K mainGlobals x = some (some (.ref C))) (pg : PySem.W.plainGet K C Str.empty = true) (hd : PySem.W.hasDictIn K C = true) (po : PySem.W.plainOver K C = true)
    (sa : PySem.W.findIn K (.ref C) "__setattr__" = some (some (.builtin "object.__setattr__"))) (ha : PySem.W.findIn K (.ref C) "__class__" = some (some (.builtin "object.__class__")))
    (hn : PySem.W.specialIn K (.builtin "object.__class__") "__get__" = some (some (.builtin "getset_descriptor.__get__"))) (ht : PySem.W.takesIn K (.builtin "object.__class__") = some true) (hm : PySem.W.mroIn K C (.type "object") = some true)
    (me : PySem.W.kitOne K (.ref C) (.ref C) = some true)
    (n1 : PySem.W.kitOne K (.type "NoneType") (.ref C) = some false) (n2 : PySem.W.kitOne K (.type "bool") (.ref C) = some false) (n3 : PySem.W.kitOne K (.type "int") (.ref C) = some false) (n4 : PySem.W.kitOne K (.type "str") (.ref C) = some false)
    (n5 : PySem.W.kitOne K (.type "list") (.ref C) = some false) (n6 : PySem.W.kitOne K (.type "tuple") (.ref C) = some false) (n7 : PySem.W.kitOne K (.type "dict") (.ref C) = some false)
    (m1 : PySem.W.notFirst K C (.type "NoneType") = true) (m2 : PySem.W.notFirst K C (.type "bool") = true) (m3 : PySem.W.notFirst K C (.type "int") = true) (m4 : PySem.W.notFirst K C (.type "str") = true)
    (m5 : PySem.W.notFirst K C (.type "list") = true) (m6 : PySem.W.notFirst K C (.type "tuple") = true) (m7 : PySem.W.notFirst K C (.type "dict") = true)
    (mk : PySem.W.makesIn K C = true) (kp : PySem.W.keepIn K (.ref C) = true) (ne : PySem.W.findIn K (.ref C) "__ne__" = some (some (.builtin "object.__ne__"))) : ClA K x C :=
  ⟨ns, ⟨⟨pg, hd, po, sa⟩, ha, hn, ht, hm, me, seven n1 n2 n3 n4 n5 n6 n7⟩, seven (Pr := fun n => PySem.W.notFirst K C (.type n) = true) m1 m2 m3 m4 m5 m6 m7, mk, kp, ne⟩
theorem mkr_mk {P : Program} {w : World} {K : PySem.W.Frag} {mg : Str → Option Value} {base h : Heap} {x qual : Str} {C f : Addr} {st : Stmt} {fd : FuncData} {k : Nat} {ps : List Str} {kws : List (List Str × List Nat)} {sp : Sp} (F : Fun K "__init__" qual st f fd) (A : ClA K x C)
    (fi : PySem.W.findIn K (.ref C) "__init__" = some (some (.ref f))) (fn : PySem.W.isFn K (.ref f) = true) (X : K.In h) (G : h.Ns mainGlobals mg) (g : GOk P w K mg base k f fd (("self" : Str) :: ps) sp)
    (hb : ∀ (kV doc pm : Value) (an : Option Addr) (cdv ct : Value) (u : Value) (us : List Value), us.length = ps.length → bindArgs (PySem.W.fnOf "__init__" qual (defArgs st) (defBody st) (defScope st) .none kV doc pm an cdv ct) ⟨u :: us, []⟩ = pure ((("self" : Str) :: ps).zip (u :: us)))
    (hk : ∀ q ∈ kws, ∀ (kV doc pm : Value) (an : Option Addr) (cdv ct : Value) (u : Value) (ws : List Value), ws.length = q.1.length → bindArgs (PySem.W.fnOf "__init__" qual (defArgs st) (defBody st) (defScope st) .none kV doc pm an cdv ct) ⟨[u], q.1.zip ws⟩ = pure ((("self" : Str) :: ps).zip (u :: perm q.2 ws))) :
    Mkr P w K mg base x C k ps kws sp := by
  refine ⟨f, fd, g, PySem.W.mg_of X G A.ns, ⟨A.mks, fi, fn, A.kp⟩, fun s u us hl => ?_, fun q hq s u ws hl => ?_⟩
  · obtain ⟨oc, od, kV, doc, pm, an, cdv, ct, osl, rfl, lk, hcd⟩ := F.ex
    exact .of_eq (hb kV doc pm an cdv ct u us hl)
  · obtain ⟨oc, od, kV, doc, pm, an, cdv, ct, osl, rfl, lk, hcd⟩ := F.ex
    exact .of_eq (hk q hq kV doc pm an cdv ct u ws hl)
/-- the end of a law with objects -/
theorem walk_endC {l : PySem.W.OpenLaw} {k : Nat} {q : Program} {loose : List Str} {XP : (Str → Option Value) → Heap → Prop} {YP : World → Heap → Prop} {d : DefRec} {K : Params → PySem.W.Frag} {x : Str}
    (hn : l.most = some 63) (hdf : d.params.defaults = []) (hr : Room k callerA) (hY : ∀ (w : World) (h : Heap), YP w h → (K w.params).In h)
    (F : ∀ (w : World) (mg : Str → Option Value) (fa : Addr) (h : Heap), (K w.params).In h → h.Ns mainGlobals mg → mg d.name = some (.ref fa) →
      ∃ (Cs : Nat → Addr) (fd : FuncData), (∀ (s : Shared) (u : Value), BindsTo s fd ⟨[u], []⟩ [(x, u)]) ∧
        ∀ base : Heap, (K w.params).In base → base.Ns mainGlobals mg → GOk l.prog w (K w.params) mg base k fa fd [x] (spG ⟨K w.params, Cs⟩ 1 preLaw isTrue1)) :
    PySem.W.WalkO q loose XP YP l.row.toRowW d [] (fun f vs => PySem.call f vs) := by
  refine Att.attach_call hn hdf ?_
  intro w s0 s1 mg mb fa o pm cd doc a vs ns G Y ho hd hcd hmg hobj hints hlen hg
  obtain ⟨Cs, fd, hb, hF⟩ := F w mg fa _ (hY w _ Y) G.T.g hmg
  exact law_end (cls := ⟨K w.params, Cs⟩) (hY w _ Y) G.T.g G.T.b G.T.builtins G.T.nolimit hg hobj hints hlen hr rfl hF hb
end Lk

namespace Lk
open PySem PySem.Spec PyProof.Rows L2

/-! ### sorted of a tuple of whole numbers -/
section
variable {prog : Program} {w : World} {A : Around} {E : Value → Shared → Prop} {s : Shared}
theorem collect_tup {l : Addr} {o : Obj} {vs : List Value} {n : Nat} {Q : List Value → Shared → Prop} (ho : s.heap.get? l = some o) (hc : o.cls = .type "tuple") (hd : o.data = .seq vs.toArray n) (hz : vs.length ≤ sizeLine)
    (h : Q vs { s with heap := (s.heap.push (seqObj "list" #[] 0)).update s.heap.objs.size (Obj.mapSeq (· ++ vs.toArray)) }) : wpAny (model prog w) A (collect (.ref l)) Q E s := by
  have p0 : (s.heap.push (seqObj "list" #[] 0)).get? s.heap.objs.size = some (seqObj "list" #[] 0) := Heap.get?_push_size _ rfl
  have p1 : (s.heap.push (seqObj "list" #[] 0)).get? l = some o := Heap.get?_push_of_some _ ho
  have tail : wpAny (model prog w) A (do let o ← load s.heap.objs.size; match o.data with | .seq xs _ => pure xs.toList | _ => unsupported "internal:collect") Q E
      { s with heap := (s.heap.push (seqObj "list" #[] 0)).update s.heap.objs.size (Obj.mapSeq (· ++ vs.toArray)) } := by
    refine wpAny_bind (wpAny_load (get?_update_seq p0 _) ?_)
    show wpAny _ _ (pure ((#[] : Array Value) ++ vs.toArray).toList) Q E _; rw [show ((#[] : Array Value) ++ vs.toArray).toList = vs by simp]; exact wpAny_pure h
  unfold collect
  refine wpAny_bind (wpAny_runValue (codeAny_builtin entry_proto_collect' ?_)); show wpAny _ _ (do again (.builtin "list.__iadd__" ⟨[← newList [], .ref l], []⟩)) _ _ s
  refine wpAny_bind (wpAny_newList (wpAny_pure ⟨Code.quiet_builtin _ (by decide +kernel), codeAny_builtin entry_list_iadd' (?_ : wpAny _ _ (Builtin.List.listExtendWith (.ref s.heap.objs.size) (.ref l) (.ref s.heap.objs.size)) _ _ { s with heap := s.heap.push (seqObj "list" #[] 0) })⟩))
  unfold Builtin.List.listExtendWith
  refine wpAny_bind (wpAny_typeOf (T := "tuple") ⟨o, p1, hc⟩ (?_ : wpAny _ _ _ _ _ _)); rw [if_pos (by rw [show (Value.type "tuple" == Value.type "tuple") = true by rfl]; simp)]
  refine wpAny_bind (listItems_at p1 hd (wpAny_bind (listItems_at (xs := #[]) (n := 0) p0 rfl ?_))); rw [if_neg (by simp)]
  exact wpAny_bind (listUpdate_at (xs := #[]) (n := 0) p0 rfl (wpAny_pure tail) (Nat.zero_le _) (by show (#[] ++ vs.toArray).size ≤ sizeLine + 1; simp only [Array.size_append, List.size_toArray, List.length_nil]; omega))
theorem sorted_tup {l : Addr} {o : Obj} {vs : List Value} {ns : List Int} {n : Nat} {Q : Value → Shared → Prop} (ho : s.heap.get? l = some o) (hc : o.cls = .type "tuple") (hd : o.data = .seq vs.toArray n) (hI : IntsAre vs ns) (h64 : vs.length < 64)
    (h : ∀ (out : Array Value) (ns' : List Int), IntsAre out.toList ns' → ns'.Perm ns → ns'.Pairwise (· ≤ ·) → Q (.ref (s.heap.objs.size + 1)) { s with heap := sortedAll s.heap vs out }) :
    wpAny (model prog w) A (call (.builtin "sorted") [.ref l]) Q E s := by
  have sz : ((s.heap.push (seqObj "list" #[] 0)).update s.heap.objs.size (Obj.mapSeq (· ++ vs.toArray))).objs.size = s.heap.objs.size + 1 := by rw [Heap.size_update, size_push']
  have hL : (((s.heap.push (seqObj "list" #[] 0)).update s.heap.objs.size (Obj.mapSeq (· ++ vs.toArray))).push (seqObj "list" vs.toArray 0)).get? (s.heap.objs.size + 1) = some (seqObj "list" vs.toArray 0) := by rw [← sz]; exact Heap.get?_push_size _ rfl
  refine Calls.call_function_entry kind_sorted plain_sorted entry_sorted (args_sorted1 _) ?_; unfold Builtin.«sorted»
  refine wpAny_bind (m := checkCount "sorted" 1 1 _) (wpAny_pure (wpAny_bind (collect_tup ho hc hd (by rw [sizeLine_eq]; omega) (wpAny_bind (wpAny_newList ?_)))))
  show wpAny _ _ _ _ _ { s with heap := ((s.heap.push (seqObj "list" #[] 0)).update s.heap.objs.size (Obj.mapSeq (· ++ vs.toArray))).push (seqObj "list" vs.toArray 0) }; rw [sz]
  exact wpAny_bind (wpAny_holding (wpAny_call_entry slot_list_sort ⟨_, hL, rfl⟩ entry_list_sort (list_sort_tree hL hI h64 fun out ns' a1 a2 a3 => ⟨_, rfl, wpAny_pure ⟨_, rfl, h out ns' a1 a2 a3⟩⟩) (args_list_sort _)))
end
def rSortedQ (K : PySem.W.Frag) : List V → Hp → VK → Prop := fun vs H Q => ∃ (a : Addr) (ns : List Int), vs = [V.ref a] ∧ (SqL K H a (ns.map V.int) ∨ SqT K H a (ns.map V.int)) ∧ ns.length < 64 ∧
  ∀ (ns' : List Int) (p : Addr), ns'.Perm ns → ns'.Pairwise (· ≤ ·) → H p = none → Q (.ref p) (upd H p (.lst (ns'.map V.int)))
theorem kSortedQ {X : Cx} {K : PySem.W.Frag} (hX : X.K = K) : CallR X (.builtin "sorted") (rSortedQ K) := by
  subst hX
  intro pins s σ H vs us Q I r h
  obtain ⟨a, ns, rfl, hs, h64, q⟩ := h
  rcases hs with hs | ht
  · exact cr_sorted pins s σ H _ us Q I r ⟨a, ns, rfl, hs, h64, q⟩
  · obtain ⟨its, rv, ⟨o, ho, hcl, n, hd⟩, _⟩ := I.tuple ht
    rw [Vals.ref1 r]
    have hi := rv.ints
    refine sorted_tup ho hcl hd hi (by rw [hi.length]; exact h64) fun out ns' h1 h2 h3 => ?_
    obtain ⟨ep, he'⟩ := sortedAll_at s.heap its out
    have hz : (ns'.map V.int).length ≤ sizeLine := by rw [List.length_map, h2.length_eq]; exact Nat.le_trans (Nat.le_of_lt h64) (by decide)
    exact ⟨.ref _, upd H (s.heap.objs.size + 1) (.lst (ns'.map V.int)), I.laid (t' := s.toks) (fun _ _ e => sortedAll_old e) (Nat.le_succ _) ⟨hz, out.toList, ep, vals_of_ints h1, he'⟩, rfl, q ns' _ h2 h3 (I.hok.fresh (Nat.le_succ _))⟩
section
variable {cls : Cl} {p : Addr → Prop} {ds : Sts} {te : TE} {K : PySem.W.Frag}
/-- sorted of a list or tuple of whole numbers -/
theorem ev_sorted {k : Bool} {a : List Int} (h : Ev cls p te ds (· = row k a)) (hl : a.length < 64) : Ev cls p (tCB (rSortedQ K) (tCons te tNil)) ds (fun d => ∃ b : List Int, b.Perm a ∧ b.Pairwise (· ≤ ·) ∧ d = row true b) := fun pn N H0 ad σ H S Q q => by
  refine (ea1 h) pn N H0 ad σ H S _ fun vs H1 ys ⟨x, ex, ey⟩ g1 a1 => ?_
  subst ex ey
  cases a1 with
  | cons av b =>
    cases b
    obtain ⟨r, rfl⟩ := ref_sq av
    obtain ⟨ws, rq, aa⟩ := at_sq (K := K) av
    have ew : ws = a.map V.int := by
      have gen : ∀ (a : List Int) (ws : List V), AtAll cls (hid N ad ds) H1 ws (a.map D.int) → ws = a.map V.int := by
        intro a
        induction a with
        | nil => intro ws z; cases z; rfl
        | cons i a ih => intro ws z; cases z with | cons u v => cases u; rw [ih _ v]; rfl
      exact gen a ws aa
    subst ew
    refine ⟨r, a, rfl, ?_, hl, fun ns' l pm pw e => q _ _ _ ⟨ns', pm, pw, rfl⟩ (g1.trans (Go.new e)) (.lst (fresh_hid (S.mono g1).hwf e) upd_same ?_)⟩
    · cases k with
      | true => exact .inl rq
      | false => exact .inr rq
    · have gen : ∀ (a : List Int) (N : Addr → Prop) (H : Hp), AtAll cls N H (a.map V.int) (a.map D.int) := by
        intro a
        induction a with
        | nil => intro N H; exact .nil
        | cons i a ih => intro N H; exact .cons (.int i) (ih N H)
      exact gen _ _ _
end

/-! ### x != y by the own == of x's class -/
section
variable {prog : Program} {w : World} {A : Around} {E : Value → Shared → Prop} {s : Shared} {K : PySem.W.Frag} {x C f : Addr} {ox : Obj} {od : Option Obj} {b : Value}
theorem slot_ne : PySem.Slot "object" "__ne__" "object.__ne__" := .of (owner := "object") (n := "__ne__") (by rw [typeLookup_type, builtinLookup_eq_fast]; kernel_rfl) (by decide +kernel) (by decide +kernel) (by decide +kernel) (by first | exact .inl (by decide +kernel) | exact .inr (by decide +kernel)) (by rw [isSubtype_type]; kernel_rfl)
theorem ifBound_bi {M : Model} {name : Str} {id : String} {args : List Value} {Q : Option Value → Shared → Prop} (X : K.In s.heap) (I : PySem.W.InstAt s.heap x ox C od) (hs : PySem.W.findIn K (.ref C) name = some (some (.builtin id)))
    (hb : ∀ self, bindSpecial (.builtin id) self = pure (.builtin id, [self])) (h : wpAny M A (call (.builtin id) (.ref x :: args)) (fun v => Q (some v)) E s) : wpAny M A (callSpecialIfBound? (.ref x) name args) Q E s := by
  have L := PySem.W.Looks.of_pure (M := M) (h := s.heap) (hb (.ref x))
  have fin : wpAny M A (call (.builtin id) ([.ref x] ++ args) >>= fun v => pure (some v)) Q E s := wpAny_bind (wpAny_mono h (fun _ _ z => wpAny_pure z) fun _ _ z => z)
  simp only [callSpecialIfBound?, bindSpecialIfBound?]; refine wpAny_holding (wpAny_bind (wpAny_bind (wpAny_bind (I.type.here ((PySem.W.looks_findIn X hs).here (wpAny_bind (wpAny_askSetting (wpAny_ite ?_))))))))
  split
  · exact wpAny_bind (L.here (wpAny_pure (by exact fin)))
  · exact wpAny_tryCatch (wpAny_bind (L.here (wpAny_pure (by exact fin))))
theorem ne_call {Q : Value → Shared → Prop} (hu : A.in1.units < cLine) (X : K.In s.heap) (I : PySem.W.InstAt s.heap x ox C od) (hm : PySem.W.mroIn K C (.type "object") = some true) (hs : PySem.W.findIn K (.ref C) "__eq__" = some (some (.ref f))) (hf : PySem.W.isFn K (.ref f) = true)
    (h : wpAny (model prog w) A.in1 (call (.ref f) [.ref x, b]) (fun v s' => ∃ c, v = .bool c ∧ Q (.bool (!c)) s') E s) : wpAny (model prog w) A (call (.builtin "object.__ne__") [.ref x, b]) Q E s := by
  refine wpAny_call (codeAny_call_builtin slot_ne.plain PySem.F.cmpEntry_ne (PySem.W.check_slot (i := "object.__ne__") (owner := "object") (n := "__ne__") (by decide +kernel) (by decide +kernel) (I.type.andThen (PySem.W.looks_mroIn X hm)) (PySem.F.cmpArgs_ne _ _) ?_))
  unfold Builtin.«object.__ne__»
  refine wpAny_bind (m := slotArgs "__ne__" 1 _) (wpAny_pure (wpAny_bind (m := cRoomFor _ _) (wpAny_cRoomFor hu (wpAny_bind (m := callSpecialIfBound? (.ref x) (Str.ofString "__eq__") _) (PySem.W.ifBound_K X I hs hf (wpAny_mono h (fun r s' hq => ?_) fun _ _ y => y))))))
  obtain ⟨c, rfl, hq⟩ := hq
  exact wpAny_bind (wpAny_truthy_bool (wpAny_pure hq))
theorem cmp_ne {Q : Value → Shared → Prop} (hu : A.units + 1 < cLine) (X : K.In s.heap) (I : PySem.W.InstAt s.heap x ox C od) (ty : PySem.W.Looks (model prog w) s.heap (typeOf b) (.ref C)) (hm : PySem.W.mroIn K C (.type "object") = some true)
    (hn : PySem.W.findIn K (.ref C) "__ne__" = some (some (.builtin "object.__ne__"))) (hs : PySem.W.findIn K (.ref C) "__eq__" = some (some (.ref f))) (hf : PySem.W.isFn K (.ref f) = true)
    (h : wpAny (model prog w) A.in1 (call (.ref f) [.ref x, b]) (fun v s' => ∃ c, v = .bool c ∧ Q (.bool (!c)) s') E s) : wpAny (model prog w) A (richCompare .NotEq (.ref x) b) Q E s := by
  have one : wpAny (model prog w) A (tryCompare (.ref x) "__ne__" b) (fun r s' => ∃ v, r = some v ∧ Q v s') E s := by
    unfold tryCompare
    refine wpAny_bind (ifBound_bi X I hn slot_ne.bind (wpAny_mono (ne_call (Q := fun v s' => ∃ c, v = .bool c ∧ Q (.bool c) s') hu X I hm hs hf (wpAny_mono h (fun v s' hv => ?_) fun _ _ e => e)) (fun v s' hv => ?_) fun _ _ e => e))
    · obtain ⟨c, rfl, q⟩ := hv; exact ⟨c, rfl, _, rfl, q⟩
    · obtain ⟨c, rfl, q⟩ := hv; exact wpAny_pure ⟨_, rfl, q⟩
  unfold richCompare
  simp only [oneThing_ref]; refine wpAny_holding (wpAny_bind (wpAny_cRoomFor (Nat.lt_of_succ_lt hu) (wpAny_bind (I.type.here (wpAny_bind (ty.here ?_))))))
  split
  · rename_i q
    simp at q
  · refine wpAny_bind (wpAny_pure ?_); simp only [Bool.false_eq_true, if_false]
    refine wpAny_bind (wpAny_mono one (fun r s' z => ?_) fun _ _ e => e)
    obtain ⟨v, rfl, hq⟩ := z; exact wpAny_pure hq
end
section
variable {X : Cx} {k : Nat} {f C : Addr} {fd : FuncData} {ps : List Str} {sp : Sp}
/-- x != y, both of the class C with an own == -/
def rNeO (K : PySem.W.Frag) (C : Addr) (sp : Sp) : R2 := fun x y H Q => ∃ a dx fs, x = .ref a ∧ H a = some (.ins C dx fs) ∧ TyX K H y (.ref C) ∧ sp [.ref a, y] H (fun v H' => ∃ b, v = .bl b ∧ Q (.bl (!b)) H') E0
theorem op_neO (F : GOk X.prog X.w X.K X.mg X.base k f fd ps sp) (hg : X.A.guards = some []) (hr : Room (k + 1) X.A) (hm : PySem.W.mroIn X.K C (.type "object") = some true) (hn : PySem.W.findIn X.K (.ref C) "__ne__" = some (some (.builtin "object.__ne__")))
    (hs : PySem.W.findIn X.K (.ref C) "__eq__" = some (some (.ref f))) (hf : PySem.W.isFn X.K (.ref f) = true) (hb : Binds X.K fd ps []) : OpR X (compareOp .NotEq) (rNeO X.K C sp) := by
  intro pins s σ H x y v u Q I rx ry h
  obtain ⟨a, dx, fs, rfl, ha, ty, q⟩ := h
  cases rx
  obtain ⟨mA, J, _⟩ := ins_get I.hok ha
  obtain ⟨od, J, _⟩ := J.look
  show wpAny (model X.prog X.w) X.A (richCompare .NotEq (.ref a) u) (EP X pins σ Q) X.xe s
  refine cmp_ne (by have := hr.units; omega) I.kIn J (looks_of I ry ty) hm hn hs hf ?_
  have hl := F.len _ _ _ _ q
  have hb1 := hb s [.ref a, u] I.kIn (by rw [List.append_nil]; exact hl)
  rw [List.append_nil] at hb1
  refine wpAny_call (codeAny_mono (F.go X.A.in1 X.stack s H ⟨[.ref a, u], []⟩ [.ref a, u] [.ref a, y] _ E0 hg hr.in1 I.env0.in1 hb1 (.cons rfl (.cons ry .nil)) q) ?_)
  intro r s' hq
  match r, hq with
  | .error _, hq => exact hq.elim
  | .ok .next, hq => exact hq.elim
  | .ok .brk, hq => exact hq.elim
  | .ok .cont, hq => exact hq.elim
  | .ok (.ret w), hq =>
    obtain ⟨z, H', I', rz, b, ez, q'⟩ := I.after hq
    subst ez
    cases rz
    exact ⟨b, rfl, .bl (!b), H', I', rfl, q'⟩
def Ner (P : Program) (w : World) (K : PySem.W.Frag) (mg : Str → Option Value) (base : Heap) (C : Addr) (k : Nat) (sp : Sp) : Prop := Eqr P w K mg base C k sp ∧ PySem.W.findIn K (.ref C) "__ne__" = some (some (.builtin "object.__ne__")) ∧ PySem.W.mroIn K C (.type "object") = some true
theorem opNeC {K : PySem.W.Frag} (W : Ner X.prog X.w X.K X.mg X.base C k sp) (hg : X.A.guards = some []) (hr : Room (k + 1) X.A) (h : X.K = K) (hu : X.A.units + 64 < cLine) : OpR X (compareOp .NotEq) (rOr (rOr rNe (rNeD K)) (rNeO K C sp)) := by
  obtain ⟨⟨f, fd, ps, F, hs, hf, hb⟩, hn, hm⟩ := W
  subst h
  exact op_or (opNe rfl hu) (op_neO F hg hr hm hn hs hf hb)
end
section
variable {cls : Cl} {p : Addr → Prop} {ds : Sts} {tl tr : TE} {P PX PY : D → Prop} {K : PySem.W.Frag} {c : Nat} {F : List D → D → Prop} {pre : (Addr → Prop) → List D → Prop}
theorem rv_neO (hc : ClF K (cls.C c)) (h : ∀ dx dy, PX dx → PY dy → ∃ ns xs ms ys, dx = .obj c ns xs ∧ dy = .obj c ms ys ∧ pre p [dx, dy] ∧ ∀ r, F [dx, dy] r → ∃ b, r = .bl b ∧ P (.bl (!b))) :
    Rv cls p (rNeO K (cls.C c) (spG cls 2 pre F)) PX PY P := fun N H x y dx dy W ax ay px py' Q q => by
  obtain ⟨ns, xs, ms, ys, rfl, rfl, hp, hF⟩ := h dx dy px py'
  have ax' := ax
  have ay' := ay
  cases ax with
  | @obj a dx _ _ vs _ n r l at_ =>
    cases ay with
    | @obj b dy _ _ ws _ n2 r2 l2 at2 =>
      refine ⟨a, dx, _, rfl, r, .base (.ins r2 hc.cl hc.ha hc.hn hc.htk hc.hm), p, N, [_, _], W, .cons ax' (.cons ay' .nil), rfl, hp, fun v H' d f g av => ?_⟩
      obtain ⟨b, rfl, pb⟩ := hF d f
      cases av
      exact ⟨b, rfl, q _ H' _ pb g (.bl (!b))⟩
end
end Lk

namespace Lk
open PySem PySem.Spec PyProof.Rows L2

/-! ### enumerate -/
def enums : Nat → List D → List D
  | _, [] => []
  | n, x :: xs => .tup [.int n, x] :: enums (n + 1) xs
theorem enums_get : ∀ {xs : List D} {n i : Nat} {d : D}, (enums n xs)[i]? = some d → ∃ x, xs[i]? = some x ∧ d = .tup [.int (n + i : Nat), x]
  | [], _, _, _, e => nomatch e
  | x :: xs, n, 0, d, e => by
    have e : some (D.tup [.int n, x]) = some d := e
    cases e
    exact ⟨x, rfl, rfl⟩
  | _ :: xs, n, i + 1, d, e => by
    obtain ⟨x, h, z⟩ := enums_get (xs := xs) (n := n + 1) (i := i) e
    exact ⟨x, h, by rw [z]; congr 4; omega⟩
theorem enums_len : ∀ {xs : List D} {n : Nat}, (enums n xs).length = xs.length
  | [], _ => rfl
  | _ :: xs, n => by show (enums (n + 1) xs).length + 1 = xs.length + 1; rw [enums_len]
theorem piEnum {X : Cx} {K : PySem.W.Frag} {e : Expr} {ta : TA} {p pos tpos : Pos} {elts : List Expr} {kk : Nat} (h : X.K = K) (hg : Gl X "enumerate") (hm : X.mg "enumerate" = none) (ha : PA X [e] ta) (hs : starEach [e] X.env = [(false, eval e X.env)] := by rfl) :
    PI X (.Tuple elts kk tpos) (.Call (.Name "enumerate" p) [e] [] pos) (iEnum K ta) := by subst h; exact pi_enum hg hm ha hs
section
variable {cls : Cl} {p : Addr → Prop} {ds : Sts} {ta tb tc td te : TE} {P PX PY : D → Prop} {PA : List D → Prop} {t : TA} {ts : TS} {nx bk ct : Sts → Prop} {rt : D → Prop} {K : PySem.W.Frag}
theorem ei_enum {xs : List D} (h : EvA cls p t ds (· = [.lst xs])) : EI cls p (iEnum K t) ds (· = enums 0 xs) := fun pn N H0 ad σ H S R q =>
  h pn N H0 ad σ H S _ fun vs H1 ys e g a => by
    subst e
    cases a with
    | cons a b =>
      cases b
      have a' := a
      cases a with
      | @lst r ws _ n rr at_ =>
        refine ⟨r, ws, rfl, .inl (.inl rr), q _ H1 _ [(.ref r, .lst xs)] rfl g (fun x hx => by rw [List.mem_singleton.mp hx]; exact a') ?_⟩
        intro N2 H2 W h2 i
        have a2 := h2 _ (List.mem_cons_self ..)
        cases a2 with
        | @lst _ us _ n2 r2 hh =>
          refine ⟨fun d e => ?_, fun e => ⟨us, .inl (.inl r2), ?_⟩⟩
          · obtain ⟨x, ex, rfl⟩ := enums_get e
            obtain ⟨v, hv, av⟩ := hh.get ex
            refine ⟨⟨us, v, .inl (.inl r2), hv⟩, fun u H' z => ?_⟩
            obtain ⟨T, y, rfl, hT, rfl, zz⟩ := z
            have e1 := zz us (.inl (.inl r2))
            rw [hv] at e1
            cases e1
            have g2 : Go p H2 (upd H2 T (.tup [.int (i : Nat), v])) := Go.new hT
            refine ⟨g2, .tup (fresh_hid W hT) upd_same (.cons ?_ (.cons (av.mono W.sub g2) .nil))⟩
            rw [Nat.zero_add]
            exact .int _
          · rw [enums_len] at e
            rw [hh.length]
            exact Nat.le_of_eq e.symm
def emap {α : Type} (f : Nat → Int → α) : Nat → List Int → List α
  | _, [] => []
  | n, x :: a => f n x :: emap f (n + 1) a
/-- [f(i, x) for i, x in enumerate(a)], a a list of whole numbers -/
theorem ev_lcE {i j : Nat} {vs : List Nat} {a : List Int} {f : Nat → Int → D} (h : Ev cls p ta ds (· = row true a)) (hz : a.length ≤ 1000) (hv : i ∈ vs ∧ j ∈ vs) (hw : (wipeD ds vs).map ownOf = ds.map ownOf)
    (ho : ∀ x y, (((wipeD ds vs).set i (some (Slot.dat (.int x)))).set j (some (Slot.dat (.int y)))).map ownOf = ds.map ownOf)
    (he : ∀ (n : Nat) (x : Int), Ev cls p te (((wipeD ds vs).set i (some (Slot.dat (.int n)))).set j (some (Slot.dat (.int x)))) (· = f n x)) :
    Ev cls p (tLc (iEnum K (tCons ta tNil)) (gTup K 2 (gCons (gName i) (gCons (gName j) gNil))) tYes te vs) ds (· = .lst (emap f 0 a)) := by
  refine (ev_lcS (js := [i, j]) (Pe := fun d r => ∀ (n : Nat) (x : Int), d = .tup [.int n, .int x] → r = f n x) (ei_enum (xs := a.map D.int) ((ea1 h).mono fun xs ⟨x, ex, e⟩ => by rw [e, ex]; rfl)) ?_ ?_ hw ?_).mono ?_
  · rw [enums_len, List.length_map]; omega
  · intro z hz
    rcases List.mem_cons.mp hz with e | hz
    · rw [e]; exact hv.1
    · rw [List.mem_singleton.mp hz]; exact hv.2
  · intro d hd
    obtain ⟨k, hk⟩ := List.getElem?_of_mem hd
    obtain ⟨x, hx, rfl⟩ := enums_get hk
    obtain ⟨y, rfl, _⟩ := ints_at hx
    exact ⟨_, eg_tup (egs_cons (egs_cons egs_nil)) rfl, ho _ y, (he _ y).mono fun r e n' x' z => by cases z; exact e⟩
  · rintro d ⟨ys, pp, rfl⟩
    have gen : ∀ (a : List Int) (n : Nat) (ys : List D), Paired (fun d r => ∀ (n : Nat) (x : Int), d = D.tup [.int n, .int x] → r = f n x) (enums n (a.map D.int)) ys → ys = emap f n a := by
      intro a
      induction a with
      | nil => intro n ys pp; cases pp; rfl
      | cons x a ih =>
        intro n ys pp
        cases (show Paired _ (D.tup [.int n, .int x] :: enums (n + 1) (a.map D.int)) ys from pp) with
        | cons h t => rw [h n x rfl, ih _ _ t]; rfl
    rw [gen a 0 ys pp]

/-! ### own lists, more -/
theorem ev_lenOwn {i : Nat} {xs : List D} (e : ds[i]? = some (some (Slot.own xs))) : Ev cls p (tCB (rLen K) (tCons (tVar i) tNil)) ds (· = .int xs.length) := fun pn N H0 ad σ H S Q q => by
  obtain ⟨h1, h2, h3, vs, h4, h5⟩ := S.own i xs e
  exact ⟨.ref (ad i), h1, ad i, vs, rfl, .inl (.inl (.inl h4)), by rw [h5.length]; exact q _ H _ rfl (Go.refl H) (.int _)⟩
/-- list(range(n)) -/
theorem ef_rng {n : Int} (h : Ev cls p te ds (· = .int n)) (h0 : 0 ≤ n) (h1 : n ≤ 100000) : EvF cls p (tLstRg (tRg1 te)) ds (· = irng 0 n.toNat) := fun pn N H0 ad σ H S Q q =>
  h pn N H0 ad σ H S _ fun v H1 d e g a => by
    subst e
    cases a
    refine ⟨n, rfl, RgOk.of_le (Int.le_refl 0) (by omega) (by decide) h0, fun l e => q l _ _ _ rfl (g.trans (Go.new e)) (fresh_of S.wf g e) upd_same ?_⟩
    have gen : ∀ (xs : List Nat) (N : Addr → Prop) (H : Hp), AtAll cls N H (xs.map fun i => V.int (0 + (i : Nat))) (xs.map fun i => D.int (0 + (i : Nat))) := by
      intro xs
      induction xs with
      | nil => intro N H; exact .nil
      | cons x xs ih => intro N H; exact .cons (.int _) (ih N H)
    unfold rgV
    rw [show n - 0 = n by omega]
    exact gen (List.range n.toNat) _ _
/-- a, b = such a list, [] -/
theorem sv_parN {i j : Nat} {P : List D → Prop} (hi : i < ds.length) (hj : j < ds.length) (h : EvF cls p ta ds P) (k : ∀ xs, P xs → nx ((ds.set i (some (Slot.own xs))).set j (some (Slot.own [])))) : Sv cls p (tPar i j (tCons ta (tCons (tLst tNil) tNil))) ds nx rt bk ct := fun pn N H0 ad σ H S Dn q1 _ _ _ =>
  h pn N H0 ad σ H S _ fun l H' vs xs px g hl e a => ⟨Nat.zero_le _, fun l2 h2 => ⟨_, _, rfl, q1 _ _ _ _ (k xs px) ((S.adopt g hl e a hi).fresh h2 (by rw [List.length_set]; exact hj))⟩⟩
/-- own[k], own[l] = x, y -/
theorem sv_item2 {i : Nat} {xs : List D} {k l : Int} {x y : D} {m n : Nat} (e : ds[i]? = some (some (Slot.own xs))) (hx : Ev cls p ta ds (· = x)) (hy : Ev cls p tb ds (· = y)) (hk : ∀ ds' : Sts, ds'.length = ds.length → (∀ r, r ≠ i → ds'[r]? = ds[r]?) → Ev cls p tc ds' (· = .int k)) (hl : ∀ ds' : Sts, ds'.length = ds.length → (∀ r, r ≠ i → ds'[r]? = ds[r]?) → Ev cls p td ds' (· = .int l))
    (hm : ixN xs.length k = some m) (hn : ixN xs.length l = some n) (kk : nx (ds.set i (some (Slot.own ((xs.set m x).set n y))))) :
    Sv cls p (tAsg (tTup (tCons ta (tCons tb tNil))) (gTup K 2 (gCons (gSub (tVar i) tc rSetL) (gCons (gSub (tVar i) td rSetL) gNil)))) ds nx rt bk ct := fun pn N H0 ad σ H S Dn q1 _ _ _ => by
  refine hx pn N H0 ad σ H S _ fun v H1 d e1 g1 a1 => hy pn N H0 ad σ H1 (S.mono g1) _ fun w H2 d' e2 g2 a2 => ⟨by show 2 ≤ sizeLine; decide, fun T hT => ?_⟩
  subst e1 e2
  have g3 : Go p H2 (upd H2 T (.tup [v, w])) := Go.new hT
  have S3 := ((S.mono g1).mono g2).mono g3
  have b1 := a1.mono S.hsub (g2.trans g3)
  have b2 := a2.mono S.hsub g3
  obtain ⟨h1, h2, h3, vs, h4, h5⟩ := S3.own i xs e
  refine ⟨T, [v, w], rfl, .inl (.inl upd_same), rfl, v, [w], rfl, .ref (ad i), h1, hk ds rfl (fun _ _ => rfl) pn N H0 ad σ _ S3 _ fun kv H4 dk ek g4 a4 => ?_⟩
  subst ek
  cases a4
  have S4 := S3.mono g4
  have e4 : H4 (ad i) = some (.lst vs) := g4.ext _ _ (fun z => h2 (S3.wf.sub _ z)) h4
  have c5 := h5.mono S3.hsub g4
  have S5 := S4.change e (c5.set (i := m) (b1.mono S.hsub g4))
  have hlen : (ds.set i (some (Slot.own (xs.set m d)))).length = ds.length := List.length_set
  have e5 : (ds.set i (some (Slot.own (xs.set m d))))[i]? = some (some (Slot.own (xs.set m d))) := List.getElem?_set_self (List.getElem?_eq_some_iff.mp e).1
  have hh : ∀ b, hid N ad (ds.set i (some (Slot.own (xs.set m d)))) b ↔ hid N ad ds b := fun b => ⟨fun z => z.elim .inl fun ⟨q, zs, ez, r⟩ => by
      rcases get_set ez with ⟨rfl, _, _⟩ | ⟨ne, ez⟩
      · exact .inr ⟨_, xs, e, r⟩
      · exact .inr ⟨q, zs, ez, r⟩, fun z => z.elim .inl fun ⟨q, zs, ez, r⟩ => by
      by_cases w : q = i
      · subst w
        exact .inr ⟨q, _, e5, r⟩
      · exact .inr ⟨q, zs, by rw [List.getElem?_set_ne (Ne.symm w)]; exact ez, r⟩⟩
  have up : ∀ b o, ¬ hid N ad ds b → H4 b = some o → (upd H4 (ad i) (.lst (vs.set m v))) b = some o := fun b o n ez => by
    rw [upd_ne (fun z => n (.inr ⟨i, xs, e, z.symm⟩))]; exact ez
  obtain ⟨k1, k2, k3, us, k4, k5⟩ := S5.own i _ e5
  have eu : us = vs.set m v := by
    have z : (upd H4 (ad i) (.lst (vs.set m v))) (ad i) = some (.lst (vs.set m v)) := upd_same
    rw [z] at k4
    cases k4
    rfl
  subst eu
  refine ⟨ad i, vs, k, m, rfl, rfl, e4, by rw [c5.length]; exact hm, w, [], rfl, .ref (ad i), k1, hl _ hlen (fun r hr => List.getElem?_set_ne (Ne.symm hr)) pn N H0 ad σ _ S5 _ fun lv H6 dl el g6 a6 => ?_⟩
  subst el
  cases a6
  have S6 := S5.mono g6
  have e6 : H6 (ad i) = some (.lst (vs.set m v)) := g6.ext _ _ (fun z => k2 (S5.wf.sub _ z)) upd_same
  have c6 := k5.mono S5.hsub g6
  have b3 : At cls (hid N ad (ds.set i (some (Slot.own (xs.set m d))))) H6 w d' := ((b2.mono S.hsub g4).keep (fun b _ n z => n ((hh b).mp z)) up).mono S5.hsub g6
  have S7 := S6.change e5 (c6.set (i := n) b3)
  refine ⟨ad i, _, l, n, rfl, rfl, e6, by rw [List.length_set, c5.length]; exact hn, rfl, q1 ad σ _ _ kk ?_⟩
  rw [List.set_set] at S7
  exact S7
/-- a.index(x), a a list of whole numbers -/
theorem ev_index {i : Nat} {a : List Int} {x : Int} {j : Nat} (h : Ev cls p ta ds (· = row true a)) (g : Ev cls p tb ds (· = .int x)) (hj : a[j]? = some x) (hb : ∀ m, m < j → a[m]? ≠ some x) : Ev cls p (tBM K "list" (rIndex K) ta (tCons tb tNil)) ds (· = .int j) := fun pn N H0 ad σ H S Q q =>
  h pn N H0 ad σ H S _ fun v H1 d e g1 a1 => by
    subst e
    have a1' := a1
    cases a1 with
    | @lst r ws _ n rr at_ =>
      refine ⟨.inl ⟨rfl, _, .inl (.inl rr)⟩, (ea1 g) pn N H0 ad σ H1 (S.mono g1) _ fun vs H2 ys ⟨y, ey, el⟩ g2 a2 => ?_⟩
      subst ey el
      cases a2 with
      | cons c b =>
        cases b
        cases c
        cases a1'.mono S.hsub g2 with
        | @lst _ us _ n2 r2 at2 =>
          have eu : us = a.map V.int := by
            have gen : ∀ (a : List Int) (ws : List V), AtAll cls (hid N ad ds) H2 ws (a.map D.int) → ws = a.map V.int := by
              intro a
              induction a with
              | nil => intro ws z; cases z; rfl
              | cons i a ih => intro ws z; cases z with | cons u v => cases u; rw [ih _ v]; rfl
            exact gen a us at2
          subst eu
          refine ⟨r, a.map V.int, .int x, j, .int x, rfl, rfl, .inl (.inl r2), rfl, ?_, ?_, ?_, fun m z hm hz => ?_, q _ H2 _ rfl (g1.trans g2) (.int _)⟩
          · rw [List.all_map]; exact List.all_eq_true.mpr fun _ _ => rfl
          · rw [List.getElem?_map, hj]; rfl
          · show (x == x) = true; exact beq_self_eq_true x
          · rw [List.getElem?_map] at hz
            cases w : a[m]? with
            | none => rw [w] at hz; cases hz
            | some u =>
              rw [w] at hz
              cases hz
              show (u == x) = false
              exact beq_eq_false_iff_ne.mpr fun z => hb m hm (by rw [w, z])
end
theorem kIndex {X : Cx} {K : PySem.W.Frag} (h : X.K = K) : MtR X "list.index" (rIndex K) := by subst h; exact mt_index
theorem pe_bmK {X : Cx} {K : PySem.W.Frag} {e : Expr} {T : String} {r : V → List V → Hp → VK → Prop} {to : TE} {t : TA} (h : X.K = K) (b : PE X e (tBM X.K T r to t)) : PE X e (tBM K T r to t) := by subst h; exact b
section
variable {cls : Cl} {p : Addr → Prop} {ds : Sts} {tl tr : TE} {K : PySem.W.Frag} {r2 : R2}
/-- whole numbers, truths, data compared where objects may be, too -/
theorem et_neIC {i : Int} (h : Ev cls p tl ds (· = .int i)) (k : Ev cls p tr ds (· = .int i)) : ET cls p (tTest (tOp (rOr (rOr rNe (rNeD K)) r2) tl tr)) ds (· = false) := by
  refine (et_test (ev_op h k (rv_l (rv_l (rv_neI intP intP)))) blP_S).mono ?_
  rintro b ⟨x, y, hx, hy, e⟩
  have e1 := D.int.inj hx
  have e2 := D.int.inj hy
  rw [D.bl.inj e, e1, e2]
  show (!decide (i = i)) = false
  rw [decide_eq_true rfl]
  rfl
theorem et_neDC {d : D} {n : Nat} (h : Ev cls p tl ds (· = d)) (k : Ev cls p tr ds (· = d)) (hn : n ≤ 64) (ho : okD n d = true) : ET cls p (tTest (tOp (rOr (rOr rNe (rNeD K)) r2) tl tr)) ds (· = false) := by
  refine (et_test (ev_op h k (rv_l (rv_r (rv_neD fun dx dy hx hy => ⟨n, hn, by rw [hx]; exact ho, by rw [hy]; exact ho⟩)))) (fun d ⟨_, _, _, _, e⟩ => ⟨_, e⟩)).mono ?_
  rintro b ⟨x, y, hx, hy, e⟩
  rw [D.bl.inj e, hx, hy, SeqAt.eqv_refl _ (okD_can n d ho).1]
  rfl
end
end Lk

namespace Lk
open PySem PySem.Spec PyProof.Rows L2

/-! ### xs[::-1] -/
def tRev (K : PySem.W.Frag) (te : TE) (tl th ts : TO) : TE := fun σ H Q => te σ H fun x H1 => tl σ H1 fun l H2 => th σ H2 fun u H3 => ts σ H3 fun st H4 =>
  l = none ∧ u = none ∧ st = some (-1) ∧ ∃ a xs, x = .ref a ∧ SqL K H4 a xs ∧ ∀ p, H4 p = none → Q (.ref p) (upd H4 p (.lst xs.reverse))
theorem pe_rev {X : Cx} {K : PySem.W.Frag} {e se : Expr} {lo hi : Option Expr} {p2 pos : Pos} {te : TE} {tl th ts : TO} (hK : X.K = K) (he : PE X e te) (hl : PO X lo tl) (hu : PO X hi th) (hs : PO X (some se) ts) :
    PE X (.Subscript e (.Slice lo hi (some se) p2) pos) (tRev K te tl th ts) := by
  subst hK
  refine ⟨fun pins s σ H Q I h => ?_⟩
  refine Subscript_ (thn (he.run pins s σ H _ I h) fun v s1 ⟨x, H1, I1, r1, q1⟩ => ?_)
  refine wpAny_Slice (thn (hl.run pins s1 σ H1 _ I1 q1) fun vl s2 ⟨l, H2, I2, pl, q2⟩ => thn (hu.run pins s2 σ H2 _ I2 q2) fun vu s3 ⟨u, H3, I3, pu, q3⟩ => thn (hs.run pins s3 σ H3 _ I3 q3) fun vs s4 ⟨st, H4, I4, ps, q4⟩ => ?_)
  obtain ⟨rfl, rfl, rfl, a, xs, rfl, hx, q⟩ := q4
  cases r1
  have I5 : Inv X pins σ H4 { s4 with heap := s4.heap.push { cls := .type "slice", data := .fields #[vl, vu, vs] } } := I4.kept (t' := s4.toks) fun b ob q => Heap.get?_push_of_some _ q
  obtain ⟨its, r, ht, hz⟩ := I5.list hx
  have hlen := r.length
  show wpAny (model X.prog X.w) X.A (subscriptTail e (.Slice lo hi (some se) p2) (.ref a) (.ref s4.heap.objs.size)) (EP X pins σ Q) X.xe { s4 with heap := s4.heap.push { cls := .type "slice", data := .fields #[vl, vu, vs] } }
  refine tail_any (T := "list") (ops := [.ref a, .ref s4.heap.objs.size]) ht.isList.typeIs slot_list_getitem.lookup ?_ (by with_unfolding_all rfl)
  refine wpAny_getItem_list_slice ht.isList (Heap.IsSliceOf.new ..) pl pu ps (by decide) ?_ (by rw [List.size_toArray] <;> omega)
  rw [PySem.W.krv_pick]
  refine ⟨.ref _, _, I5.laid (t' := s4.toks) (o := .lst xs.reverse) (fun b ob q => Heap.get?_push_of_some _ q) (Nat.le_refl _) ?_, rfl, q _ (I5.hok.fresh (Nat.le_refl _))⟩
  exact ⟨by rw [List.length_reverse]; exact hz, _, 0, r.reverse, Heap.get?_push_size _ rfl⟩

/-! ### data with dicts as the library's data -/
def keyE : Key → Bool
  | .inl i => decide (i.natAbs < 2 ^ 1900)
  | .inr x => decide ((reprText x).length ≤ 30000)
/-- no objects, at most n deep, numbers of some five hundred digits at most -/
def shE : Nat → D → Bool
  | _, .non => true
  | _, .bl _ => true
  | _, .int i => decide (i.natAbs < 2 ^ 1900)
  | _, .str x => decide ((reprText x).length ≤ 30000)
  | n + 1, .lst xs => xs.all (shE n)
  | n + 1, .tup xs => xs.all (shE n)
  | n + 1, .dk ks ds => ks.all keyE && ds.all (shE n)
  | _, _ => false
def szE : Nat → D → Nat
  | n + 1, .lst xs => 4 + (xs.map fun x => szE n x + 2).sum
  | n + 1, .tup xs => 4 + (xs.map fun x => szE n x + 2).sum
  | n + 1, .dk _ ds => 4 + (ds.map fun x => szE n x + 30004).sum
  | _, _ => 30000
theorem dictText_le (ts : List Str) : (dictText ts).length ≤ 4 + piled ts := by
  unfold dictText
  rw [strLen_append, strLen_append]
  have e1 : (("{" : String) : Str).length = 1 := rfl
  have e2 : (("}" : String) : Str).length = 1 := rfl
  rw [e1, e2]
  by_cases h : ts = []
  · subst h
    have e4 : (Str.join ", " []).length = 0 := rfl
    omega
  · have := join_length_add ts h
    omega
theorem int_show (i : Int) (hi : i.natAbs < 2 ^ 1900) : (PyData.int i).showable = true ∧ (toString i : Str).length ≤ 2000 := by
  have l : i.natAbs.log2 < 1900 := PySem.Flt.log2_lt_of (by decide) hi
  refine ⟨by unfold PyData.showable; exact decide_eq_true (by omega), ?_⟩
  have h2 := int_text_length_le (a := i) (by decide) l
  have e : (toString i : Str).length = (toString i).length := PySem.ofString_length _
  rw [e]
  omega
theorem key_show : ∀ (k : Key), keyE k = true → (keyP k).showable = true ∧ (keyP k).depth = 0 ∧ (keyP k).shown.length ≤ 30000
  | .inl i, h => by
    obtain ⟨a, b⟩ := int_show i (of_decide_eq_true h)
    exact ⟨a, rfl, by show (toString i : Str).length ≤ 30000; omega⟩
  | .inr x, h => ⟨rfl, rfl, of_decide_eq_true h⟩
theorem shE_show : ∀ (n : Nat) (d : D), shE n d = true → (py d).showable = true ∧ (py d).depth ≤ n ∧ (py d).shown.length ≤ szE n d := by
  have all : ∀ (n : Nat), (∀ d : D, shE n d = true → (py d).showable = true ∧ (py d).depth ≤ n ∧ (py d).shown.length ≤ szE n d) → ∀ xs : List D, xs.all (shE n) = true →
      PyData.showableAll (pyAll xs) = true ∧ PyData.depthAll (pyAll xs) ≤ n ∧ piled (PyData.shownAll (pyAll xs)) ≤ (xs.map fun x => szE n x + 2).sum := by
    intro n ih xs
    induction xs with
    | nil => intro _; exact ⟨rfl, Nat.zero_le _, Nat.le_refl _⟩
    | cons x xs ihx =>
      intro h
      rw [List.all_cons, Bool.and_eq_true] at h
      obtain ⟨a1, a3, a4⟩ := ih x h.1
      obtain ⟨b1, b3, b4⟩ := ihx h.2
      unfold pyAll PyData.showableAll PyData.depthAll PyData.shownAll
      refine ⟨by rw [a1, b1]; rfl, by omega, ?_⟩
      rw [piled_cons, List.map_cons, List.sum_cons]
      omega
  have kv : ∀ (n : Nat), (∀ d : D, shE n d = true → (py d).showable = true ∧ (py d).depth ≤ n ∧ (py d).shown.length ≤ szE n d) → ∀ (ks : List Key) (xs : List D), ks.all keyE = true → xs.all (shE n) = true →
      PyData.showableKv ((ks.map keyP).zip (pyAll xs)) = true ∧ PyData.depthKv ((ks.map keyP).zip (pyAll xs)) ≤ n ∧ piled (PyData.shownKv ((ks.map keyP).zip (pyAll xs))) ≤ (xs.map fun x => szE n x + 30004).sum := by
    intro n ih ks
    induction ks with
    | nil => intro xs _ _; exact ⟨rfl, Nat.zero_le _, Nat.zero_le _⟩
    | cons k ks ihk =>
      intro xs hk h
      cases xs with
      | nil => exact ⟨rfl, Nat.zero_le _, Nat.zero_le _⟩
      | cons x xs =>
        rw [List.all_cons, Bool.and_eq_true] at h hk
        obtain ⟨a1, a3, a4⟩ := ih x h.1
        obtain ⟨b1, b3, b4⟩ := ihk xs hk.2 h.2
        obtain ⟨c1, c3, c4⟩ := key_show k hk.1
        rw [List.map_cons]
        unfold pyAll
        rw [List.zip_cons_cons]
        unfold PyData.showableKv PyData.depthKv PyData.shownKv
        refine ⟨by rw [a1, b1, c1]; rfl, by omega, ?_⟩
        rw [piled_cons, List.map_cons, List.sum_cons, strLen_append, strLen_append]
        have e : ((": " : String) : Str).length = 2 := rfl
        rw [e]
        omega
  have leaf : ∀ (n : Nat) (d : D), (d = .non ∨ (∃ b, d = .bl b) ∨ (∃ i, d = .int i ∧ i.natAbs < 2 ^ 1900) ∨ ∃ x, d = .str x ∧ (reprText x).length ≤ 30000) → (py d).showable = true ∧ (py d).depth ≤ n ∧ (py d).shown.length ≤ 30000 := by
    rintro n d (rfl | ⟨b, rfl⟩ | ⟨i, rfl, hi⟩ | ⟨x, rfl, hx⟩)
    · exact ⟨rfl, Nat.zero_le _, by show (("None" : String) : Str).length ≤ 30000; decide⟩
    · cases b <;> exact ⟨rfl, Nat.zero_le _, by first | (show (("True" : String) : Str).length ≤ 30000; decide) | (show (("False" : String) : Str).length ≤ 30000; decide)⟩
    · obtain ⟨a, b⟩ := int_show i hi
      exact ⟨a, Nat.zero_le _, by show (toString i : Str).length ≤ 30000; omega⟩
    · exact ⟨rfl, Nat.zero_le _, hx⟩
  intro n
  induction n with
  | zero =>
    intro d h
    cases d with
    | non => exact leaf 0 _ (.inl rfl)
    | bl b => exact leaf 0 _ (.inr (.inl ⟨b, rfl⟩))
    | int i => exact leaf 0 _ (.inr (.inr (.inl ⟨i, rfl, of_decide_eq_true h⟩)))
    | str x => exact leaf 0 _ (.inr (.inr (.inr ⟨x, rfl, of_decide_eq_true h⟩)))
    | _ => cases h
  | succ n ih =>
    intro d h
    cases d with
    | non => exact leaf (n + 1) _ (.inl rfl)
    | bl b => exact leaf (n + 1) _ (.inr (.inl ⟨b, rfl⟩))
    | int i => exact leaf (n + 1) _ (.inr (.inr (.inl ⟨i, rfl, of_decide_eq_true h⟩)))
    | str x => exact leaf (n + 1) _ (.inr (.inr (.inr ⟨x, rfl, of_decide_eq_true h⟩)))
    | lst xs =>
      obtain ⟨a, c, e⟩ := all n ih xs h
      refine ⟨by unfold py PyData.showable; exact a, by unfold py PyData.depth; omega, ?_⟩
      have := listText_le (PyData.shownAll (pyAll xs))
      unfold py PyData.shown szE
      omega
    | tup xs =>
      obtain ⟨a, c, e⟩ := all n ih xs h
      refine ⟨by unfold py PyData.showable; exact a, by unfold py PyData.depth; omega, ?_⟩
      have := tupleText_le (PyData.shownAll (pyAll xs))
      unfold py PyData.shown szE
      omega
    | dk ks xs =>
      have h : (ks.all keyE && xs.all (shE n)) = true := h
      rw [Bool.and_eq_true] at h
      obtain ⟨a, c, e⟩ := kv n ih ks xs h.1 h.2
      refine ⟨by unfold py PyData.showable; exact a, by unfold py PyData.depth; omega, ?_⟩
      have := dictText_le (PyData.shownKv ((ks.map keyP).zip (pyAll xs)))
      unfold py PyData.shown szE
      omega
    | _ => cases h

/-- no list is in it -/
def noL : Nat → D → Bool
  | _, .lst _ => false
  | n + 1, .tup xs => xs.all (noL n)
  | n + 1, .dk _ xs => xs.all (noL n)
  | _, _ => true
section
variable {X : Cx} {pins : List (Addr × Obj)} {σ : L2.St} {H : Hp} {s : Shared} {cls : Cl} {N : Addr → Prop}
theorem kv_reads (I : Inv X pins σ H s) {n : Nat} (ih : ∀ (d : D) (v : V) (u : Value), shE n d = true → At cls N H v d → RelV v u → ∃ as, Reads s.heap u (py d) as ∧ (noL n d = true → sysModules ∉ as)) :
    ∀ (ks : List Key) (vals : List V) (xs : List D) (vs : List (Key × Value)) (es : List DictEntry), ks.length = vals.length → AtAll cls N H vals xs → xs.all (shE n) = true → KV (ks.zip vals) vs → Pairs (mixKind X.prog X.w) es vs →
    ∃ as bs, ReadsAll s.heap (es.map (·.key)) (((ks.map keyP).zip (pyAll xs)).map (·.1)) as ∧ ReadsAll s.heap (es.map (·.val)) (((ks.map keyP).zip (pyAll xs)).map (·.2)) bs ∧ sysModules ∉ as ∧ (xs.all (noL n) = true → sysModules ∉ bs) := by
  intro ks
  induction ks with
  | nil =>
    intro vals xs vs es hl ha hs kv pr
    cases kv
    cases pr
    exact ⟨[], [], .nil, .nil, List.not_mem_nil, fun _ => List.not_mem_nil⟩
  | cons k ks ihk =>
    intro vals xs vs es hl ha hs kv pr
    cases ha with
    | nil => cases hl
    | @cons v vals d xs a1 a2 =>
      rw [List.zip_cons_cons] at kv
      cases kv with
      | @cons _ q _ qs hq kv =>
        cases pr with
        | @cons e _ es _ h1 h2 pr =>
          rw [List.all_cons, Bool.and_eq_true] at hs
          obtain ⟨as, bs, r1, r2, n1, n2⟩ := ihk vals xs qs es (Nat.succ.inj hl) a2 hs.2 kv pr
          obtain ⟨cs, r3, n3⟩ := ih d v q.2 hs.1 a1 hq.2
          have rk : Reads s.heap e.key (keyP k) [] := by
            have hk : k = q.1 := hq.1
            rcases keyIs_shape (show keyIs q.1 e.key = true from h1) with ⟨i, t, e1, e2⟩ | ⟨x, t, e1, e2⟩
            · rw [hk, e1, e2]; exact Reads.int i t
            · rw [hk, e1, e2]; exact Reads.str x t
          rw [← h2] at r3
          refine ⟨[] ++ as, cs ++ bs, ?_, ?_, ?_, ?_⟩
          · rw [List.map_cons, List.map_cons]
            exact .cons rk r1
          · rw [List.map_cons, List.map_cons]
            unfold pyAll
            exact .cons r3 r2
          · exact n1
          · intro hn
            rw [List.all_cons, Bool.and_eq_true] at hn
            rw [List.mem_append]
            rintro (z | z)
            · exact n3 hn.1 z
            · exact n2 hn.2 z
theorem at_reads (I : Inv X pins σ H s) : ∀ (n : Nat) (d : D) (v : V) (u : Value), shE n d = true → At cls N H v d → RelV v u → ∃ as, Reads s.heap u (py d) as ∧ (noL n d = true → sysModules ∉ as) := by
  have all : ∀ (n : Nat), (∀ (d : D) (v : V) (u : Value), shE n d = true → At cls N H v d → RelV v u → ∃ as, Reads s.heap u (py d) as ∧ (noL n d = true → sysModules ∉ as)) →
      ∀ (xs : List D) (vs : List V) (us : List Value), xs.all (shE n) = true → AtAll cls N H vs xs → Vals vs us → ∃ as, ReadsAll s.heap us (pyAll xs) as ∧ (xs.all (noL n) = true → sysModules ∉ as) := by
    intro n ih xs
    induction xs with
    | nil => intro vs us _ a r; cases a; cases r; exact ⟨[], .nil, fun _ => List.not_mem_nil⟩
    | cons x xs ihx =>
      intro vs us h a r
      rw [List.all_cons, Bool.and_eq_true] at h
      cases a with
      | cons a1 a2 =>
        cases r with
        | cons r1 r2 =>
          obtain ⟨as, q1, n1⟩ := ih x _ _ h.1 a1 r1
          obtain ⟨bs, q2, n2⟩ := ihx _ _ h.2 a2 r2
          refine ⟨as ++ bs, .cons q1 q2, fun hn => ?_⟩
          rw [List.all_cons, Bool.and_eq_true] at hn
          rw [List.mem_append]
          rintro (z | z)
          · exact n1 hn.1 z
          · exact n2 hn.2 z
  intro n
  induction n with
  | zero =>
    intro d v u h a r
    cases a with
    | non => cases r; exact ⟨_, Reads.none, fun _ => List.not_mem_nil⟩
    | bl b => cases r; exact ⟨_, Reads.bool b, fun _ => List.not_mem_nil⟩
    | int i => obtain ⟨t, rfl⟩ := r; exact ⟨_, Reads.int i t, fun _ => List.not_mem_nil⟩
    | str x => obtain ⟨t, rfl⟩ := r; exact ⟨_, Reads.str x t, fun _ => List.not_mem_nil⟩
    | _ => cases h
  | succ n ih =>
    intro d v u h a r
    cases a with
    | non => cases r; exact ⟨_, Reads.none, fun _ => List.not_mem_nil⟩
    | bl b => cases r; exact ⟨_, Reads.bool b, fun _ => List.not_mem_nil⟩
    | int i => obtain ⟨t, rfl⟩ := r; exact ⟨_, Reads.int i t, fun _ => List.not_mem_nil⟩
    | str x => obtain ⟨t, rfl⟩ := r; exact ⟨_, Reads.str x t, fun _ => List.not_mem_nil⟩
    | @lst a vs ds nn e hh =>
      cases r
      obtain ⟨its, rv, ⟨o, k, ho, hc, _, hd⟩, _⟩ := I.list (show SqL X.K H a vs from .inl (.inl e))
      obtain ⟨as, q, ns⟩ := all n ih _ _ _ h hh rv
      exact ⟨a :: as, Reads.list ho hc hd q, fun z => nomatch z⟩
    | @tup a vs ds nn e hh =>
      cases r
      obtain ⟨its, rv, ⟨o, ho, hc, k, hd⟩, _⟩ := I.tuple (show SqT X.K H a vs from .inl (.inl e))
      obtain ⟨as, q, ns⟩ := all n ih _ _ _ h hh rv
      exact ⟨as, Reads.tuple ho hc hd q, ns⟩
    | @dk a ks vs ds nn e hl hh =>
      cases r
      have h : (ks.all keyE && ds.all (shE n)) = true := h
      rw [Bool.and_eq_true] at h
      obtain ⟨hz, hsys, us, kv, o, es, ep, ho, ex, hd, _, pr, _⟩ := dk_of I.hok e
      obtain ⟨as, bs, r1, r2, n1, n2⟩ := kv_reads I ih ks vs ds us es.toList hl hh h.2 kv pr
      refine ⟨a :: as ++ bs, Reads.dict ho ex.1 hd r1 r2, fun hn => ?_⟩
      rw [List.mem_append, List.mem_cons]
      rintro ((z | z) | z)
      · exact beq_eq_false_iff_ne.mp hsys z.symm
      · exact n1 z
      · exact n2 hn z
    | _ => cases h
end

/-! ### repr of such data -/
def keysB : ∀ ks : List Key, PyData.hasDictAll (ks.map keyP) = false
  | [] => rfl
  | .inl _ :: ks => by rw [List.map_cons]; unfold PyData.hasDictAll; rw [keysB ks]; rfl
  | .inr _ :: ks => by rw [List.map_cons]; unfold PyData.hasDictAll; rw [keysB ks]; rfl
theorem dictAll_take : ∀ (n : Nat) (ds : List PyData), PyData.hasDictAll ds = false → PyData.hasDictAll (ds.take n) = false
  | 0, _, _ => rfl
  | _ + 1, [], _ => rfl
  | n + 1, d :: ds, h => by
    unfold PyData.hasDictAll at h
    rw [Bool.or_eq_false_iff] at h
    rw [List.take_succ_cons]
    unfold PyData.hasDictAll
    rw [h.1, dictAll_take n ds h.2]
    rfl
theorem fst_zip : ∀ (as bs : List PyData), (as.zip bs).map (·.1) = as.take bs.length
  | [], _ => by rw [List.zip_nil_left, List.take_nil]; rfl
  | _ :: _, [] => rfl
  | a :: as, b :: bs => by rw [List.zip_cons_cons, List.map_cons, List.length_cons, List.take_succ_cons, fst_zip as bs]
theorem snd_zip : ∀ (as bs : List PyData), (as.zip bs).map (·.2) = bs.take as.length
  | [], bs => rfl
  | _ :: _, [] => rfl
  | a :: as, b :: bs => by rw [List.zip_cons_cons, List.map_cons, List.length_cons, List.take_succ_cons, snd_zip as bs]
/-- a dict is shown in which no further dict is -/
theorem repr_flat {P : Program} {w : World} {A : Around} {E : Value → Shared → Prop} {s : Shared} {Q : Value → Shared → Prop} {a : Addr} {o : Obj} {es : Array DictEntry} {n : Nat} {kvs : List (PyData × PyData)} {as bs : List Addr}
    (h1 : s.heap.get? a = some o) (h2 : o.cls = .type "dict") (h3 : o.data = .dict es n) (h4 : ReadsAll s.heap (es.toList.map (·.key)) (kvs.map (·.1)) as) (h5 : ReadsAll s.heap (es.toList.map (·.val)) (kvs.map (·.2)) bs)
    (hsys : (a == sysModules) = false) (hs : PyData.showableKv kvs = true) (d1 : PyData.hasDictAll (kvs.map (·.1)) = false) (d2 : PyData.hasDictAll (kvs.map (·.2)) = false) (hg : A.guards = some []) (hu : A.units + (PyData.depthKv kvs + 3) < cLine)
    (hQ : ∀ h' u tk, (∀ b o, s.heap.get? b = some o → h'.get? b = some o) → Q (.str (dictText (PyData.shownKv kvs)) u) { s with heap := h', toks := tk }) (hz : (dictText (PyData.shownKv kvs)).length ≤ sizeLine) :
    wpAny (model P w) A (call (.builtin "repr") [.ref a]) Q E s := by
  obtain ⟨s1, s2⟩ := PyData.showableKv_split kvs hs
  obtain ⟨b1, hb1, k1⟩ := ReprAllK.of_readsAll (prog := P) (w := w) h4 s1 (fun z => by rw [d1] at z; cases z) (fun t ht => let ⟨q, hq, hl⟩ := PyData.shownKv_key_le kvs t ht; Nat.le_trans hl (Nat.le_trans (dictText_mem_le hq) hz))
  obtain ⟨b2, hb2, k2⟩ := ReprAllK.of_readsAll (prog := P) (w := w) h5 s2 (fun z => by rw [d2] at z; cases z) (fun t ht => let ⟨q, hq, hl⟩ := PyData.shownKv_val_le kvs t ht; Nat.le_trans hl (Nat.le_trans (dictText_mem_le hq) hz))
  have low := (hb1.mono (PyData.depthAll_keys_le kvs)).append (hb2.mono (PyData.depthAll_vals_le kvs))
  have out : a ∉ b1 ++ b2 := not_mem_of_deeper (.dict h1 h2 h3 h4 h5) (by unfold PyData.depth; omega) low
  refine call_repr_slot (by omega) (show s.TypeIs (.ref a) "dict" from ⟨o, h1, h2⟩) F.slot_dict_repr ?_
  have each := ReprEntriesK.of_two es.toList _ _ (k1.more_le (fun b hb => List.mem_append_left b2 hb) (PyData.depthAll_keys_le kvs)) (k2.more_le (fun b hb => List.mem_append_right b1 hb) (PyData.depthAll_vals_le kvs))
  rw [← PyData.shownKv_eq] at each
  exact call_dict_reprK h1 h2 h3 hsys out each hg (fun b _ => Clear.nil b) (show A.units + 1 + (PyData.depthKv kvs + 1) < cLine by omega) (fun _ _ e => e) (fun h' u tk hk => ⟨_, _, rfl, hQ h' u tk hk⟩) hz
def rShE (cls : Cl) : List V → Hp → VK → Prop := fun vs H Q => ∃ (N : Addr → Prop) (v : V) (d : D) (n : Nat), vs = [v] ∧ At cls N H v d ∧ shE n d = true ∧ n ≤ 20 ∧ szE n d ≤ 10000000 ∧
  ((py d).hasDict = false ∨ noL n d = true ∨ ∃ ks xs, d = .dk ks xs ∧ PyData.hasDictAll (pyAll xs) = false) ∧ Q (.str (py d).shown) H
theorem kShE {X : Cx} (cls : Cl) (hg : X.A.guards = some []) (hu : X.A.units + 64 < cLine) : CallR X (.builtin "repr") (rShE cls) := by
  intro pins s σ H xs us Q I r h
  obtain ⟨N, v, d, n, rfl, at_, h1, h2, h3, hc, q⟩ := h
  obtain ⟨u, rfl, ru⟩ := L2.vals1 r
  obtain ⟨as, rd, ns⟩ := at_reads I n d v u h1 at_ ru
  obtain ⟨s1, s2, s3⟩ := shE_show n d h1
  have h4 : (py d).shown.length ≤ sizeLine := Nat.le_trans (Nat.le_trans s3 h3) (by decide)
  have go : ((py d).hasDict = false ∨ noL n d = true) → ∀ a, u = .ref a → wpAny (model X.prog X.w) X.A (call (.builtin "repr") [u]) (EP X pins σ Q) X.xe s := by
    rintro hc a rfl
    exact repr_of_reads' rd s1 (fun z => by rcases hc with hc | hc; (rw [hc] at z; cases z); exact ns hc) hg (by omega) (fun _ _ e => e) (fun h' u tk k => ⟨.str _, H, I.kept k, ⟨_, rfl⟩, q⟩) h4
  cases at_ with
  | non => cases ru; exact PySem.P.repr_of_none ⟨.str _, H, I.tok _, ⟨_, rfl⟩, q⟩
  | bl b => cases ru; exact PySem.P.repr_of_bool ⟨.str _, H, I.tok _, ⟨_, rfl⟩, q⟩
  | int i =>
    obtain ⟨t, rfl⟩ := ru
    exact PySem.P.repr_of_int (of_decide_eq_true s1) ⟨.str _, H, I.tok _, ⟨_, rfl⟩, q⟩
  | str x =>
    obtain ⟨t, rfl⟩ := ru
    exact PySem.P.repr_of_str ⟨.str _, H, I.tok _, ⟨_, rfl⟩, q⟩ h4
  | ty _ => cases n <;> cases h1
  | @dk a ks vs xs nn e hl hh =>
    cases ru
    rcases hc with hc | hc | ⟨_, _, e2, hc⟩
    · exact go (.inl hc) _ rfl
    · exact go (.inr hc) _ rfl
    · cases e2
      cases n with
      | zero => cases h1
      | succ n =>
        have h1 : (ks.all keyE && xs.all (shE n)) = true := h1
        rw [Bool.and_eq_true] at h1
        obtain ⟨hz, hsys, us, kv, o, es, ep, ho, ex, hd, _, pr, _⟩ := dk_of I.hok e
        obtain ⟨as, bs, r1, r2, _, _⟩ := kv_reads I (at_reads I n) ks vs xs us es.toList hl hh h1.2 kv pr
        have dp : PyData.depthKv ((ks.map keyP).zip (pyAll xs)) + 1 ≤ n + 1 := by unfold py PyData.depth at s2; exact s2
        unfold py PyData.showable at s1
        unfold py PyData.shown at h4
        refine repr_flat ho ex.1 hd r1 r2 hsys s1 (by rw [fst_zip]; exact dictAll_take _ _ (keysB ks)) (by rw [snd_zip]; exact dictAll_take _ _ hc) hg (by omega) (fun h' u tk k => ⟨.str _, H, I.kept k, ⟨_, rfl⟩, ?_⟩) h4
        unfold py PyData.shown at q
        exact q
  | _ => cases ru; exact go (by rcases hc with hc | hc | ⟨_, _, e2, hc⟩; (exact .inl hc); (exact .inr hc); cases e2) _ rfl

section
variable {cls : Cl} {p : Addr → Prop} {ds ds' : Sts} {ta tb tc te tk tv : TE} {P PX PY PZ : D → Prop} {t : TA} {K : PySem.W.Frag}
theorem AtAll.rev {N : Addr → Prop} {H : Hp} : ∀ {vs : List V} {xs : List D}, AtAll cls N H vs xs → AtAll cls N H vs.reverse xs.reverse
  | _, [], .nil => .nil
  | _, _ :: _, .cons a t => by
    rw [List.reverse_cons, List.reverse_cons]
    exact (AtAll.rev t).append (.cons a .nil)
theorem ev_shE {d : D} {n : Nat} (h : Ev cls p te ds (· = d)) (hn : n ≤ 20) (hs : shE n d = true) (hz : szE n d ≤ 10000000) (hc : (py d).hasDict = false ∨ noL n d = true ∨ ∃ ks xs, d = .dk ks xs ∧ PyData.hasDictAll (pyAll xs) = false) : Ev cls p (tCB (rShE cls) (tCons te tNil)) ds (· = .str (py d).shown) :=
  ev_cb (ea1 h) fun N H vs xs W a ⟨x, ex, e⟩ Q q => by
    subst e
    subst ex
    cases a with
    | cons a b =>
      cases b
      exact ⟨N, _, _, n, rfl, a, hs, hn, hz, hc, q _ H _ rfl (Go.refl H) (.str _)⟩
theorem ev_rev {xs : List D} {tl th ts : TO} (h : Ev cls p te ds (· = .lst xs)) (hl : EvO cls p tl ds (· = none)) (hh : EvO cls p th ds (· = none)) (hs : EvO cls p ts ds (· = some (-1))) :
    Ev cls p (tRev K te tl th ts) ds (· = .lst xs.reverse) := fun pn N H0 ad σ H S Q q =>
  h pn N H0 ad σ H S _ fun x H1 d pd g1 a1 => hl pn N H0 ad σ H1 (S.mono g1) _ fun l H2 pl g2 => hh pn N H0 ad σ H2 (S.mono (g1.trans g2)) _ fun u H3 pu g3 => hs pn N H0 ad σ H3 (S.mono ((g1.trans g2).trans g3)) _ fun st H4 ps g4 => by
    subst pd
    have g := ((g1.trans g2).trans g3).trans g4
    have S4 := S.mono g
    have a4 := a1.mono S.hsub ((g2.trans g3).trans g4)
    cases a4 with
    | @lst a vs _ nn e hh =>
      refine ⟨pl, pu, ps, a, vs, rfl, .inl (.inl e), fun l hl => q _ _ _ rfl (g.trans (Go.new hl)) (.lst (fresh_hid S4.hwf hl) upd_same (AtAll.mono ?_ S4.hsub (Go.new hl)))⟩
      exact AtAll.rev hh
def rStr : List V → Hp → VK → Prop := fun xs H Q => ∃ i, xs = [V.int i] ∧ i.natAbs.log2 < 1920 ∧ Q (.str (toString i)) H
theorem kStr {X : Cx} : CallR X (.type "str") rStr := call_str_int
theorem ev_strI {i : Int} (h : Ev cls p te ds (· = .int i)) (hi : i.natAbs < 2 ^ 1900) : Ev cls p (tCB rStr (tCons te tNil)) ds (· = .str (toString i)) :=
  ev_cb (ea1 h) fun N H vs xs W a ⟨x, ex, e⟩ Q q => by
    subst e
    subst ex
    cases a with
    | cons a b =>
      cases b
      cases a
      exact ⟨i, rfl, Nat.lt_trans (PySem.Flt.log2_lt_of (by decide) hi) (by decide), q _ H _ rfl (Go.refl H) (.str _)⟩
theorem pe_disp1 {X : Cx} {pos : Pos} {k v : Expr} (hk : PE X k tk) (hv : PE X v tv) : PE X (.Dict [some k] [v] pos) (tDisp [(tk, tv)]) :=
  pe_disp (pps_cons hk hv pps_nil) (by rfl) (by rfl) (fun z => by cases z) (show 1 ≤ 15 by decide)
theorem ev_disp1 {i : Int} {d : D} (hk : Ev cls p tk ds (· = .int i)) (hv : Ev cls p tv ds (· = d)) : Ev cls p (tDisp [(tk, tv)]) ds (· = .dk [.inl i] [d]) := fun pn N H0 ad σ H S Q q => fun l hl => by
  have S1 := S.lay (o := .dK []) hl
  have npl : ¬ p l := fun z => (S.wf.pot l z).some hl
  refine hk pn _ H0 ad σ _ S1 _ fun x H1 dx px g1 a1 => ?_
  refine hv pn _ H0 ad σ H1 (S1.mono g1) _ fun y H2 dy py g2 a2 => ?_
  subst px
  subst py
  cases a1
  have e2 : H2 l = some (.dK []) := g2.ext l _ npl (g1.ext l _ npl upd_same)
  show H2 l = some (.dK []) ∧ _
  refine ⟨e2, [(.inl i, y)], rfl, (show 1 ≤ 15 by decide), q _ _ _ rfl (Go.chg (H1 := H) ((Go.new hl).trans (g1.trans g2)) hl fun a pa => (S.wf.pot a pa).some) ?_⟩
  refine .dk (vs := [y]) (fresh_hid S.hwf hl) upd_same rfl (.cons (a2.keep (fun a _ n z => n ?_) fun a o n e => ?_) .nil)
  · rcases z with z | z
    · exact .inl (.inl z)
    · exact .inr z
  · rw [upd_ne (fun z => n (.inl (.inr z)))]; exact e
end
end Lk

namespace Lk
open PySem PySem.Spec PyProof.Rows L2

/-! ### texts put together; i == j == k -/
def rTxt : R2 := fun v w H Q => ∃ a b, v = .str a ∧ w = .str b ∧ a.length + b.length ≤ sizeLine ∧ Q (.str (a ++ b)) H
theorem opAddS {X : Cx} : OpR X (binaryOp .Add) rTxt := op_add_str
section
variable {cls : Cl} {p : Addr → Prop} {ds ds' : Sts} {ta tb tc te : TE} {P PX PY PZ : D → Prop} {t : TA} {tt : TT} {B : Bool → Prop} {K : PySem.W.Frag} {ts : TS} {nx bk ct : Sts → Prop} {rt : D → Prop}
theorem ev_txt {a b : Str} (h : Ev cls p ta ds (· = .str a)) (k : Ev cls p tb ds (· = .str b)) (hz : a.length + b.length ≤ 1000000) : Ev cls p (tOp rTxt ta tb) ds (· = .str (a ++ b)) :=
  (ev_op (P := (· = .str (a ++ b))) h k fun N H x y dx dy W ax ay px py Q q => by
    subst px py
    cases ax; cases ay
    exact ⟨a, b, rfl, rfl, Nat.le_trans hz (by decide), q _ H _ rfl (Go.refl H) (.str _)⟩)
theorem ev_chEq {i j k : Int} (ha : Ev cls p ta ds (· = .int i)) (hb : Ev cls p tb ds (· = .int j)) (hc : Ev cls p tc ds (· = .int k)) :
    Ev cls p (tChain (rOr rEq (rEqD K)) (rOr rEq (rEqD K)) ta tb tc) ds (· = .bl (decide (i = j) && decide (j = k))) := by
  intro pn N H0 ad σ H S Q q
  refine ha pn N H0 ad σ H S _ fun x H1 dx px g1 a1 => ?_
  refine hb pn N H0 ad σ H1 (S.mono g1) _ fun y H2 dy py g2 a2 => ?_
  refine (rv_l (rv_eqI (PX := (· = .int i)) (PY := (· = .int j)) intP intP)) (hid N ad ds) H2 x y dx dy (S.mono (g1.trans g2)).hwf (a1.mono S.hsub g2) a2 px py _ fun z H3 d hd g3 a3 => ?_
  obtain ⟨i', j', e1, e2, e⟩ := hd
  cases e1; cases e2
  subst e
  cases a3
  refine ⟨_, rfl, ?_⟩
  have gg := (g1.trans g2).trans g3
  by_cases h : i = j
  · rw [if_pos (decide_eq_true h)]
    refine hc pn N H0 ad σ H3 (S.mono gg) _ fun w H4 dw pw g4 a4 => ?_
    refine (rv_l (rv_eqI (PX := (· = .int j)) (PY := (· = .int k)) intP intP)) (hid N ad ds) H4 y w dy dw (S.mono (gg.trans g4)).hwf (a2.mono S.hsub (g3.trans g4)) a4 py pw _ fun z H5 d hd g5 a5 => ?_
    obtain ⟨j', k', e1, e2, e⟩ := hd
    cases e1; cases e2
    subst e
    rw [decide_eq_true h, Bool.true_and] at q
    exact q _ H5 _ rfl ((gg.trans g4).trans g5) a5
  · rw [if_neg (show ¬ decide (i = j) = true by rw [decide_eq_false h]; exact Bool.false_ne_true)]
    rw [decide_eq_false h, Bool.false_and] at q
    exact q _ H3 _ rfl gg (.bl false)

/-! ### an own list is read as data -/
/-- no lists in it -/
def nlD : Nat → D → Bool
  | _, .non => true
  | _, .bl _ => true
  | _, .int _ => true
  | _, .str _ => true
  | _, .ty _ => true
  | n + 1, .tup xs => xs.all (nlD n)
  | n + 1, .dk _ xs => xs.all (nlD n)
  | n + 1, .obj _ _ xs => xs.all (nlD n)
  | _, _ => false
theorem nl_keep {N M : Addr → Prop} {H : Hp} (hM : ∀ a, M a → N a ∨ ∃ vs, H a = some (.lst vs)) : ∀ (n : Nat) (d : D) (v : V), nlD n d = true → At cls N H v d → At cls M H v d := by
  have out : ∀ {a : Addr} {o : HO}, ¬ N a → H a = some o → (∀ vs, o ≠ .lst vs) → ¬ M a := fun {a o} hn e ho hm => (hM a hm).elim hn fun ⟨vs, z⟩ => by
    rw [e] at z
    exact ho vs (Option.some.inj z)
  have all : ∀ (n : Nat), (∀ (d : D) (v : V), nlD n d = true → At cls N H v d → At cls M H v d) → ∀ (xs : List D) (vs : List V), xs.all (nlD n) = true → AtAll cls N H vs xs → AtAll cls M H vs xs := by
    intro n ih xs
    induction xs with
    | nil => intro vs _ a; cases a; exact .nil
    | cons x xs ihx =>
      intro vs h a
      rw [List.all_cons, Bool.and_eq_true] at h
      cases a with
      | cons a1 a2 => exact .cons (ih x _ h.1 a1) (ihx _ h.2 a2)
  intro n
  induction n with
  | zero =>
    intro d v h a
    cases a with
    | non => exact .non
    | bl b => exact .bl b
    | int i => exact .int i
    | str x => exact .str x
    | ty x => exact .ty x
    | _ => cases h
  | succ n ih =>
    intro d v h a
    cases a with
    | non => exact .non
    | bl b => exact .bl b
    | int i => exact .int i
    | str x => exact .str x
    | ty x => exact .ty x
    | tup hn e hh => exact .tup (out hn e fun _ z => by cases z) e (all n ih _ _ h hh)
    | dk hn e hl hh => exact .dk (out hn e fun _ z => by cases z) e hl (all n ih _ _ h hh)
    | obj hn e hl hh => exact .obj (out hn e fun _ z => by cases z) e hl (all n ih _ _ h hh)
    | _ => cases h
theorem et_view {i : Nat} {xs : List D} (e : ds[i]? = some (some (Slot.own xs))) (h : ET cls p tt (ds.set i (some (Slot.dat (.lst xs)))) B) : ET cls p tt ds B := fun pn N H0 ad σ H S Q q =>
  h pn N H0 ad σ H (S.freeze e) Q q
theorem ev_view {i : Nat} {xs : List D} (n : Nat) (e : ds[i]? = some (some (Slot.own xs))) (h : Ev cls p te (ds.set i (some (Slot.dat (.lst xs)))) P) (hn : ∀ d, P d → nlD n d = true) : Ev cls p te ds P := fun pn N H0 ad σ H S Q q =>
  h pn N H0 ad σ H (S.freeze e) Q fun v H' d pd g a => q v H' d pd g (nl_keep (fun b hb => by
    rcases hb with z | ⟨j, ys, ej, rfl⟩
    · exact .inl (.inl z)
    · obtain ⟨_, h2, _, vs, h4, _⟩ := S.own j ys ej
      exact .inr ⟨vs, g.ext _ _ (fun z => h2 (S.wf.sub _ z)) h4⟩) n d v (hn d pd) a)

/-! ### a def that passes a row on as a new list, or as a tuple -/
def spPas (cls : Cl) : Sp := fun vs H Q _ => ∃ (p N : Addr → Prop) (a : Addr) (k : Bool) (ys : List D), Wf p N H ∧ AtAll cls N H vs [.adr a, sq k ys] ∧ p a ∧
  (∀ l H' ws, Go p H H' → H l = none → H' l = some (.lst ws) → AtAll cls (fun b => N b ∨ b = l) H' ws ys → Q (.ref l) H') ∧ ∀ v H', Go p H H' → At cls N H' v (.tup ys) → Q v H'
theorem sv_pas {ip i : Nat} {a : Addr} {k : Bool} {ys : List D} (e0 : ds[ip]? = some (some (Slot.dat (.adr a)))) (hp : p a) (h : Ev cls p te ds (· = sq k ys)) (hi : i < ds.length) (k1 : nx (ds.set i (some (Slot.own ys)))) (k2 : nx (ds.set i (some (Slot.dat (.tup ys))))) :
    Sv cls p (tAsg (tCall (spPas cls) [] E0 (tCons (tVar ip) (tCons te tNil))) (gName i)) ds nx rt bk ct := fun pn N H0 ad σ H S Dn n1 _ _ _ => by
    show (tCons (tVar ip) (tCons te tNil)) σ H fun vs H1 => spPas cls (vs ++ []) H1 (fun x H2 => Dn.nx (σ.set i (some x)) H2) E0
    refine (ea2 (ev_var e0) h) pn N H0 ad σ H S _ fun vs H1 xs ⟨x, y, ex, ey, exs⟩ g1 a1 => ?_
    subst ex ey exs
    show spPas cls (vs ++ []) H1 _ E0
    rw [List.append_nil]
    exact ⟨p, hid N ad ds, a, k, ys, (S.mono g1).hwf, a1, hp, fun l H2 ws g2 hl hv av => n1 _ _ H2 _ k1 (S.adopt (g1.trans g2) (fresh_of S.wf g1 hl) hv av hi), fun v H2 g2 av => n1 ad _ H2 _ k2 ((S.mono (g1.trans g2)).put av)⟩
theorem ev_pas {ip : Nat} {a : Addr} {k : Bool} {ys : List D} (e0 : ds[ip]? = some (some (Slot.dat (.adr a)))) (hp : p a) (h : Ev cls p te ds (· = sq k ys)) :
    Ev cls p (tCall (spPas cls) [] E0 (tCons (tVar ip) (tCons te tNil))) ds (fun d => ∃ l, d = sq l ys) := fun pn N H0 ad σ H S Q q => by
    refine (ea2 (ev_var e0) h) pn N H0 ad σ H S _ fun vs H1 xs ⟨x, y, ex, ey, exs⟩ g1 a1 => ?_
    subst ex ey exs
    show spPas cls (vs ++ []) H1 _ E0
    rw [List.append_nil]
    have S1 := S.mono g1
    exact ⟨p, hid N ad ds, a, k, ys, S1.hwf, a1, hp, fun l H2 ws g2 hl hv av => q _ H2 _ ⟨true, rfl⟩ (g1.trans g2) (.lst (fresh_hid S1.hwf hl) hv (av.less fun b z => .inl z)), fun v H2 g2 av => q _ H2 _ ⟨false, rfl⟩ (g1.trans g2) av⟩
theorem ev_isTu {d : D} (h : Ev cls p ta ds (· = d)) (hb : builtD d = true) : Ev cls p (tCB (cOr (rIsi K) (rIsiT K)) (tCons ta (tCons (tC (.ty "tuple")) tNil))) ds (· = .bl (isTup d)) :=
  (ev_cb (ea2 h ev_ty) (rc_l (rc_isi fun xs ⟨x, y, hx, hy, e⟩ => ⟨x, _, by rw [e, hy], by rw [hx]; exact hb, isB_tuple (by rw [hx]; exact hb)⟩))).mono fun r ⟨d', b, ⟨x, y, hx, hy, e⟩, h2, h3⟩ => by
    cases e
    subst hx
    rw [isB_tuple hb] at h2
    cases h2
    exact h3
theorem et_neIE {i j : Int} (h : Ev cls p tl ds (· = .int i)) (k : Ev cls p tr ds (· = .int j)) : ET cls p (tTest (tOp (rOr rNe (rNeD K)) tl tr)) ds (· = !decide (i = j)) :=
  (et_test (ev_op h k (rv_l (rv_neI intP intP))) blP_S).mono fun b ⟨i', j', e1, e2, e⟩ => by cases e1; cases e2; exact D.bl.inj e
theorem ev_iI {f : Int → Int → Int} {i j : Int} (h : Ev cls p tl ds (· = .int i)) (k : Ev cls p tr ds (· = .int j)) : Ev cls p (tOp (rI0 fun i j => .int (f i j)) tl tr) ds (· = .int (f i j)) :=
  (ev_op h k (rv_I0 intP intP)).mono fun d ⟨x, y, e1, e2, e⟩ => by cases e1; cases e2; exact e
theorem e_ins {PQ : D → Prop} {xs ys : List D} (h1 : Ev cls p ta ds (· = .lst xs)) (hq : Ev cls p te ds PQ) (h2 : Ev cls p tb ds (· = .lst ys)) (l1 : xs.length ≤ 1000) (l2 : ys.length ≤ 1000) :
    Ev cls p (tOp (rOr (rI0 fun i j => .int (i + j)) rCat) (tOp (rOr (rI0 fun i j => .int (i + j)) rCat) ta (tLst (tCons te tNil))) tb) ds (fun d => ∃ q, PQ q ∧ d = .lst (xs ++ [q] ++ ys)) :=
  (ev_op (PX := fun d => ∃ q, PQ q ∧ d = .lst (xs ++ [q])) ((ev_op h1 (ev_lst (ea1 hq) fun zs ⟨q, _, e⟩ => by rw [e]; show 1 ≤ 100000; decide) (rv_r (rv_cat fun dx dy hx ⟨zs, ⟨q, _, e⟩, hy⟩ => ⟨xs, zs, hx, hy, by rw [e]; show xs.length + 1 ≤ 100000; omega⟩))).mono fun d ⟨as, bs, e1, ⟨zs, ⟨q, pq, e2⟩, e3⟩, e⟩ => ⟨q, pq, by rw [e, ← D.lst.inj e1, D.lst.inj e3, e2]⟩) h2
    (rv_r (rv_cat fun dx dy ⟨q, _, hx⟩ hy => ⟨_, ys, hx, hy, by rw [List.length_append]; show xs.length + 1 + _ ≤ 100000; omega⟩))).mono fun d ⟨as, bs, ⟨q, pq, e1⟩, e2, e⟩ => ⟨q, pq, by rw [e, D.lst.inj e1, ← D.lst.inj e2]⟩
theorem EvO.mono {to : TO} {O O' : Option Int → Prop} (h : EvO cls p to ds O) (k : ∀ o, O o → O' o) : EvO cls p to ds O' := fun pn N H0 ad σ H S Q q => h pn N H0 ad σ H S Q fun o H' ho => q o H' (k o ho)
theorem e_take {xs : List D} {i : Int} (h : Ev cls p ta ds (· = .lst xs)) (hi : Ev cls p tb ds (· = .int i)) (h0 : 0 ≤ i) : Ev cls p (tSl (rSlL K) ta tNoPart (tPart tb)) ds (· = .lst (xs.take i.toNat)) :=
  (ev_slL h eo_none (eo_int hi) fun d e => ⟨xs, e⟩).mono fun d ⟨ys, lo, hi, e1, e2, e3, e⟩ => by
    subst e2 e3
    rw [e, D.lst.inj e1, cut_take h0]
theorem e_drop {xs : List D} {i : Int} (h : Ev cls p ta ds (· = .lst xs)) (hi : Ev cls p tb ds (· = .int i)) (h0 : 0 ≤ i) : Ev cls p (tSl (rSlL K) ta (tPart tb) tNoPart) ds (· = .lst (xs.drop i.toNat)) :=
  (ev_slL h (eo_int hi) eo_none fun d e => ⟨xs, e⟩).mono fun d ⟨ys, lo, hi, e1, e2, e3, e⟩ => by
    subst e2 e3
    rw [e, D.lst.inj e1, cut_drop h0]
/-- a + b, a new list -/
theorem ef_cat {xs ys : List D} (h : Ev cls p ta ds (· = .lst xs)) (k : Ev cls p tb ds (· = .lst ys)) (hz : xs.length + ys.length ≤ 100000) : EvF cls p (tOp (rOr (rI0 fun i j => .int (i + j)) rCat) ta tb) ds (· = xs ++ ys) := fun pn N H0 ad σ H S Q q =>
  h pn N H0 ad σ H S _ fun v H1 d e g1 a1 => k pn N H0 ad σ H1 (S.mono g1) _ fun w H2 d' e' g2 a2 => by
    subst e e'
    cases a1.mono S.hsub g2 with
    | @lst l vs _ n r at_ =>
      cases a2 with
      | @lst m ws _ n2 r2 at2 =>
        refine .inr ⟨l, m, vs, ws, rfl, rfl, r, r2, ?_, fun l' e => q l' _ _ _ rfl ((g1.trans g2).trans (Go.new e)) (fresh_of S.wf (g1.trans g2) e) upd_same (out_of (at_.append at2) e)⟩
        rw [at_.length, at2.length]
        exact Nat.le_trans hz (by decide)
/-- sorted of whole numbers that are not known -/
theorem ev_sortedP {PA : List Int → Prop} (h : Ev cls p te ds (fun d => ∃ a, PA a ∧ d = row true a)) (hl : ∀ a, PA a → a.length < 64) : Ev cls p (tCB (rSortedQ K) (tCons te tNil)) ds (fun d => ∃ a b : List Int, PA a ∧ b.Perm a ∧ b.Pairwise (· ≤ ·) ∧ d = row true b) := fun pn N H0 ad σ H S Q q => by
  refine (ea1 h) pn N H0 ad σ H S _ fun vs H1 ys ⟨x, ⟨a, pa, ex⟩, ey⟩ g1 a1 => ?_
  subst ex ey
  cases a1 with
  | cons av b =>
    cases b
    cases av with
    | @lst r ws _ nn e aa =>
      have ew : ws = a.map V.int := aa.ints
      subst ew
      exact ⟨r, a, rfl, .inl (.inl (.inl e)), hl a pa, fun ns' l pm pw e => q _ _ _ ⟨a, ns', pa, pm, pw, rfl⟩ (g1.trans (Go.new e)) (.lst (fresh_hid (S.mono g1).hwf e) upd_same (atAll_ints ns'))⟩
theorem ev_t1 {x : D} (h : Ev cls p ta ds (· = x)) : Ev cls p (tTup (tCons ta tNil)) ds (· = .tup [x]) := ev_tupE (ea_consE h ea_nilE) (show 1 ≤ 100000 by decide)
theorem ev_t2 {x y : D} (h : Ev cls p ta ds (· = x)) (k : Ev cls p tb ds (· = y)) : Ev cls p (tTup (tCons ta (tCons tb tNil))) ds (· = .tup [x, y]) := ev_tupE (ea_consE h (ea_consE k ea_nilE)) (show 2 ≤ 100000 by decide)
theorem ev_t3 {x y z : D} (h : Ev cls p ta ds (· = x)) (k : Ev cls p tb ds (· = y)) (l : Ev cls p te ds (· = z)) : Ev cls p (tTup (tCons ta (tCons tb (tCons te tNil)))) ds (· = .tup [x, y, z]) := ev_tupE (ea_consE h (ea_consE k (ea_consE l ea_nilE))) (show 3 ≤ 100000 by decide)
end
/-! ### data that can be shown, with its size -/
def gd (n B : Nat) (d : D) : Prop := shE n d = true ∧ szE n d ≤ B ∧ (py d).hasDict = false
theorem gd.mono {n B B' : Nat} {d : D} (h : gd n B d) (hb : B ≤ B') : gd n B' d := ⟨h.1, Nat.le_trans h.2.1 hb, h.2.2⟩
theorem gdI (n : Nat) {i : Int} (h : i.natAbs < 2 ^ 1900) : gd n 30000 (.int i) := by
  cases n <;> exact ⟨decide_eq_true h, Nat.le_refl _, rfl⟩
theorem gdS (n : Nat) {x : Str} (h : (reprText x).length ≤ 30000) : gd n 30000 (.str x) := by
  cases n <;> exact ⟨decide_eq_true h, Nat.le_refl _, rfl⟩
theorem gdN (n : Nat) : gd n 30000 .non := by cases n <;> exact ⟨rfl, Nat.le_refl _, rfl⟩
theorem gdB (n : Nat) (b : Bool) : gd n 30000 (.bl b) := by cases n <;> exact ⟨rfl, Nat.le_refl _, rfl⟩
theorem dict_all : ∀ xs : List D, (∀ x ∈ xs, (py x).hasDict = false) → PyData.hasDictAll (pyAll xs) = false
  | [], _ => rfl
  | x :: xs, h => by
    unfold pyAll PyData.hasDictAll
    rw [h x (List.mem_cons_self ..), dict_all xs fun y hy => h y (List.mem_cons_of_mem _ hy)]
    rfl
theorem sum_le : ∀ (n B : Nat) (xs : List D), (∀ x ∈ xs, szE n x ≤ B) → (xs.map fun x => szE n x + 2).sum ≤ xs.length * (B + 2)
  | _, _, [], _ => by rw [List.map_nil, List.sum_nil]; exact Nat.zero_le _
  | n, B, x :: xs, h => by
    have h1 := h x (List.mem_cons_self ..)
    have h2 := sum_le n B xs fun y hy => h y (List.mem_cons_of_mem _ hy)
    rw [List.map_cons, List.sum_cons, List.length_cons, Nat.succ_mul]
    omega
theorem gd_sq {n B m : Nat} {xs : List D} (k : Bool) (hx : ∀ x ∈ xs, gd n B x) (hl : xs.length ≤ m) : gd (n + 1) (4 + m * (B + 2)) (sq k xs) := by
  have hs := sum_le n B xs fun x h => (hx x h).2.1
  have hm : xs.length * (B + 2) ≤ m * (B + 2) := Nat.mul_le_mul_right _ hl
  have hd := dict_all xs fun x h => (hx x h).2.2
  cases k with
  | true => exact ⟨List.all_eq_true.mpr fun x h => (hx x h).1, by show 4 + _ ≤ _; omega, by show (py (.lst xs)).hasDict = false; unfold py PyData.hasDict; exact hd⟩
  | false => exact ⟨List.all_eq_true.mpr fun x h => (hx x h).1, by show 4 + _ ≤ _; omega, by show (py (.tup xs)).hasDict = false; unfold py PyData.hasDict; exact hd⟩
theorem mem1 {P : D → Prop} {a : D} (h : P a) : ∀ x ∈ [a], P x := fun x hx => by rw [List.mem_singleton.mp hx]; exact h
theorem mem2 {P : D → Prop} {a b : D} (h : P a) (k : P b) : ∀ x ∈ [a, b], P x := fun x hx => (List.mem_cons.mp hx).elim (fun e => by rw [e]; exact h) (mem1 k x)
theorem mem3 {P : D → Prop} {a b c : D} (h : P a) (k : P b) (l : P c) : ∀ x ∈ [a, b, c], P x := fun x hx => (List.mem_cons.mp hx).elim (fun e => by rw [e]; exact h) (mem2 k l x)
theorem mem_app {P : D → Prop} {xs ys : List D} (h : ∀ x ∈ xs, P x) (k : ∀ x ∈ ys, P x) : ∀ x ∈ xs ++ ys, P x := fun x hx => (List.mem_append.mp hx).elim (h x) (k x)
theorem toString_repr {i : Int} (h : i.natAbs < 2 ^ 1900) : (reprText (toString i : Str)).length ≤ 30000 := by
  have hl := (int_show i h).2
  have hc : ∀ c ∈ (toString i : Str).cps.toList, c < 16 ^ 8 := by
    intro c hc
    have e : (toString i : Str) = ⟨((toString i).toList.map Char.toNat).toArray⟩ := PySem.Str.ofString_eq_toList _
    rw [e] at hc
    obtain ⟨ch, _, rfl⟩ := List.mem_map.mp hc
    have := ch.val.toNat_lt
    show ch.val.toNat < 16 ^ 8
    omega
  have := PySem.StrLaws.reprText_len _ hc
  omega
end Lk

namespace Lk
open PySem PySem.Spec PyProof.Rows L2 LiI

/-! ### dicts of whole numbers -/
def kvI (kvs : List (Int × Int)) : List (Key × V) := kvs.map fun q => (Sum.inl q.1, V.int q.2)
def getI (kvs : List (Int × Int)) (k : Int) : Option Int := (kvs.find? fun q => decide (q.1 = k)).map (·.2)
def putI (kvs : List (Int × Int)) (k v : Int) : List (Int × Int) := if (kvs.any fun q => decide (q.1 = k)) = true then kvs.map (fun q => if q.1 = k then (q.1, v) else q) else kvs ++ [(k, v)]
theorem inl_dec (a b : Int) : decide ((Sum.inl a : Key) = Sum.inl b) = decide (a = b) := by
  by_cases e : a = b
  · rw [e, decide_eq_true rfl, decide_eq_true rfl]
  · rw [decide_eq_false e, decide_eq_false fun z => e (Sum.inl.inj z)]
theorem valV_kv (k : Int) : ∀ kvs : List (Int × Int), valV (kvI kvs) (Sum.inl k) = (getI kvs k).map V.int
  | [] => rfl
  | q :: kvs => by
    by_cases e : q.1 = k
    · have h1 : valV (kvI (q :: kvs)) (Sum.inl k) = some (V.int q.2) := valV_pos (p := (Sum.inl q.1, V.int q.2)) (r := kvI kvs) (show (Sum.inl q.1 : Key) = Sum.inl k by rw [e])
      have h2 : getI (q :: kvs) k = some q.2 := by
        unfold getI
        rw [List.find?_cons, decide_eq_true e]
        rfl
      rw [h1, h2]
      rfl
    · have h1 : valV (kvI (q :: kvs)) (Sum.inl k) = valV (kvI kvs) (Sum.inl k) := valV_neg (p := (Sum.inl q.1, V.int q.2)) (r := kvI kvs) (fun z => e (Sum.inl.inj z))
      have h2 : getI (q :: kvs) k = getI kvs k := by
        unfold getI
        rw [List.find?_cons, decide_eq_false e]
      rw [h1, h2, valV_kv k kvs]
theorem putK_kv (kvs : List (Int × Int)) (k v : Int) : putK (kvI kvs) (Sum.inl k) (V.int v) = kvI (putI kvs k v) := by
  have ha : ((kvI kvs).any fun kv => decide (kv.1 = (Sum.inl k : Key))) = kvs.any fun q => decide (q.1 = k) := by
    unfold kvI
    rw [List.any_map]
    congr 1
    funext q
    exact inl_dec q.1 k
  unfold putK putI
  rw [ha]
  by_cases h : (kvs.any fun q => decide (q.1 = k)) = true
  · rw [if_pos h, if_pos h]
    unfold kvI
    rw [List.map_map, List.map_map]
    refine List.map_congr_left fun q _ => ?_
    show (if (Sum.inl q.1 : Key) = Sum.inl k then ((Sum.inl q.1 : Key), V.int v) else (Sum.inl q.1, V.int q.2)) = (Sum.inl (if q.1 = k then (q.1, v) else q).1, V.int (if q.1 = k then (q.1, v) else q).2)
    by_cases e : q.1 = k
    · rw [if_pos (by rw [e]), if_pos e]
    · rw [if_neg (fun z => e (Sum.inl.inj z)), if_neg e]
  · rw [if_neg h, if_neg h]
    unfold kvI
    rw [List.map_append]
    rfl
theorem kvI_len (kvs : List (Int × Int)) : (kvI kvs).length = kvs.length := List.length_map _
theorem putI_len (kvs : List (Int × Int)) (k v : Int) : (putI kvs k v).length ≤ kvs.length + 1 := by
  unfold putI
  split
  · rw [List.length_map]; omega
  · rw [List.length_append]; exact Nat.le_refl _
def pairD (q : Int × Int) : D := .tup [.int q.1, .int q.2]

section
variable {cls : Cl} {p N : Addr → Prop} {pn : List (V × D)} {H0 H H' : Hp} {ad : Nat → Addr} {σ : L2.St} {ds : Sts} {ta tb te tk tx : TE} {P : D → Prop} {tt : TT} {B : Bool → Prop} {ts tu : TS} {nx nx' bk ct : Sts → Prop} {rt : D → Prop} {K : PySem.W.Frag}
theorem hid_mut {i : Nat} {l : Addr} {c : Con} : ∀ b, hid N (fun j => if j = i then l else ad j) (ds.set i (some (Slot.mut c))) b → hid N ad ds b := fun b h => by
  rcases h with h | ⟨j, xs, e, q⟩
  · exact .inl h
  · rcases get_set e with ⟨_, z, _⟩ | ⟨ne, e⟩
    · cases z
    · exact .inr ⟨j, xs, e, by simpa only [if_neg (Ne.symm ne)] using q⟩
theorem Sta.putMut {i : Nat} {l : Addr} {v : V} {c : Con} (E : Sta cls p pn N H0 ad H σ ds) (hi : i < ds.length) (hN : N l) (hp : ¬ p l) (h0 : H0 l = none) (hm : ∀ (j : Nat) (c' : Con), ds[j]? = some (some (Slot.mut c')) → j ≠ i → ad j ≠ l) (hc : ConAt cls (hid N ad ds) H v l c) :
    Sta cls p pn N H0 (fun j => if j = i then l else ad j) H (σ.set i (some v)) (ds.set i (some (Slot.mut c))) := by
  refine ⟨E.wf, E.go, by rw [List.length_set, List.length_set]; exact E.len, fun j x e => ?_, fun j xs e => ?_, fun q hq => (E.pin q hq).less hid_mut, fun a b xs ys e1 e2 q => ?_, fun j c' e => ?_, fun a b c1 c2 e1 e2 q => ?_⟩
  · rcases get_set e with ⟨rfl, z, _⟩ | ⟨ne, e⟩
    · cases z
    · obtain ⟨w, h1, h2⟩ := E.dat j x e
      exact ⟨w, by rw [List.getElem?_set_ne ne]; exact h1, h2.less hid_mut⟩
  · rcases get_set e with ⟨rfl, z, _⟩ | ⟨ne, e⟩
    · cases z
    · obtain ⟨h1, h2, h3, vs, h4, h5⟩ := E.own j xs e
      simp only [if_neg (Ne.symm ne)]
      exact ⟨by rw [List.getElem?_set_ne ne]; exact h1, h2, h3, vs, h4, h5.less hid_mut⟩
  · rcases get_set e1 with ⟨_, z, _⟩ | ⟨n1, e1⟩
    · cases z
    · rcases get_set e2 with ⟨_, z, _⟩ | ⟨n2, e2⟩
      · cases z
      · simp only [if_neg (Ne.symm n1), if_neg (Ne.symm n2)] at q
        exact E.inj a b xs ys e1 e2 q
  · rcases get_set e with ⟨rfl, z, _⟩ | ⟨ne, e⟩
    · cases z
      simp only [if_true]
      exact ⟨v, by rw [List.getElem?_set_self (by rw [E.len]; exact hi)], hN, hp, h0, hc.keep (fun b _ n z => n (hid_mut b z)) (fun _ _ _ e => e) fun _ e => e⟩
    · obtain ⟨w, h1, h2, h3, h4, h5⟩ := E.mt j c' e
      simp only [if_neg (Ne.symm ne)]
      exact ⟨w, by rw [List.getElem?_set_ne ne]; exact h1, h2, h3, h4, h5.keep (fun b _ n z => n (hid_mut b z)) (fun _ _ _ e => e) fun _ e => e⟩
  · rcases get_set e1 with ⟨rfl, _, _⟩ | ⟨n1, e1⟩
    · rcases get_set e2 with ⟨rfl, _, _⟩ | ⟨n2, e2⟩
      · rfl
      · simp only [if_true, if_neg (Ne.symm n2)] at q
        exact absurd q.symm (hm b c2 e2 (Ne.symm n2))
    · rcases get_set e2 with ⟨rfl, _, _⟩ | ⟨n2, e2⟩
      · simp only [if_true, if_neg (Ne.symm n1)] at q
        exact absurd q (hm a c1 e1 (Ne.symm n1))
      · simp only [if_neg (Ne.symm n1), if_neg (Ne.symm n2)] at q
        exact E.minj a b c1 c2 e1 e2 q
/-- what such a name holds changes -/
theorem Sta.chgMut {i : Nat} {c c' : Con} {o : HO} (E : Sta cls p pn N H0 ad H σ ds) (e : ds[i]? = some (some (Slot.mut c)))
    (hc : ∀ v, σ[i]? = some (some v) → ConAt cls (hid N ad ds) H v (ad i) c → ConAt cls (hid N ad (ds.set i none)) (upd H (ad i) o) v (ad i) c') :
    Sta cls p pn N H0 (fun j => if j = i then ad i else ad j) (upd H (ad i) o) σ (ds.set i (some (Slot.mut c'))) := by
  obtain ⟨v, h1, h2, h3, h4, h5⟩ := E.mt i c e
  have hi : i < ds.length := (List.getElem?_eq_some_iff.mp e).1
  have hs : i < σ.length := by rw [E.len]; exact hi
  have es : σ.set i (some v) = σ := by
    refine List.ext_getElem? fun j => ?_
    by_cases z : i = j
    · rw [← z, List.getElem?_set_self hs, h1]
    · rw [List.getElem?_set_ne z]
  have E1 := E.wipe1 (i := i) (o := some v)
  rw [es] at E1
  have nm : ∀ (j : Nat) (c' : Con), (ds.set i none)[j]? = some (some (Slot.mut c')) → ad j ≠ ad i := fun j c' ej z => by
    rcases get_set ej with ⟨_, z, _⟩ | ⟨ne, ej⟩
    · cases z
    · exact ne (E.minj j i c' c ej e z).symm
  have E2 := E1.turn (o := o) h2 h3 h4 nm
  have E3 := E2.putMut (i := i) (l := ad i) (v := v) (c := c') (by rw [List.length_set]; exact hi) h2 h3 h4 (fun j c' ej _ => nm j c' ej) (hc v h1 h5)
  rw [es, List.set_set] at E3
  exact E3
/-- name = {}: what follows works on it; at the end no name holds it -/
theorem sv_newTbl {i : Nat} (hi : i < ds.length) (h : Sv cls p tu (ds.set i (some (Slot.mut (.tbl [])))) nx rt noSt noSt) (hn : ∀ ds', nx ds' → ∀ (j : Nat) (c : Con), ds'[j]? ≠ some (some (Slot.mut c))) (h0 : ∀ (j : Nat) (c : Con), ds[j]? ≠ some (some (Slot.mut c))) :
    Sv cls p (tSeq (tAsg tDNewK (gName i)) tu) ds nx rt noSt noSt := fun pn N H0 ad σ H S Dn q1 q2 q3 q4 => fun l hl => by
  have SL := S.lay (o := .dK []) hl
  have npl : ¬ p l := fun z => (S.wf.pot l z).some hl
  have h0l : H0 l = none := by
    cases e : H0 l with
    | none => rfl
    | some o => rw [S.go.ext _ _ npl e] at hl; cases hl
  have SM := SL.putMut (i := i) (l := l) (v := .ref l) (c := .tbl []) hi (.inr rfl) npl h0l (fun j c e _ => absurd e (h0 j c)) ⟨rfl, upd_same⟩
  refine h pn _ H0 _ _ _ SM Dn (fun ad' σ' H' ds' z S' => ?_) (fun v H' d z g a => q2 v H' d z g (a.less fun b w => .inl w)) (fun _ _ _ _ z => z.elim) (fun _ _ _ _ z => z.elim)
  exact q1 ad' σ' H' ds' z (S'.lessN (fun b w => .inl w) S.wf.sub fun j c e => absurd e (hn ds' z j c))
/-- name[k] = v -/
theorem sv_dput {i : Nat} {kvs : List (Int × Int)} {k v : Int} (e : ds[i]? = some (some (Slot.mut (.tbl kvs)))) (hk : Ev cls p tk ds (· = .int k)) (hv : Ev cls p te ds (· = .int v)) (hz : kvs.length < 100000) (kn : nx (ds.set i (some (Slot.mut (.tbl (putI kvs k v)))))) :
    Sv cls p (sDPut (tVar i) tk te) ds nx rt bk ct := fun pn N H0 ad σ H S Dn q1 _ _ _ => by
  refine hv pn N H0 ad σ H S _ fun x H1 dx px g1 a1 => ?_
  have S1 := S.mono g1
  obtain ⟨v0, h1, _, hp, _, rfl, hH⟩ := S1.mt i _ e
  refine ⟨.ref (ad i), h1, hk pn N H0 ad σ H1 S1 _ fun y H2 dy py g2 a2 => ?_⟩
  subst px py
  cases a1; cases a2
  have hH2 : H2 (ad i) = some (.dK (kvI kvs)) := g2.ext _ _ hp hH
  refine ⟨ad i, _, rfl, DPut.k (k := Sum.inl k) (v := .int v) hH2 (by rw [kvI_len]; exact Nat.lt_of_lt_of_le hz (by decide)), q1 _ σ _ _ kn ((S1.mono g2).chgMut e fun w hw hc => ?_)⟩
  obtain ⟨e1, _⟩ := hc
  exact ⟨e1, by rw [upd_same, putK_kv]; rfl⟩
theorem ev_tget {i : Nat} {kvs : List (Int × Int)} {k d : Int} (e : ds[i]? = some (some (Slot.mut (.tbl kvs)))) (hk : Ev cls p tk ds (· = .int k)) (hx : Ev cls p tx ds (· = .int d)) : Ev cls p (tDGet2 (tVar i) tk tx) ds (· = .int ((getI kvs k).getD d)) := fun pn N H0 ad σ H S Q q => by
  obtain ⟨v, h1, _, hp, _, rfl, hH⟩ := S.mt i _ e
  refine ⟨.ref (ad i), h1, ad i, rfl, .inl ⟨_, .inl hH⟩, hk pn N H0 ad σ H S _ fun y H1 dy py g1 a1 => hx pn N H0 ad σ H1 (S.mono g1) _ fun z H2 dz pz g2 a2 => ?_⟩
  subst py pz
  cases a1; cases a2
  have hH2 : H2 (ad i) = some (.dK (kvI kvs)) := (g1.trans g2).ext _ _ hp hH
  refine ⟨_, DGet.k (k := Sum.inl k) hH2, ?_⟩
  rw [valV_kv]
  cases hg : getI kvs k with
  | none => exact q _ H2 _ (by rw [hg]; rfl) (g1.trans g2) (.int _)
  | some w => exact q _ H2 _ (by rw [hg]; rfl) (g1.trans g2) (.int _)
theorem ev_tsub {i : Nat} {kvs : List (Int × Int)} {k w : Int} (e : ds[i]? = some (some (Slot.mut (.tbl kvs)))) (hk : Ev cls p tk ds (· = .int k)) (hw : getI kvs k = some w) : Ev cls p (tDGet (tVar i) tk) ds (· = .int w) := fun pn N H0 ad σ H S Q q => by
  obtain ⟨v, h1, _, hp, _, rfl, hH⟩ := S.mt i _ e
  refine ⟨.ref (ad i), h1, hk pn N H0 ad σ H S _ fun y H1 dy py g1 a1 => ?_⟩
  subst py
  cases a1
  have hH1 : H1 (ad i) = some (.dK (kvI kvs)) := g1.ext _ _ hp hH
  refine ⟨ad i, .int w, rfl, ?_, q _ H1 _ rfl g1 (.int _)⟩
  have := DGet.k (k := Sum.inl k) hH1
  rw [valV_kv, hw] at this
  exact this
def rLenDct : List V → Hp → VK → Prop := fun vs H Q => ∃ b more, vs = [V.ref b] ∧ H b = some (.dK more) ∧ Q (.int more.length) H
theorem kLenDct {X : Cx} : CallR X (.builtin "len") rLenDct := call_lenD
theorem ev_tlen {i : Nat} {kvs : List (Int × Int)} (e : ds[i]? = some (some (Slot.mut (.tbl kvs)))) : Ev cls p (tCB rLenDct (tCons (tVar i) tNil)) ds (· = .int kvs.length) := fun pn N H0 ad σ H S Q q => by
  obtain ⟨v, h1, _, hp, _, rfl, hH⟩ := S.mt i _ e
  exact ⟨.ref (ad i), h1, ad i, kvI kvs, rfl, hH, by rw [kvI_len]; exact q _ H _ rfl (Go.refl H) (.int _)⟩
/-- list(name.items()) -/
theorem ef_items {i : Nat} {kvs : List (Int × Int)} (e : ds[i]? = some (some (Slot.mut (.tbl kvs)))) : EvF cls p (tListItems (tVar i)) ds (· = kvs.map pairD) := fun pn N H0 ad σ H S Q q => by
  obtain ⟨v, h1, _, hp, _, rfl, hH⟩ := S.mt i _ e
  refine ⟨.ref (ad i), h1, ad i, kvI kvs, rfl, hH, fun H' l ts hk hl ht hlt he hpp => ?_⟩
  refine q l H' _ _ rfl ⟨fun a o _ e => hk a o e, fun a _ ⟨x, y, e, r⟩ => ⟨x, y, hk a _ e, r⟩⟩ hl he ?_
  have gen : ∀ (ts : List Addr) (kvs : List (Int × Int)), (∀ t ∈ ts, H t = none) → l ∉ ts → Paired (fun (t : Addr) (q : Key × V) => H' t = some (.tup [kV q.1, q.2])) ts (kvI kvs) → AtAll cls (fun a => hid N ad ds a ∨ a = l) H' (ts.map V.ref) (kvs.map pairD) := by
    intro ts
    induction ts with
    | nil => intro kvs _ _ pp; cases kvs with
      | nil => exact .nil
      | cons _ _ => cases pp
    | cons t ts ih =>
      intro kvs h1 h2 pp
      cases kvs with
      | nil => cases pp
      | cons q kvs =>
        cases (show Paired _ (t :: ts) ((Sum.inl q.1, V.int q.2) :: kvI kvs) from pp) with
        | cons r rest =>
          refine .cons (.tup (vs := [.int q.1, .int q.2]) (fun z => ?_) r (.cons (.int _) (.cons (.int _) .nil))) (ih kvs (fun x hx => h1 x (List.mem_cons_of_mem _ hx)) (fun z => h2 (List.mem_cons_of_mem _ z)) rest)
          rcases z with z | z
          · exact S.hwf.dom t z (h1 t (List.mem_cons_self ..))
          · exact h2 (by rw [← z]; exact List.mem_cons_self ..)
  exact gen ts kvs ht hlt hpp
/-- sorted(name) -/
def rSortDct : List V → Hp → VK → Prop := fun vs H Q => ∃ (b : Addr) (more : List (Key × V)) (ns : List Int), vs = [.ref b] ∧ Rd H b (.dK more) ∧ more.map (·.1) = ns.map Sum.inl ∧ ns.length < 64 ∧
  ∀ (ms : List Int) (l : Addr), ms.Perm ns → ms.Pairwise (· ≤ ·) → H l = none → Q (.ref l) (upd H l (.lst (ms.map V.int)))
theorem kSortDct {X : Cx} (hc : X.calm = true) : CallR X (.builtin "sorted") rSortDct := call_sortedDI hc
theorem ev_tsort {i : Nat} {kvs : List (Int × Int)} (e : ds[i]? = some (some (Slot.mut (.tbl kvs)))) (hl : kvs.length < 64) : Ev cls p (tCB rSortDct (tCons (tVar i) tNil)) ds (fun d => ∃ ms : List Int, ms.Perm (kvs.map (·.1)) ∧ ms.Pairwise (· ≤ ·) ∧ d = row true ms) := fun pn N H0 ad σ H S Q q => by
  obtain ⟨v, h1, _, hp, _, rfl, hH⟩ := S.mt i _ e
  refine ⟨.ref (ad i), h1, ad i, kvI kvs, kvs.map (·.1), rfl, .inl hH, ?_, by rw [List.length_map]; exact hl, fun ms l pm pw hn => q _ _ _ ⟨ms, pm, pw, rfl⟩ (Go.new hn) (.lst (fresh_hid S.hwf hn) upd_same (atAll_ints ms))⟩
  unfold kvI
  rw [List.map_map, List.map_map]
  rfl

/-! ### sorted of a list of pairs; a dict of such a list -/
def rSortPr (K : PySem.W.Frag) : List V → Hp → VK → Prop := rSortedPO K
theorem kSortPr {X : Cx} {K : PySem.W.Frag} (h : X.K = K) : CallR X (.builtin "sorted") (rSortPr K) := by subst h; exact cr_sortedPO
theorem at_pairs {M : Addr → Prop} {H : Hp} : ∀ {bs : List (Int × Int)} {vs : List V}, AtAll cls M H vs (bs.map pairD) → ∀ x ∈ vs, ∃ t q, x = V.ref t ∧ ¬ M t ∧ H t = some (.tup [.int q.1, .int q.2]) ∧ q ∈ bs
  | [], _, .nil => fun x hx => nomatch hx
  | q :: bs, _, .cons a r => fun x hx => by
    rcases List.mem_cons.mp hx with rfl | hx
    · cases (show At cls M H x (.tup [.int q.1, .int q.2]) from a) with
      | tup n e hh =>
        cases hh with
        | cons a1 a2 =>
          cases a2 with
          | cons a2 a3 =>
            cases a1; cases a2; cases a3
            exact ⟨_, q, rfl, n, e, List.mem_cons_self ..⟩
    · obtain ⟨t, q', e1, n, e2, m⟩ := at_pairs r x hx
      exact ⟨t, q', e1, n, e2, List.mem_cons_of_mem _ m⟩
/-- the pair that stands at a value -/
def keyAt (H : Hp) : V → Int × Int
  | .ref t => match H t with
    | some (.tup [.int a, .int b]) => (a, b)
    | _ => (0, 0)
  | _ => (0, 0)
theorem keyAt_of {H : Hp} {t : Addr} {q : Int × Int} (e : H t = some (.tup [.int q.1, .int q.2])) : keyAt H (.ref t) = q := by
  show (match H t with | some (.tup [.int a, .int b]) => (a, b) | _ => ((0 : Int), (0 : Int))) = q
  rw [e]
theorem at_keys {M : Addr → Prop} {H : Hp} : ∀ {bs : List (Int × Int)} {vs : List V}, AtAll cls M H vs (bs.map pairD) → vs.map (keyAt H) = bs
  | [], _, .nil => rfl
  | q :: bs, _, .cons a r => by
    rw [List.map_cons, at_keys r]
    congr 1
    cases (show At cls M H _ (.tup [.int q.1, .int q.2]) from a) with
    | tup n e hh =>
      cases hh with
      | cons a1 a2 =>
        cases a2 with
        | cons a2 a3 =>
          cases a1; cases a2; cases a3
          exact keyAt_of e
theorem ef_sortPr {bs : List (Int × Int)} (h : Ev cls p te ds (· = .lst (bs.map pairD))) : EvF cls p (tCB (rSortPr K) (tCons te tNil)) ds (fun xs => ∃ zs : List (Int × Int), zs.Perm bs ∧ zs.Pairwise (fun a b => a.1 ≤ b.1) ∧ xs = zs.map pairD) := fun pn N H0 ad σ H S Q q => by
  refine (ea1 h) pn N H0 ad σ H S _ fun vs H1 xs ⟨x, ex, exs⟩ g1 a1 => ?_
  subst ex exs
  cases a1 with
  | cons av b =>
    cases b
    cases av with
    | @lst r ws _ nn e aa =>
      have ap := at_pairs aa
      have ak := at_keys aa
      refine ⟨r, ws, keyAt H1, rfl, .inl (.inl e), fun x hx => ?_, fun ys l hs hb hn => ?_⟩
      · obtain ⟨t, q', e1, _, e2, _⟩ := ap x hx
        exact ⟨t, e1, by rw [e1, keyAt_of e2]; exact e2⟩
      · have hpm : ys.Perm ws := hb.perm
        refine q l _ ys _ ⟨ys.map (keyAt H1), ?_, ?_, rfl⟩ (g1.trans (Go.new hn)) (fresh_of S.wf g1 hn) upd_same (out_of ?_ hn)
        · have := hpm.map (keyAt H1)
          rw [ak] at this
          exact this
        · refine List.pairwise_map.mpr (hs.imp fun {a b} hab => ?_)
          have := SrtO.lexB_no.mp hab
          omega
        · have gen : ∀ zs : List V, (∀ z ∈ zs, z ∈ ws) → AtAll cls (hid N ad ds) H1 zs ((zs.map (keyAt H1)).map pairD) := by
            intro zs
            induction zs with
            | nil => intro _; exact .nil
            | cons z zs ih =>
              intro hz
              obtain ⟨t, q', e1, n, e2, _⟩ := ap z (hz z (List.mem_cons_self ..))
              refine .cons ?_ (ih fun y hy => hz y (List.mem_cons_of_mem _ hy))
              rw [e1, keyAt_of e2]
              exact .tup (vs := [.int q'.1, .int q'.2]) n e2 (.cons (.int _) (.cons (.int _) .nil))
          exact gen ys fun z hz => hpm.mem_iff.mp hz
end
end Lk

namespace Lk
open PySem PySem.Spec PyProof.Rows L2 LiI

theorem room_1 {k : Nat} {A : Around} (h : Room k A) : A.units + 1 < cLine := by
  have := h.units
  omega
/-- [f(x) for x in xs if b(x)] -/
theorem ev_lcYF {cls : Cl} {p : Addr → Prop} {ds : Sts} {tu : TT} {wi : TI} {g : TG} {te : TE} {vs js : List Nat} {xs : List D} {b : D → Bool} {f : D → D} (hi : EI cls p wi ds (· = xs)) (hz : xs.length ≤ 100000) (hj : ∀ j ∈ js, j ∈ vs) (hw : (wipeD ds vs).map Lk.ownOf = ds.map Lk.ownOf)
    (h : ∀ x ∈ xs, ∃ ds', EvG cls p g js x (wipeD ds vs) ds' ∧ ds'.map Lk.ownOf = ds.map Lk.ownOf ∧ ET cls p tu ds' (· = b x) ∧ (b x = true → Ev cls p te ds' (· = f x))) :
    Ev cls p (tLc wi g tu te vs) ds (· = .lst ((xs.filter b).map f)) :=
  (ev_lcY (Pe := fun x y => y = f x) hi hz hj hw h).mono fun d ⟨ys, pp, e⟩ => by rw [e, paired_map pp]
section
variable {cls : Cl} {p N : Addr → Prop} {pn : List (V × D)} {H0 H H' : Hp} {ad : Nat → Addr} {σ : L2.St} {ds : Sts} {ta tb te tk tx : TE} {P : D → Prop} {tt : TT} {B : Bool → Prop} {ts tu : TS} {nx nx' bk ct : Sts → Prop} {rt : D → Prop} {K : PySem.W.Frag} {t : TA} {PA : List D → Prop}
/-! ### dict(pairs); what a dict that is data has -/
def rDctP (K : PySem.W.Frag) : List V → Hp → VK → Prop := fun vs H Q => ∃ (b : Addr) (qs : List Addr) (more : List (Key × V)), vs = [.ref b] ∧ SqL K H b (qs.map V.ref) ∧ Paired (fun c kv => SqT K H c [kV kv.1, kv.2]) qs more ∧ ∀ l, H l = none → Q (.ref l) (upd H l (.dK (mergeK [] more)))
theorem kDictP {X : Cx} {K : PySem.W.Frag} (h : X.K = K) (hc : X.calm = true) : CallR X (.type "dict") (rDctP K) := by subst h; exact call_dictP hc
theorem putK_new {kvs : List (Key × V)} {k : Key} {v : V} (h : k ∉ kvs.map (·.1)) : putK kvs k v = kvs ++ [(k, v)] := by
  unfold putK
  rw [if_neg]
  intro z
  obtain ⟨q, hq, e⟩ := List.any_eq_true.mp z
  exact h (by rw [← of_decide_eq_true e]; exact List.mem_map_of_mem hq)
theorem merge_new : ∀ (more acc : List (Key × V)), ((acc ++ more).map (·.1)).Nodup → mergeK acc more = acc ++ more
  | [], acc, _ => (List.append_nil acc).symm
  | q :: more, acc, h => by
    have h2 : q.1 ∉ acc.map (·.1) := fun z => by
      rw [List.map_append, List.nodup_append] at h
      exact h.2.2 _ z q.1 (by rw [List.map_cons]; exact List.mem_cons_self ..) rfl
    show mergeK (putK acc q.1 q.2) more = _
    rw [putK_new h2, merge_new more (acc ++ [q]) (by rw [List.append_assoc]; exact h), List.append_assoc]
    rfl
theorem kv_nodup {bs : List (Int × Int)} (h : (bs.map (·.1)).Nodup) : ((kvI bs).map (·.1)).Nodup := by
  unfold kvI
  rw [List.map_map]
  have : ((bs.map (·.1)).map (Sum.inl : Int → Key)).Nodup := List.Pairwise.map _ (fun a b hab z => hab (Sum.inl.inj z)) h
  rw [List.map_map] at this
  exact this
def dctD (bs : List (Int × Int)) : D := .dk (bs.map fun q => Sum.inl q.1) (bs.map fun q => .int q.2)
theorem ev_dictP {bs : List (Int × Int)} (h : Ev cls p te ds (· = .lst (bs.map pairD))) (nd : (bs.map (·.1)).Nodup) : Ev cls p (tCB (rDctP K) (tCons te tNil)) ds (· = dctD bs) := fun pn N H0 ad σ H S Q q => by
  refine (ea1 h) pn N H0 ad σ H S _ fun vs H1 xs ⟨x, ex, exs⟩ g1 a1 => ?_
  subst ex exs
  cases a1 with
  | cons av b =>
    cases b
    cases av with
    | @lst r ws _ nn e aa =>
      have gen : ∀ (bs : List (Int × Int)) (ws : List V), AtAll cls (hid N ad ds) H1 ws (bs.map pairD) → ∃ qs : List Addr, ws = qs.map V.ref ∧ Paired (fun c kv => SqT K H1 c [kV kv.1, kv.2]) qs (kvI bs) := by
        intro bs
        induction bs with
        | nil => intro ws a; cases a; exact ⟨[], rfl, .nil⟩
        | cons q bs ih =>
          intro ws a
          cases a with
          | cons a1 a2 =>
            obtain ⟨qs, e1, pp⟩ := ih _ a2
            cases (show At cls (hid N ad ds) H1 _ (.tup [.int q.1, .int q.2]) from a1) with
            | tup n e hh =>
              cases hh with
              | cons b1 b2 =>
                cases b2 with
                | cons b2 b3 =>
                  cases b1; cases b2; cases b3
                  exact ⟨_ :: qs, by rw [e1]; rfl, .cons (.inl (.inl e)) pp⟩
      obtain ⟨qs, e1, pp⟩ := gen bs ws aa
      refine ⟨r, qs, kvI bs, rfl, .inl (.inl (by rw [← e1]; exact e)), pp, fun l hl => q _ _ _ rfl (g1.trans (Go.new hl)) (.dk (vs := bs.map fun q => V.int q.2) (fresh_hid (S.mono g1).hwf hl) ?_ (by rw [List.length_map, List.length_map]) ?_)⟩
      · rw [upd_same, merge_new (kvI bs) [] (by rw [List.nil_append]; exact kv_nodup nd), List.nil_append]
        congr 2
        unfold kvI
        rw [List.zip_map']
      · have := atAll_ints (cls := cls) (N := hid N ad ds) (H := upd H1 l (.dK (mergeK [] (kvI bs)))) (bs.map (·.2))
        rw [List.map_map, List.map_map] at this
        exact this
theorem ev_dget2 {bs : List (Int × Int)} {k d : Int} (h : Ev cls p te ds (· = dctD bs)) (hk : Ev cls p tk ds (· = .int k)) (hx : Ev cls p tx ds (· = .int d)) : Ev cls p (tDGet2 te tk tx) ds (· = .int ((getI bs k).getD d)) := fun pn N H0 ad σ H S Q q => by
  refine h pn N H0 ad σ H S _ fun v H1 dv ev g1 a1 => ?_
  subst ev
  cases a1 with
  | @dk a ks vs _ nn e hl aa =>
    have ei : vs = (bs.map (·.2)).map V.int := by
      refine AtAll.ints (is := bs.map (·.2)) (cls := cls) (N := hid N ad ds) (H := H1) ?_
      rw [List.map_map]
      exact aa
    have ek : (bs.map fun q => (Sum.inl q.1 : Key)).zip vs = kvI bs := by
      rw [ei, List.map_map]
      unfold kvI
      rw [List.zip_map']
      rfl
    rw [ek] at e
    have np : ¬ p a := fun z => nn (S.hsub a z)
    refine ⟨a, rfl, .inl ⟨_, .inl e⟩, hk pn N H0 ad σ H1 (S.mono g1) _ fun y H2 dy py g2 a2 => hx pn N H0 ad σ H2 (S.mono (g1.trans g2)) _ fun z H3 dz pz g3 a3 => ?_⟩
    subst py pz
    cases a2; cases a3
    refine ⟨_, DGet.k (k := Sum.inl k) ((g2.trans g3).ext a _ np e), ?_⟩
    rw [valV_kv]
    cases hg : getI bs k with
    | none => exact q _ H3 _ (by rw [hg]; rfl) ((g1.trans g2).trans g3) (.int _)
    | some w => exact q _ H3 _ (by rw [hg]; rfl) ((g1.trans g2).trans g3) (.int _)

/-! ### list(range(a, b)) -/
theorem ev_rng2 {a b : Int} (h : Ev cls p ta ds (· = .int a)) (k : Ev cls p tb ds (· = .int b)) (ok : RgOk a b) : Ev cls p (tLstRg (tRg2 ta tb)) ds (· = row true ((List.range (b - a).toNat).map fun i : Nat => a + (i : Int))) := fun pn N H0 ad σ H S Q q =>
  h pn N H0 ad σ H S _ fun v H1 d e g1 a1 => k pn N H0 ad σ H1 (S.mono g1) _ fun w H2 d' e' g2 a2 => by
    subst e e'
    cases a1; cases a2
    refine ⟨a, b, rfl, rfl, ok, fun l hl => q _ _ _ rfl ((g1.trans g2).trans (Go.new hl)) (.lst (vs := ((List.range (b - a).toNat).map fun i : Nat => a + (i : Int)).map V.int) (fresh_hid (S.mono (g1.trans g2)).hwf hl) ?_ (atAll_ints _))⟩
    rw [upd_same]
    unfold rgV
    rw [List.map_map]
    rfl

/-! ### a tuple of a value and a list that nobody else has -/
def spBox (cls : Cl) (n : Nat) (pre : (Addr → Prop) → List D → Prop) (F : List D → D → List D → Prop) : Sp := fun vs H Q _ => ∃ (p N : Addr → Prop) (xs : List D), Wf p N H ∧ AtAll cls N H vs xs ∧ xs.length = n ∧ pre p xs ∧
  ∀ (a l : Addr) (H' : Hp) (v0 : V) (ws : List V) (s : D) (zs : List D), F xs s zs → Go p H H' → H a = none → H l = none → a ≠ l → H' a = some (.tup [v0, .ref l]) → At cls (fun b => N b ∨ b = l ∨ b = a) H' v0 s → H' l = some (.lst ws) → AtAll cls (fun b => N b ∨ b = l ∨ b = a) H' ws zs → Q (.ref a) H'
variable {n : Nat} {pre : (Addr → Prop) → List D → Prop} {F : List D → D → List D → Prop}
theorem ev_box (h : EvA cls p t ds PA) (hp : ∀ xs, PA xs → xs.length = n ∧ pre p xs) : Ev cls p (tCall (spBox cls n pre F) [] E0 t) ds (fun d => ∃ xs s zs, PA xs ∧ F xs s zs ∧ d = .tup [s, .lst zs]) := fun pn N H0 ad σ H S Q q => by
  refine h pn N H0 ad σ H S _ fun vs H1 xs px g1 a1 => ?_
  show spBox cls n pre F (vs ++ []) H1 _ E0
  rw [List.append_nil]
  have S1 := S.mono g1
  exact ⟨p, hid N ad ds, xs, S1.hwf, a1, (hp xs px).1, (hp xs px).2, fun a l H2 v0 ws s zs f g2 ha hl nl ea a0 el aa => q _ H2 _ ⟨xs, s, zs, px, f, rfl⟩ (g1.trans g2) (.tup (fresh_hid S1.hwf ha) ea (.cons (a0.less fun b z => .inl z) (.cons (.lst (fresh_hid S1.hwf hl) el (aa.less fun b z => .inl z)) .nil)))⟩
theorem ev_boxK {m : Nat} {is : List Nat} (h : EvA cls p t ds PA) (hp : ∀ xs, PA xs → xs.length = m ∧ (perm is xs).length = n ∧ pre p (perm is xs)) : Ev cls p (tKey (spBox cls n pre F) is m t) ds (fun d => ∃ xs s zs, PA xs ∧ F (perm is xs) s zs ∧ d = .tup [s, .lst zs]) := fun pn N H0 ad σ H S Q q => by
  refine h pn N H0 ad σ H S _ fun vs H1 xs px g1 a1 => ⟨a1.length.trans (hp xs px).1, ?_⟩
  have S1 := S.mono g1
  exact ⟨p, hid N ad ds, perm is xs, S1.hwf, AtAll.perm a1 is, (hp xs px).2.1, (hp xs px).2.2, fun a l H2 v0 ws s zs f g2 ha hl nl ea a0 el aa => q _ H2 _ ⟨xs, s, zs, px, f, rfl⟩ (g1.trans g2) (.tup (fresh_hid S1.hwf ha) ea (.cons (a0.less fun b z => .inl z) (.cons (.lst (fresh_hid S1.hwf hl) el (aa.less fun b z => .inl z)) .nil)))⟩
/-- something new is hidden -/
theorem Sta.hide {l : Addr} {o : HO} (E : Sta cls p pn N H0 ad H σ ds) (g : Go p H H') (hl : H l = none) (e : H' l = some o) : Sta cls p pn (fun b => N b ∨ b = l) H0 ad H' σ ds := by
  have nl : ∀ a, H a ≠ none → a ≠ l := fun a h z => h (by rw [z]; exact hl)
  have hd : ∀ a, H a ≠ none → ¬ hid N ad ds a → ¬ hid (fun a => N a ∨ a = l) ad ds a := fun a h n z => by
    rcases z with (z | z) | z
    · exact n (.inl z)
    · exact nl a h z
    · exact n (.inr z)
  have kk : ∀ a u, ¬ hid N ad ds a → H a = some u → H' a = some u := fun a u n e => g.ext a u (fun z => n (E.hsub a z)) e
  have E1 := E.mono g
  refine ⟨⟨fun a h => .inl (E.wf.sub a h), fun a h => ?_, E1.wf.pot⟩, E1.go, E.len, fun i d e => ?_, fun i xs e => ?_, fun q hq => (E.pin q hq).keep hd kk, E.inj, fun i c e => ?_, E.minj⟩
  · rcases h with h | h
    · exact E1.wf.dom a h
    · rw [h, e]; exact fun z => nomatch z
  · obtain ⟨v, h1, h2⟩ := E.dat i d e
    exact ⟨v, h1, h2.keep hd kk⟩
  · obtain ⟨h1, h2, h3, vs, h4, h5⟩ := E.own i xs e
    refine ⟨h1, fun z => ?_, h3, vs, g.ext _ _ (fun z => h2 (E.wf.sub _ z)) h4, h5.keep hd kk⟩
    rcases z with z | z
    · exact h2 z
    · exact nl _ (by rw [h4]; exact fun z => nomatch z) z
  · obtain ⟨v, h1, h2, h3, h4, h5⟩ := E.mt i c e
    exact ⟨v, h1, .inl h2, h3, h4, h5.keep hd kk fun u e => g.ext _ u h3 e⟩
/-- name = such a call: what follows works on it; at the end no name holds it -/
theorem sv_box {i : Nat} (hi : i < ds.length) (h : EvA cls p t ds PA) (hp : ∀ xs, PA xs → xs.length = n ∧ pre p xs) (k : ∀ xs s zs, PA xs → F xs s zs → Sv cls p tu (ds.set i (some (Slot.mut (.box s zs)))) nx rt noSt noSt)
    (hn : ∀ ds', nx ds' → ∀ (j : Nat) (c : Con), ds'[j]? ≠ some (some (Slot.mut c))) (h0 : ∀ (j : Nat) (c : Con), ds[j]? ≠ some (some (Slot.mut c))) : Sv cls p (tSeq (tAsg (tCall (spBox cls n pre F) [] E0 t) (gName i)) tu) ds nx rt noSt noSt := fun pn N H0 ad σ H S Dn q1 q2 q3 q4 => by
  show t σ H fun vs H1 => spBox cls n pre F (vs ++ []) H1 (fun x H2 => tu Dn (σ.set i (some x)) H2) E0
  refine h pn N H0 ad σ H S _ fun vs H1 xs px g1 a1 => ?_
  rw [List.append_nil]
  have S1 := S.mono g1
  refine ⟨p, hid N ad ds, xs, S1.hwf, a1, (hp xs px).1, (hp xs px).2, fun a l H2 v0 ws s zs f g2 ha hl nl ea a0 el aa => ?_⟩
  have hl0 := fresh_of S.wf g1 hl
  have npl : ¬ p l := fun z => (S.wf.pot l z).some hl0
  have h0l : H0 l = none := by
    cases e : H0 l with
    | none => rfl
    | some o => rw [S.go.ext _ _ npl e] at hl0; cases hl0
  have SH := S1.hide g2 hl el
  have out : ∀ b, hid (fun b => N b ∨ b = l) ad ds b → hid N ad ds b ∨ b = l := fun b z => by
    rcases z with (z | z) | z
    · exact .inl (.inl z)
    · exact .inr z
    · exact .inl (.inr z)
  have SM := SH.putMut (i := i) (l := l) (v := .ref a) (c := .box s zs) hi (.inr rfl) npl h0l (fun j c e _ => absurd e (h0 j c))
    ⟨a, v0, ws, rfl, fun z => (out a z).elim (fun z => S1.hwf.dom a z ha) nl, ea, a0.less fun b z => (out b z).elim .inl fun z => .inr (.inl z), el, aa.less fun b z => (out b z).elim .inl fun z => .inr (.inl z)⟩
  refine k xs s zs px f pn _ H0 _ _ _ SM Dn (fun ad' σ' H' ds' z S' => ?_) (fun v H' d z g a => q2 v H' d z g (a.less fun b w => .inl w)) (fun _ _ _ _ z => z.elim) (fun _ _ _ _ z => z.elim)
  exact q1 ad' σ' H' ds' z (S'.lessN (fun b w => .inl w) S.wf.sub fun j c e => absurd e (hn ds' z j c))
/-- such a thing read as data -/
theorem Sta.openBox {i : Nat} {s : D} {xs : List D} (E : Sta cls p pn N H0 ad H σ ds) (e : ds[i]? = some (some (Slot.mut (.box s xs)))) : Sta cls p pn (fun b => N b ∧ b ≠ ad i) H0 ad H σ (ds.set i (some (Slot.dat (.tup [s, .lst xs])))) := by
  obtain ⟨v, h1, h2, h3, h4, t, v0, vs, rfl, nt, et, a0, el, aa⟩ := E.mt i _ e
  have hi : i < ds.length := (List.getElem?_eq_some_iff.mp e).1
  have hd : ∀ b, hid (fun b => N b ∧ b ≠ ad i) ad (ds.set i (some (Slot.dat (.tup [s, .lst xs])))) b → hid N ad ds b := fun b z => by
    rcases z with z | ⟨j, ys, ej, q⟩
    · exact .inl z.1
    · rcases get_set ej with ⟨_, z, _⟩ | ⟨_, ej⟩
      · cases z
      · exact .inr ⟨j, ys, ej, q⟩
  have nl : ¬ hid (fun b => N b ∧ b ≠ ad i) ad (ds.set i (some (Slot.dat (.tup [s, .lst xs])))) (ad i) := fun z => by
    rcases z with z | ⟨j, ys, ej, q⟩
    · exact z.2 rfl
    · rcases get_set ej with ⟨_, z, _⟩ | ⟨_, ej⟩
      · cases z
      · obtain ⟨_, z, _⟩ := E.own j ys ej
        exact z (by rw [q]; exact h2)
  refine ⟨⟨fun a h => ⟨E.wf.sub a h, fun z => h3 (by rw [← z]; exact h)⟩, fun a h => E.wf.dom a h.1, E.wf.pot⟩, E.go, by rw [List.length_set]; exact E.len, fun j d ej => ?_, fun j ys ej => ?_, fun q hq => (E.pin q hq).less hd, fun a b us1 us2 e1 e2 q => ?_, fun j c ej => ?_, fun a b c c' e1 e2 q => ?_⟩
  · rcases get_set ej with ⟨rfl, z, _⟩ | ⟨_, ej⟩
    · cases z
      exact ⟨_, h1, .tup (fun z => nt (hd t z)) et (.cons (a0.less hd) (.cons (.lst nl el (aa.less hd)) .nil))⟩
    · obtain ⟨w, k1, k2⟩ := E.dat j d ej
      exact ⟨w, k1, k2.less hd⟩
  · rcases get_set ej with ⟨_, z, _⟩ | ⟨_, ej⟩
    · cases z
    · obtain ⟨k1, k2, k3, ws, k4, k5⟩ := E.own j ys ej
      exact ⟨k1, fun z => k2 z.1, k3, ws, k4, k5.less hd⟩
  · rcases get_set e1 with ⟨_, z, _⟩ | ⟨_, e1⟩
    · cases z
    · rcases get_set e2 with ⟨_, z, _⟩ | ⟨_, e2⟩
      · cases z
      · exact E.inj a b us1 us2 e1 e2 q
  · rcases get_set ej with ⟨_, z, _⟩ | ⟨ne, ej⟩
    · cases z
    · obtain ⟨w, k1, k2, k3, k4, k5⟩ := E.mt j c ej
      exact ⟨w, k1, ⟨k2, fun z => ne (E.minj j i c _ ej e z).symm⟩, k3, k4, k5.keep (fun b _ n z => n (hd b z)) (fun _ _ _ e => e) fun _ e => e⟩
  · rcases get_set e1 with ⟨_, z, _⟩ | ⟨_, e1⟩
    · cases z
    · rcases get_set e2 with ⟨_, z, _⟩ | ⟨_, e2⟩
      · cases z
      · exact E.minj a b c c' e1 e2 q
theorem et_viewB {i : Nat} {s : D} {xs : List D} (e : ds[i]? = some (some (Slot.mut (.box s xs)))) (h : ET cls p tt (ds.set i (some (Slot.dat (.tup [s, .lst xs])))) B) : ET cls p tt ds B := fun pn N H0 ad σ H S Q q =>
  h pn _ H0 ad σ H (S.openBox e) Q q
/-- name[1].append(e) -/
theorem sv_appBox {i : Nat} {s : D} {xs : List D} (e : ds[i]? = some (some (Slot.mut (.box s xs)))) (h : Ev cls p te ds P) (hz : xs.length < 100000) (k : ∀ d, P d → nx (ds.set i (some (Slot.mut (.box s (xs ++ [d])))))) :
    Sv cls p (tDrop (tBM K "list" rAppend (tOp (rIx K) (tVar i) (tC (.int 1))) (tCons te tNil))) ds nx rt bk ct := fun pn N H0 ad σ H S Dn q1 _ _ _ => by
  obtain ⟨v, h1, h2, h3, h4, t, v0, vs, rfl, nt, et, a0, el, aa⟩ := S.mt i _ e
  refine ⟨.ref t, h1, .inr (.inl ⟨t, [v0, .ref (ad i)], 1, .ref (ad i), rfl, rfl, .inl (.inl et), rfl, ?_⟩)⟩
  refine ⟨.inl ⟨rfl, _, .inl (.inl el)⟩, h pn N H0 ad σ H S _ fun w H1 d pd g1 a => ?_⟩
  have S1 := S.mono g1
  have e4 : H1 (ad i) = some (.lst vs) := g1.ext _ _ h3 el
  have hl : vs.length < sizeLine := by rw [aa.length]; exact Nat.lt_of_lt_of_le hz (by decide)
  refine ⟨ad i, vs, w, rfl, rfl, e4, hl, q1 _ σ _ _ (k d pd) (S1.chgMut e fun v' hv hc => ?_)⟩
  obtain ⟨t', v0', vs', rfl, nt', et', a0', el', aa'⟩ := hc
  have ev : vs' = vs := by rw [e4] at el'; exact (HO.lst.inj (Option.some.inj el')).symm
  subst ev
  have hs : ∀ b, hid N ad (ds.set i none) b → hid N ad ds b := hid_wipe1
  have kk : ∀ b o, ¬ hid N ad ds b → H1 b = some o → upd H1 (ad i) (.lst (vs' ++ [w])) b = some o := fun b o n eb => by rw [upd_ne (fun z => n (by rw [z]; exact .inl h2))]; exact eb
  exact ⟨t', v0', vs' ++ [w], rfl, fun z => nt' (hs _ z), kk _ _ nt' et', a0'.keep (fun b _ n z => n (hs b z)) kk, upd_same, (aa'.append (.cons a .nil)).keep (fun b _ n z => n (hs b z)) kk⟩
end
end Lk

namespace Lk
open PySem PySem.Spec PyProof.Rows L2 LiI

section
variable {cls : Cl} {p N : Addr → Prop} {pn : List (V × D)} {H0 H H' : Hp} {ad : Nat → Addr} {σ : L2.St} {ds : Sts} {ta tb te tk tx tl tr : TE} {P PX PY : D → Prop} {tt : TT} {B : Bool → Prop} {ts tu : TS} {nx nx' bk ct : Sts → Prop} {rt : D → Prop} {K : PySem.W.Frag} {t : TA} {PA : List D → Prop}
/-! ### a test of whether a value is not True -/
theorem rv_notBl (hx : ∀ d, PX d → ∃ b, d = .bl b) (hy : ∀ d, PY d → ∃ b, d = .bl b) : Rv cls p rNotB PX PY (fun d => ∃ a b : Bool, PX (.bl a) ∧ PY (.bl b) ∧ d = .bl (!decide (a = b))) := fun N H x y dx dy W ax ay px py' Q q => by
  obtain ⟨a, rfl⟩ := hx dx px
  obtain ⟨b, rfl⟩ := hy dy py'
  cases ax; cases ay
  exact ⟨a, b, rfl, rfl, q _ H _ ⟨a, b, px, py', rfl⟩ (Go.refl H) (.bl _)⟩
theorem et_isT (h : Ev cls p tl ds (· = .bl true)) : ET cls p (tTest (tOp rNotB tl (tC (.bl true)))) ds (· = false) :=
  (et_test (ev_op h ev_bl (rv_notBl (fun d e => ⟨_, e⟩) fun d e => ⟨_, e⟩)) fun d ⟨_, _, _, _, e⟩ => ⟨_, e⟩).mono fun b ⟨x, y, e1, e2, e⟩ => by
    rw [D.bl.inj e, D.bl.inj e1, D.bl.inj e2]
    rfl
/-! ### sums over pairs -/
def unpair : D → Int × Int
  | .tup [.int a, .int b] => (a, b)
  | _ => (0, 0)
theorem ev_bsum {i j : Nat} {vs : List Nat} {k : Bool} {bs : List (Int × Int)} {tu : TT} {b : Int × Int → Bool} {f : Int × Int → Int} (h : Ev cls p te ds (· = sq k (bs.map pairD))) (hl : bs.length ≤ 1000) (hv : i ∈ vs ∧ j ∈ vs) (hw : (wipeD ds vs).map ownOf = ds.map ownOf)
    (ho : ∀ q : Int × Int, (((wipeD ds vs).set i (some (Slot.dat (.int q.1)))).set j (some (Slot.dat (.int q.2)))).map ownOf = ds.map ownOf)
    (hb : ∀ q ∈ bs, ET cls p tu (((wipeD ds vs).set i (some (Slot.dat (.int q.1)))).set j (some (Slot.dat (.int q.2)))) (· = b q))
    (he : ∀ q ∈ bs, b q = true → Ev cls p tx (((wipeD ds vs).set i (some (Slot.dat (.int q.1)))).set j (some (Slot.dat (.int q.2)))) (· = .int (f q))) :
    Ev cls p (tCB (rSum K) (tCons (tLc (iOr (iList K te) (iTup K te)) (gTup K 2 (gCons (gName i) (gCons (gName j) gNil))) tu tx vs) tNil)) ds (· = .int ((bs.filter b).map f).sum) := by
  refine ev_sum ((ev_lcYF (js := [i, j]) (xs := bs.map pairD) (b := fun d => b (unpair d)) (f := fun d => .int (f (unpair d))) (ei_row h) (by rw [List.length_map]; omega) (fun x hx => ?_) hw fun x hx => ?_).mono fun d e => ?_)
  · rcases List.mem_cons.mp hx with rfl | hx
    · exact hv.1
    · rw [List.mem_singleton.mp hx]; exact hv.2
  · obtain ⟨q, hq, rfl⟩ := List.mem_map.mp hx
    exact ⟨_, eg_tup (xs := [.int q.1, .int q.2]) (egs_cons (egs_cons egs_nil)) rfl, ho q, hb q hq, he q hq⟩
  · rw [e, List.filter_map, List.map_map, List.map_map]
    rfl
theorem ev_F {PF : List D → Prop} (h : EvF cls p te ds PF) : Ev cls p te ds (fun d => ∃ xs, PF xs ∧ d = .lst xs) := fun pn N H0 ad σ H S Q q =>
  h pn N H0 ad σ H S Q fun l H' vs xs px g hl e aa => q _ H' _ ⟨xs, px, rfl⟩ g (.lst (fresh_hid S.hwf hl) e (aa.less fun b z => .inl z))
/-! ### a def that answers a tuple of a number and a new list -/
def SvB (cls : Cl) (p : Addr → Prop) (t : TS) (ds : Sts) (F : D → List D → Prop) : Prop := ∀ (N : Addr → Prop) (H0 : Hp) (ad : Nat → Addr) (σ : L2.St) (H : Hp), Sta cls p [] N H0 ad H σ ds → ∀ Dn : Ends,
  (∀ (a l : Addr) (H' : Hp) (v0 : V) (ws : List V) (s : D) (zs : List D), F s zs → Go p H0 H' → H0 a = none → H0 l = none → a ≠ l → H' a = some (.tup [v0, .ref l]) → At cls (fun b => N b ∨ b = l ∨ b = a) H' v0 s → H' l = some (.lst ws) → AtAll cls (fun b => N b ∨ b = l ∨ b = a) H' ws zs → Dn.rt (.ref a) H') → t Dn σ H
theorem old_none {l : Addr} (S : Sta cls p pn N H0 ad H σ ds) (hl : H l = none) : H0 l = none := by
  have npl : ¬ p l := fun z => (S.wf.pot l z).some hl
  cases e : H0 l with
  | none => rfl
  | some o => rw [S.go.ext _ _ npl e] at hl; cases hl
theorem svb_seq {F : D → List D → Prop} (h1 : Sv cls p ts ds nx' (fun _ => False) noSt noSt) (h2 : ∀ ds', nx' ds' → SvB cls p tu ds' F) : SvB cls p (tSeq ts tu) ds F := fun N H0 ad σ H S Dn q =>
  h1 [] N H0 ad σ H S { Dn with nx := tu Dn } (fun ad' σ' H' ds' z S' => h2 ds' z N H0 ad' σ' H' S' Dn q) (fun _ _ _ z => z.elim) (fun _ _ _ _ z => z.elim) (fun _ _ _ _ z => z.elim)
theorem svb_new {F : D → List D → Prop} {i : Nat} (hi : i < ds.length) (h : SvB cls p tu (ds.set i (some (Slot.mut (.tbl [])))) F) (h0 : ∀ (j : Nat) (c : Con), ds[j]? ≠ some (some (Slot.mut c))) :
    SvB cls p (tSeq (tAsg tDNewK (gName i)) tu) ds F := fun N H0 ad σ H S Dn q => fun l hl => by
  have SL := S.lay (o := .dK []) hl
  have npl : ¬ p l := fun z => (S.wf.pot l z).some hl
  have SM := SL.putMut (i := i) (l := l) (v := .ref l) (c := .tbl []) hi (.inr rfl) npl (old_none S hl) (fun j c e _ => absurd e (h0 j c)) ⟨rfl, upd_same⟩
  refine h _ H0 _ _ _ SM Dn fun a l' H' v0 ws s zs f g ha hl' ne ea a0 el aa => ?_
  exact q a l' H' v0 ws s zs f g ha hl' ne ea (a0.less fun b w => w.elim (fun w => .inl (.inl w)) .inr) el (aa.less fun b w => w.elim (fun w => .inl (.inl w)) .inr)
theorem svb_ret {i : Int} {PF : List D → Prop} (h1 : Ev cls p ta ds (· = .int i)) (h2 : EvF cls p tb ds PF) : SvB cls p (tRet (tTup (tCons ta (tCons tb tNil)))) ds (fun s zs => s = .int i ∧ PF zs) := fun N H0 ad σ H S Dn q => by
  refine h1 [] N H0 ad σ H S _ fun v H1 d e g1 a1 => ?_
  subst e
  cases a1
  have S1 := S.mono g1
  refine h2 [] N H0 ad σ H1 S1 _ fun l H2 ws zs pz g2 hl el aa => ?_
  refine ⟨by show 2 ≤ sizeLine; decide, fun a ha => ?_⟩
  have ne : a ≠ l := fun z => by rw [← z, ha] at el; cases el
  refine q a l _ (.int i) ws (.int i) zs ⟨rfl, pz⟩ ((S.go.trans (g1.trans g2)).trans (Go.new ha)) (old_none (S1.mono g2) ha) (old_none S1 hl) ne upd_same (.int _) (by rw [upd_ne (Ne.symm ne)]; exact el) ?_
  exact aa.keep (fun b hs n z => by
    rcases z with z | z | z
    · exact n (.inl (.inl z))
    · exact n (.inr z)
    · exact hs (by rw [z]; exact ha)) fun b u _ e => by rw [upd_ne (ne_of_none e ha)]; exact e
theorem SvB.mono {F F' : D → List D → Prop} (h : SvB cls p ts ds F) (k : ∀ s zs, F s zs → F' s zs) : SvB cls p ts ds F' := fun N H0 ad σ H S Dn q =>
  h N H0 ad σ H S Dn fun a l H' v0 ws s zs f => q a l H' v0 ws s zs (k s zs f)
end
theorem gok_box {P : Program} {w : World} {K : PySem.W.Frag} {mg : Str → Option Value} {base : Heap} {k : Nat} {f : Addr} {fd : FuncData} {ps Nm : List Str} {cls : Cl} {n m : Nat} {pre : (Addr → Prop) → List D → Prop} {FF : List D → D → List D → Prop} {x qual : Str} {st : Stmt}
    (F : Fun K x qual st f fd) (S : FnScope Nm ps (defScope st)) (hn : ps.length = n) (hm : Nm.length - n = m)
    (hb : ∀ (cdv : Value) (A : Around) (out : List Env) (s : Shared) (H : Hp) (E : XK), A.guards = some [] → Room k (A.deeper (envOfC qual (defScope st) s.heap.objs.size f cdv)) →
      ∃ t, PSs (cxOf CX0 P w K mg base Nm qual (defScope st) f cdv A out s H E).nox (defBody st) t ∧ ∀ p xs, xs.length = n → pre p xs → SvB cls p t (entry m xs) (FF xs)) :
    GOk P w K mg base (k + 1) f fd ps (spBox cls n pre FF) := by
  refine gok_of F S (fun vs H Q E ⟨p, N, xs, _, a, l, _⟩ => by rw [a.length, l, hn]) fun cdv A out s H vs Q E hg hr hs => ?_
  obtain ⟨t, ht, hv⟩ := hb cdv A out s H E hg hr
  obtain ⟨p, N, xs, W, a, l, hp, q⟩ := hs
  refine ⟨t, ht, ?_⟩
  have S0 := sta_entry (Nm := Nm) W a
  rw [a.length, l, hm] at S0
  exact hv p xs l hp N H _ _ H S0 _ q
end Lk

namespace Lk
open PySem PySem.Spec PyProof.Rows L2 LiI

/-! ### answers that reach no list that stood before -/
def oldL (H : Hp) (a : Addr) : Prop := ∃ vs, H a = some (.lst vs)
theorem oldL.go {p M : Addr → Prop} {H H' : Hp} (g : Go p H H') (sub : ∀ a, p a → M a) {a : Addr} (h : oldL H a) : M a ∨ oldL H' a := by
  by_cases hp : p a
  · exact .inl (sub a hp)
  · obtain ⟨vs, e⟩ := h
    exact .inr ⟨vs, g.ext a _ hp e⟩
theorem wf_old {p M : Addr → Prop} {H H' : Hp} (W : Wf p M H) (g : Go p H H') : Wf p (fun b => M b ∨ oldL H b) H' := by
  have W1 := W.mono g
  refine ⟨fun a h => .inl (W.sub a h), fun a h => ?_, W1.pot⟩
  rcases h with h | h
  · exact W1.dom a h
  · rcases h.go g W.sub with h | ⟨vs, e⟩
    · exact W1.dom a h
    · rw [e]; exact fun z => nomatch z
section
variable {cls : Cl} {p N : Addr → Prop} {pn : List (V × D)} {H0 H H' : Hp} {ad : Nat → Addr} {σ : L2.St} {ds : Sts} {ta tb te tk tx tl tr : TE} {P PX PY : D → Prop} {tt : TT} {B : Bool → Prop} {ts tu : TS} {nx nx' bk ct : Sts → Prop} {rt : D → Prop} {K : PySem.W.Frag} {t : TA} {PA : List D → Prop}
def EvN (cls : Cl) (p : Addr → Prop) (t : TE) (ds : Sts) (P : D → Prop) : Prop := ∀ (pn : List (V × D)) (N : Addr → Prop) (H0 : Hp) (ad : Nat → Addr) (σ : L2.St) (H : Hp), Sta cls p pn N H0 ad H σ ds → ∀ Q : VK,
  (∀ v H' d, P d → Go p H H' → At cls (fun b => hid N ad ds b ∨ oldL H b) H' v d → Q v H') → t σ H Q
theorem EvN.ev (h : EvN cls p te ds P) : Ev cls p te ds P := fun pn N H0 ad σ H S Q q => h pn N H0 ad σ H S Q fun v H' d pd g a => q v H' d pd g (a.less fun b z => .inl z)
theorem EvN.mono {P' : D → Prop} (h : EvN cls p te ds P) (k : ∀ d, P d → P' d) : EvN cls p te ds P' := fun pn N H0 ad σ H S Q q => h pn N H0 ad σ H S Q fun v H' d pd => q v H' d (k d pd)
theorem old_less {M : Addr → Prop} (g : Go p H H') (sub : ∀ a, p a → M a) : ∀ b, (M b ∨ oldL H b) → (M b ∨ oldL H' b) := fun b z => z.elim .inl fun z => z.go g sub
theorem evn_int {i : Int} (h : Ev cls p te ds (· = .int i)) : EvN cls p te ds (· = .int i) := fun pn N H0 ad σ H S Q q => h pn N H0 ad σ H S Q fun v H' d e g a => by
  subst e
  cases a
  exact q _ H' _ rfl g (.int i)
theorem evn_list {k : Bool} {xs : List D} {n : Nat} (h : Ev cls p te ds (· = sq k xs)) (hn : ∀ x ∈ xs, nlD n x = true) : EvN cls p (tCB (rList K) (tCons te tNil)) ds (· = .lst xs) := fun pn N H0 ad σ H S Q q =>
  ef_list h pn N H0 ad σ H S Q fun l H' vs ys e g hl el aa => by
    subst e
    have sub : ∀ a, p a → hid N ad ds a := S.hsub
    have all : ∀ (ys : List D) (vs : List V), (∀ x ∈ ys, nlD n x = true) → AtAll cls (fun a => hid N ad ds a ∨ a = l) H' vs ys → AtAll cls (fun b => hid N ad ds b ∨ oldL H b) H' vs ys := by
      intro ys
      induction ys with
      | nil => intro vs _ a; cases a; exact .nil
      | cons y ys ih =>
        intro vs hy a
        cases a with
        | cons a b =>
          exact .cons (nl_keep (N := hid N ad ds) (fun a z => z.elim .inl fun z => z.go g sub) n y _ (hy y (List.mem_cons_self ..)) (a.less fun b z => .inl z)) (ih _ (fun x hx => hy x (List.mem_cons_of_mem _ hx)) b)
    refine q _ H' _ rfl g (.lst (fun z => ?_) el (all ys vs hn aa))
    rcases z with z | ⟨ws, z⟩
    · exact S.hwf.dom l z hl
    · rw [hl] at z; cases z
theorem evn_t2 (h : EvN cls p ta ds PX) (k : EvN cls p tb ds PY) : EvN cls p (tTup (tCons ta (tCons tb tNil))) ds (fun d => ∃ x y, PX x ∧ PY y ∧ d = .tup [x, y]) := fun pn N H0 ad σ H S Q q => by
  refine h pn N H0 ad σ H S _ fun v H1 dx px g1 a1 => k pn N H0 ad σ H1 (S.mono g1) _ fun w H2 dy py g2 a2 => ⟨by show 2 ≤ sizeLine; decide, fun l hl => ?_⟩
  have g := g1.trans g2
  refine q _ _ _ ⟨dx, dy, px, py, rfl⟩ (g.trans (Go.new hl)) (.tup (fun z => ?_) upd_same (AtAll.mono (p := p) (.cons (a1.mono (fun a z => .inl (S.hsub a z)) g2) (.cons (a2.less (old_less g1 S.hsub)) .nil)) (fun a z => .inl (S.hsub a z)) (Go.new hl)))
  rcases (z.elim .inl fun z => z.go g S.hsub : hid N ad ds l ∨ oldL H2 l) with z | ⟨ws, z⟩
  · exact (S.mono g).hwf.dom l z hl
  · rw [hl] at z; cases z
theorem evn_op {r : R2} (ha : EvN cls p ta ds PX) (hb : EvN cls p tb ds PY) (hr : Rv cls p r PX PY P) : EvN cls p (tOp r ta tb) ds P := fun pn N H0 ad σ H S Q q =>
  ha pn N H0 ad σ H S _ fun x H1 dx px g1 a1 => hb pn N H0 ad σ H1 (S.mono g1) _ fun y H2 dy py g2 a2 =>
    hr _ H2 x y dx dy (wf_old S.hwf (g1.trans g2)) (a1.mono (fun a z => .inl (S.hsub a z)) g2) (a2.less (old_less g1 S.hsub)) px py Q fun v H3 d pd g3 a3 => q v H3 d pd ((g1.trans g2).trans g3) a3
/-- [f(x) for x in xs], each answer new -/
theorem evn_lc {wi : TI} {g : TG} {vs js : List Nat} {xs : List D} {f : D → D} (hi : EI cls p wi ds (· = xs)) (hz : xs.length ≤ 100000) (hj : ∀ j ∈ js, j ∈ vs) (hw : (wipeD ds vs).map ownOf = ds.map ownOf)
    (h : ∀ x ∈ xs, ∃ ds', EvG cls p g js x (wipeD ds vs) ds' ∧ ds'.map ownOf = ds.map ownOf ∧ EvN cls p te ds' (· = f x)) :
    EvN cls p (tLc wi g tYes te vs) ds (· = .lst (xs.map f)) := by
  intro pn N H0 ad σ H S Q q
  refine hi pn N H0 ad σ H S _ fun J H1 xs' qs px g1 hq wk => ?_
  subst px
  intro DD hD
  have S1 := S.mono g1
  have hNl : ¬ hid N ad ds DD := fresh_hid S1.hwf hD
  have hpD : ¬ p DD := fun z => hNl (S1.hsub _ z)
  have h0D : H0 DD = none := old_none S1 hD
  have hp1 : ∀ a, p a → H1 a ≠ none := fun a z => S1.wf.dom a (S1.wf.sub a z)
  let N2 : Addr → Prop := fun a => N a ∨ a = DD
  have hmD : ∀ (i : Nat) (c : Con), ds[i]? = some (some (Slot.mut c)) → ad i ≠ DD := fun i c e z => by
    obtain ⟨_, _, _, _, _, hc⟩ := S1.mt i c e
    exact hc.ne (by rw [z]; exact hD)
  have SL : Sta cls p (qs ++ pn) N2 H0 ad (upd H1 DD (.lst [])) σ ds := (S1.pins hq).lay hD
  let M : Addr → Prop := fun b => hid N2 ad ds b ∨ oldL H1 b
  refine ⟨fun i m H' => m = xs'.length - i ∧ i ≤ xs'.length ∧ (∃ acc, H' DD = some (.lst acc) ∧ AtAll cls M H' acc ((xs'.take i).map f)) ∧ Sta cls p (qs ++ pn) N2 H0 ad H' σ ds ∧ Go p H1 H',
    ⟨xs'.length, by rw [Nat.sub_zero], Nat.zero_le _, ⟨[], upd_same, .nil⟩, SL, (Go.refl H1).chg (H1 := H1) hD hp1⟩, ?_⟩
  rintro i m H' ⟨rfl, hi2, ⟨acc, e, aa⟩, S2, g2⟩
  have wki := wk _ H' S2.hwf (fun x hx => S2.pin x (List.mem_append_left _ hx)) i
  by_cases hlt : i < xs'.length
  · refine .inr ?_
    have ei : xs'[i]? = some xs'[i] := List.getElem?_eq_getElem hlt
    obtain ⟨k1, k2⟩ := wki.1 _ ei
    refine ⟨k1, fun H' => (∃ acc, H' DD = some (.lst acc) ∧ AtAll cls M H' acc ((xs'.take (i + 1)).map f)) ∧ Sta cls p (qs ++ pn) N2 H0 ad H' σ ds ∧ Go p H1 H',
      fun H3 ⟨z1, z2, z3⟩ => ⟨xs'.length - (i + 1), by omega, rfl, hlt, z1, z2, z3⟩, fun x H3 y => ?_⟩
    obtain ⟨g3, a3⟩ := k2 x H3 y
    have S3 := S2.mono g3
    obtain ⟨ds', hg, ho, he⟩ := h xs'[i] (List.getElem_mem hlt)
    have ew : hid N2 ad (wipeD ds vs) = hid N2 ad ds := hid_congr hw
    have ed : hid N2 ad ds' = hid N2 ad ds := hid_congr ho
    refine hg _ N2 H0 ad _ H3 (S3.wipe vs) x (by rw [ew]; exact a3) _ fun σ' S4 w => ⟨?_, ?_⟩
    · rw [w vs hj, wipe_wipe]
    refine (et_yes (cls := cls) (p := p) (ds := ds')) _ N2 H0 ad σ' H3 S4 _ fun c H4 ec g4 => ?_
    have S5 := S3.mono g4
    have tk : xs'.take (i + 1) = xs'.take i ++ [xs'[i]] := by rw [List.take_add_one, ei]; rfl
    subst ec
    rw [if_pos rfl]
    refine he _ N2 H0 ad σ' H4 (S4.mono g4) _ fun v H5 d pd g5 a5 => ?_
    rw [ed] at a5
    subst pd
    have S6 := S5.mono g5
    have gg := ((g3.trans g4).trans g5)
    have e5 : H5 DD = some (.lst acc) := gg.ext _ _ hpD e
    have subM : ∀ a, p a → M a := fun a z => .inl (S2.hsub a z)
    have a6 : AtAll cls M H5 acc ((xs'.take i).map f) := aa.mono subM gg
    have a7 : At cls M H5 v (f xs'[i]) := a5.less (old_less ((g2.trans g3).trans g4) S2.hsub)
    refine ⟨acc, e5, ?_, ⟨_, upd_same, ?_⟩, S6.turn (.inr rfl) hpD h0D hmD, (((g2.trans g3).trans g4).trans g5).chg (H1 := H1) hD hp1⟩
    · have l1 : acc.length = ((xs'.take i).map f).length := aa.length
      rw [List.length_map, List.length_take] at l1
      exact Nat.lt_of_le_of_lt (show acc.length ≤ 100000 by omega) (by decide)
    · rw [tk, List.map_append]
      exact (a6.append (.cons a7 .nil)).keep (fun _ _ n => n) (fun a o n e => by rw [upd_ne (fun z => n (by rw [z]; exact .inl (.inl (.inr rfl))))]; exact e)
  · have ei : i = xs'.length := by omega
    subst ei
    rw [List.take_length] at aa
    refine .inl ⟨wki.2 rfl, q _ H' _ rfl (g1.trans g2) (.lst (fun z => ?_) e (aa.less fun a z => ?_))⟩
    · rcases (z.elim .inl fun z => z.go g1 S.hsub : hid N ad ds DD ∨ oldL H1 DD) with z | ⟨ws, z⟩
      · exact hNl z
      · rw [hD] at z; cases z
    · rcases z with z | z
      · exact z.elim (fun z => .inl (.inl (.inl z))) fun z => .inl (.inr z)
      · exact (z.go g1 S.hsub).elim (fun z => .inl (z.elim (fun z => .inl (.inl z)) .inr)) .inr
/-! ### defs that promise it -/
def spN (cls : Cl) (n : Nat) (pre : (Addr → Prop) → List D → Prop) (F : List D → D → Prop) : Sp := fun vs H Q _ => ∃ (p N : Addr → Prop) (xs : List D), Wf p N H ∧ AtAll cls N H vs xs ∧ xs.length = n ∧ pre p xs ∧
  ∀ v H' d, F xs d → Go p H H' → At cls (fun b => N b ∨ oldL H b) H' v d → Q v H'
variable {n : Nat} {pre : (Addr → Prop) → List D → Prop} {F : List D → D → Prop}
theorem evn_call (h : EvA cls p t ds PA) (hp : ∀ xs, PA xs → xs.length = n ∧ pre p xs ∧ ∀ d, F xs d → P d) : EvN cls p (tCall (spN cls n pre F) [] E0 t) ds P := fun pn N H0 ad σ H S Q q => by
  refine h pn N H0 ad σ H S _ fun vs H1 xs px g1 a1 => ?_
  show spN cls n pre F (vs ++ []) H1 _ E0
  rw [List.append_nil]
  exact ⟨p, hid N ad ds, xs, (S.mono g1).hwf, a1, (hp xs px).1, (hp xs px).2.1, fun v H' d f g2 a2 => q v H' d ((hp xs px).2.2 d f) (g1.trans g2) (a2.less (old_less g1 S.hsub))⟩
/-- o.m() of an object -/
theorem evn_meth {m : Str} {c : Nat} {ns : List Str} {ys : List D} (h : Ev cls p te ds (· = .obj c ns ys)) (hm : m ∉ ns) (hp : n = 1 ∧ pre p [.obj c ns ys]) (hF : ∀ d, F [.obj c ns ys] d → P d) : EvN cls p (tMeth (cls.C c) m (spN cls n pre F) [] E0 te tNil) ds P := fun pn N H0 ad σ H S Q q =>
  h pn N H0 ad σ H S _ fun v H1 d' e' g a => by
    subst e'
    cases a with
    | @obj a dx _ _ vs _ nn r l at_ =>
      have key : ∀ (ns : List Str) (vs : List V), m ∉ ns → (ns.zip vs).lookup m = none := by
        intro ns
        induction ns with
        | nil => intro vs _; rfl
        | cons x ns ih =>
          intro vs hx
          cases vs with
          | nil => rfl
          | cons w vs =>
            rw [List.zip_cons_cons, List.lookup_cons]
            cases e : (m == x) with
            | true => exact absurd (beq_iff_eq.mp e) fun z => hx (by rw [z]; exact List.mem_cons_self ..)
            | false => exact ih vs fun z => hx (List.mem_cons_of_mem _ z)
      exact ⟨a, dx, _, rfl, r, key ns vs hm, p, hid N ad ds, [_], (S.mono g).hwf, .cons (.obj nn r l at_) .nil, hp.1.symm, hp.2, fun v H' d f g2 av => q v H' d (hF d f) (g.trans g2) (av.less (old_less g S.hsub))⟩
theorem ev_meth1 {m : Str} {c : Nat} {ns : List Str} {ys : List D} {x : D} (h : Ev cls p te ds (· = .obj c ns ys)) (k : Ev cls p tx ds (· = x)) (hm : m ∉ ns) (hp : pre p [.obj c ns ys, x]) (hF : ∀ d, F [.obj c ns ys, x] d → P d) : Ev cls p (tMeth (cls.C c) m (spG cls 2 pre F) [] E0 te (tCons tx tNil)) ds P := fun pn N H0 ad σ H S Q q =>
  h pn N H0 ad σ H S _ fun v H1 d' e' g a => by
    subst e'
    have a0 := a
    cases a with
    | @obj a dx _ _ vs _ nn r l at_ =>
      have key : ∀ (ns : List Str) (vs : List V), m ∉ ns → (ns.zip vs).lookup m = none := by
        intro ns
        induction ns with
        | nil => intro vs _; rfl
        | cons x ns ih =>
          intro vs hx
          cases vs with
          | nil => rfl
          | cons w vs =>
            rw [List.zip_cons_cons, List.lookup_cons]
            cases e : (m == x) with
            | true => exact absurd (beq_iff_eq.mp e) fun z => hx (by rw [z]; exact List.mem_cons_self ..)
            | false => exact ih vs fun z => hx (List.mem_cons_of_mem _ z)
      refine ⟨a, dx, _, rfl, r, key ns vs hm, k pn N H0 ad σ H1 (S.mono g) _ fun w H2 dy e2 g2 a2 => ?_⟩
      subst e2
      exact ⟨p, hid N ad ds, [_, _], (S.mono (g.trans g2)).hwf, .cons (a0.mono S.hsub g2) (.cons a2 .nil), rfl, hp, fun v H' d f g3 av => q v H' d (hF d f) ((g.trans g2).trans g3) av⟩
def SvN (cls : Cl) (p : Addr → Prop) (t : TS) (ds : Sts) (F : D → Prop) : Prop := ∀ (N : Addr → Prop) (H0 : Hp) (ad : Nat → Addr) (σ : L2.St) (H : Hp), Sta cls p [] N H0 ad H σ ds → ∀ Dn : Ends,
  (∀ v H' d, F d → Go p H0 H' → At cls (fun b => N b ∨ oldL H0 b) H' v d → Dn.rt v H') → t Dn σ H
theorem svn_seq {F : D → Prop} (h1 : Sv cls p ts ds nx' (fun _ => False) noSt noSt) (h2 : ∀ ds', nx' ds' → SvN cls p tu ds' F) : SvN cls p (tSeq ts tu) ds F := fun N H0 ad σ H S Dn q =>
  h1 [] N H0 ad σ H S { Dn with nx := tu Dn } (fun ad' σ' H' ds' z S' => h2 ds' z N H0 ad' σ' H' S' Dn q) (fun _ _ _ z => z.elim) (fun _ _ _ _ z => z.elim) (fun _ _ _ _ z => z.elim)
theorem svn_ret {F : D → Prop} (h : EvN cls p te ds F) : SvN cls p (tRet te) ds F := fun N H0 ad σ H S Dn q =>
  h [] N H0 ad σ H S _ fun v H1 d pd g a => q v H1 d pd (S.go.trans g) (a.less fun b z => z.elim (fun z => .inl (.inl z)) fun z => (z.go S.go S.wf.sub).elim (fun z => .inl (.inl z)) .inr)
end
theorem gok_n {P : Program} {w : World} {K : PySem.W.Frag} {mg : Str → Option Value} {base : Heap} {k : Nat} {f : Addr} {fd : FuncData} {ps Nm : List Str} {cls : Cl} {n m : Nat} {pre : (Addr → Prop) → List D → Prop} {FF : List D → D → Prop} {x qual : Str} {st : Stmt}
    (F : Fun K x qual st f fd) (S : FnScope Nm ps (defScope st)) (hn : ps.length = n) (hm : Nm.length - n = m)
    (hb : ∀ (cdv : Value) (A : Around) (out : List Env) (s : Shared) (H : Hp) (E : XK), A.guards = some [] → Room k (A.deeper (envOfC qual (defScope st) s.heap.objs.size f cdv)) →
      ∃ t, PSs (cxOf CX0 P w K mg base Nm qual (defScope st) f cdv A out s H E).nox (defBody st) t ∧ ∀ p xs, xs.length = n → pre p xs → SvN cls p t (entry m xs) (FF xs)) :
    GOk P w K mg base (k + 1) f fd ps (spN cls n pre FF) := by
  refine gok_of F S (fun vs H Q E ⟨p, N, xs, _, a, l, _⟩ => by rw [a.length, l, hn]) fun cdv A out s H vs Q E hg hr hs => ?_
  obtain ⟨t, ht, hv⟩ := hb cdv A out s H E hg hr
  obtain ⟨p, N, xs, W, a, l, hp, q⟩ := hs
  refine ⟨t, ht, ?_⟩
  have S0 := sta_entry (Nm := Nm) W a
  rw [a.length, l, hm] at S0
  exact hv p xs l hp N H _ _ H S0 _ q
/-- a method is called -/
def Mth (P : Program) (w : World) (K : PySem.W.Frag) (mg : Str → Option Value) (base : Heap) (C : Addr) (m : Str) (k : Nat) (kws : List (List Str × List Nat)) (ps : List Str) (sp : Sp) : Prop :=
  ∃ (f : Addr) (fd : FuncData), GOk P w K mg base k f fd ps sp ∧ Cls K C ∧ Meth K C m f ∧ Binds K fd ps [] ∧
    ∀ q ∈ kws, ∀ (s : Shared) (u : Value) (ws : List Value), ws.length = q.1.length → BindsTo s fd ⟨[u], q.1.zip ws⟩ (ps.zip (u :: perm q.2 ws))
section
variable {X : Cx} {k : Nat} {C : Addr} {m : Str} {ps : List Str} {kws : List (List Str × List Nat)} {sp : Sp} {ta : TE} {t : TA} {o e : Expr} {es : List Expr} {apos pos : Pos}
theorem pe_methC0 {pl : Sem Bool} (W : Mth X.prog X.w X.K X.mg X.base C m k kws ps sp) (hg : X.A.guards = some []) (hr : Room k X.A) (he : PE X o ta)
    (ht : eval (.Call (.Attribute o m apos) [] [] pos) X.env = (do
      let ov ← eval o X.env
      standAt apos.atName
      let (f, first) ← holding [ov] (getMethod ov m pl)
      callWith pos f first (backTo pos (starEach [] X.env)) (backToKw pos (keywordEach [] X.env))) := by rfl) :
    PE X (.Call (.Attribute o m apos) [] [] pos) (tMeth C m sp [] E0 ta tNil) := by
  obtain ⟨f, fd, F, c, hm, hb, _⟩ := W
  refine ⟨fun pins s σ H Q I h => ?_⟩
  refine PySem.W.methodCall_KW (pl := pl) (thn (he.run pins s σ H _ I h) fun u s1 ⟨x, H1, I1, rx, a, dx, fs, ex, ea, l, q⟩ => ?_) ht
  subst ex
  obtain rfl : u = Value.ref a := rx
  refine getmeth_ok I1 ea c hm l ?_
  exact PySem.W.callWith_K0 (first := [.ref a]) I1.kIn hm.kp (run_g (us := [.ref a]) (vs := [.ref a]) F hg hr hb .nil I1 (.cons rfl .nil) q)
theorem pe_methC {pl : Sem Bool} (W : Mth X.prog X.w X.K X.mg X.base C m k kws ps sp) (hg : X.A.guards = some []) (hr : Room k X.A) (he : PE X o ta) (ha : PA X (e :: es) t)
    (hst : starEach (e :: es) X.env = (false, eval e X.env) :: starEach es X.env := by rfl) (hpl : (backTo pos (starEach es X.env)).any (·.1) = false := by rfl)
    (ht : eval (.Call (.Attribute o m apos) (e :: es) [] pos) X.env = (do
      let ov ← eval o X.env
      standAt apos.atName
      let (f, first) ← holding [ov] (getMethod ov m pl)
      callWith pos f first (backTo pos (starEach (e :: es) X.env)) (backToKw pos (keywordEach [] X.env))) := by rfl) :
    PE X (.Call (.Attribute o m apos) (e :: es) [] pos) (tMeth C m sp [] E0 ta t) := by
  obtain ⟨f, fd, F, c, hm, hb, _⟩ := W
  refine ⟨fun pins s σ H Q I h => ?_⟩
  refine PySem.W.methodCall_KW (pl := pl) (thn (he.run pins s σ H _ I h) fun u s1 ⟨x, H1, I1, rx, a, dx, fs, ex, ea, l, q⟩ => ?_) ht
  subst ex
  obtain rfl : u = Value.ref a := rx
  refine getmeth_ok I1 ea c hm l ?_
  refine PySem.W.callWith_K (first := [.ref a]) (h₀ := X.base) I1.ok.mod.kin hm.kp (thn (ha.run pos pins s1 σ H1 _ I1 q) fun us s2 ⟨vs, H2, I2, r, q2⟩ => ⟨I2.kIn, ?_⟩) hst hpl
  exact run_g (us := .ref a :: us) (vs := .ref a :: vs) F hg hr hb .nil I2 (.cons rfl r) q2
end
end Lk

namespace Lk
open PySem PySem.Spec PyProof.Rows L2 LiI

/-! ### o.m(k = v, ..) -/
def tMethK (C : Addr) (m : Str) (sp : Sp) (is : List Nat) (n : Nat) (ta : TE) (tk : TA) : TE := fun σ H Q => ta σ H fun x H1 => ∃ a dx fs, x = .ref a ∧ H1 a = some (.ins C dx fs) ∧ fs.lookup m = none ∧
  tk σ H1 fun zs H2 => zs.length = n ∧ sp (x :: perm is zs) H2 Q E0
section
variable {X : Cx} {k : Nat} {C : Addr} {m : Str} {ps : List Str} {kws : List (List Str × List Nat)} {sp : Sp} {ta : TE} {tk : TA} {o : Expr} {apos pos : Pos}
theorem pe_methKC {pl : Sem Bool} {ks : List Str} {is : List Nat} {kw : List Keyword} (W : Mth X.prog X.w X.K X.mg X.base C m k kws ps sp) (hin : (ks, is) ∈ kws) (hg : X.A.guards = some []) (hr : Room k X.A) (he : PE X o ta) (hkw : PK X kw tk)
    (hall : (backToKw pos (keywordEach kw X.env)).all (·.1.isSome) = true := by rfl) (hks : (backToKw pos (keywordEach kw X.env)).filterMap (·.1) = ks := by rfl)
    (hpl : ((backTo pos (starEach [] X.env)).any (·.1) || (backToKw pos (keywordEach kw X.env)).any (·.1.isNone)) = false := by rfl)
    (ht : eval (.Call (.Attribute o m apos) [] kw pos) X.env = (do
      let ov ← eval o X.env
      standAt apos.atName
      let (f, first) ← holding [ov] (getMethod ov m pl)
      callWith pos f first (backTo pos (starEach [] X.env)) (backToKw pos (keywordEach kw X.env))) := by rfl) :
    PE X (.Call (.Attribute o m apos) [] kw pos) (tMethK C m sp is ks.length ta tk) := by
  obtain ⟨f, fd, F, c, hm, _, hb⟩ := W
  refine ⟨fun pins s σ H Q I h => ?_⟩
  refine PySem.W.methodCall_KW (pl := pl) (thn (he.run pins s σ H _ I h) fun u s1 ⟨x, H1, I1, rx, a, dx, fs, ex, ea, l, q⟩ => ?_) ht
  subst ex
  obtain rfl : u = Value.ref a := rx
  refine getmeth_ok I1 ea c hm l ?_
  refine PySem.W.callWith_KW0 (first := [.ref a]) (h₀ := X.base) I1.ok.mod.kin hm.kp hall (thn (hkw.run pos pins s1 σ H1 _ I1 q) fun ws s2 ⟨zs, H2, I2, rz, l1, q2⟩ => ⟨I2.kIn, ?_⟩) hpl
  rw [hks]
  have r2 : Vals (V.ref a :: perm is zs) (Value.ref a :: perm is ws) := .cons rfl (Vals.perm rz is)
  refine wpAny_call (codeAny_mono (F.go X.A X.stack s2 H2 ⟨[.ref a], ks.zip ws⟩ (.ref a :: perm is ws) (.ref a :: perm is zs) Q E0 hg hr I2.env0 (hb _ hin s2 (.ref a) ws (rz.length.symm.trans l1)) r2 q2) ?_)
  intro r s' hq
  match r, hq with
  | .error _, hq => exact hq.elim
  | .ok (.ret u), hq => exact I2.after hq
  | .ok .next, hq => exact hq.elim
  | .ok .brk, hq => exact hq.elim
  | .ok .cont, hq => exact hq.elim
end
theorem mth_mk {P : Program} {w : World} {K : PySem.W.Frag} {mg : Str → Option Value} {base : Heap} {x m qual : Str} {C f : Addr} {st : Stmt} {fd : FuncData} {k : Nat} {ps : List Str} {kws : List (List Str × List Nat)} {sp : Sp} (F : Fun K m qual st f fd) (A : ClA K x C)
    (fi : PySem.W.findIn K (.ref C) m = some (some (.ref f))) (fn : PySem.W.isFn K (.ref f) = true) (g : GOk P w K mg base k f fd ps sp) (hb : Binds K fd ps [])
    (hk : ∀ q ∈ kws, ∀ (kV doc pm : Value) (an : Option Addr) (cdv ct : Value) (u : Value) (ws : List Value), ws.length = q.1.length → bindArgs (PySem.W.fnOf m qual (defArgs st) (defBody st) (defScope st) .none kV doc pm an cdv ct) ⟨[u], q.1.zip ws⟩ = pure (ps.zip (u :: perm q.2 ws))) :
    Mth P w K mg base C m k kws ps sp := by
  refine ⟨f, fd, g, A.cl.cl, ⟨fi, fn, F.kp⟩, hb, fun q hq s u ws hl => ?_⟩
  obtain ⟨oc, od, kV, doc, pm, an, cdv, ct, osl, rfl, lk, hcd⟩ := F.ex
  exact .of_eq (hk q hq kV doc pm an cdv ct u ws hl)
theorem lookup_none {m : Str} : ∀ {ns : List Str} {vs : List V}, m ∉ ns → (ns.zip vs).lookup m = none
  | [], _, _ => rfl
  | _ :: _, [], _ => rfl
  | x :: ns, w :: vs, hx => by
    rw [List.zip_cons_cons, List.lookup_cons]
    cases e : (m == x) with
    | true => exact absurd (beq_iff_eq.mp e) fun z => hx (by rw [z]; exact List.mem_cons_self ..)
    | false => exact lookup_none fun z => hx (List.mem_cons_of_mem _ z)
section
variable {cls : Cl} {p : Addr → Prop} {ds : Sts} {te tx : TE} {P : D → Prop} {pre : (Addr → Prop) → List D → Prop} {F : List D → D → Prop}
theorem ev_fmtI {i : Int} (h : Ev cls p te ds (· = .int i)) (hi : i.natAbs < 2 ^ 1900) : Ev cls p (tFmt te) ds (· = .str (toString i)) := fun pn N H0 ad σ H S Q q =>
  h pn N H0 ad σ H S _ fun v H1 d e g a => by
    subst e
    cases a
    refine .inr ⟨i, rfl, ?_, q _ H1 _ rfl g (.str _)⟩
    by_cases z : i.natAbs = 0
    · rw [z]; decide
    · exact Nat.lt_of_lt_of_le ((Nat.log2_lt z).mpr hi) (by decide)
theorem ev_methK1 {m : Str} {c : Nat} {ns : List Str} {ys : List D} {x : D} (h : Ev cls p te ds (· = .obj c ns ys)) (k : Ev cls p tx ds (· = x)) (hm : m ∉ ns) (hp : pre p [.obj c ns ys, x]) (hF : ∀ d, F [.obj c ns ys, x] d → P d) : Ev cls p (tMethK (cls.C c) m (spG cls 2 pre F) [0] 1 te (tCons tx tNil)) ds P := fun pn N H0 ad σ H S Q q =>
  h pn N H0 ad σ H S _ fun v H1 d' e' g a => by
    subst e'
    have a0 := a
    cases a with
    | @obj a dx _ _ vs _ nn r l at_ =>
      refine ⟨a, dx, _, rfl, r, lookup_none hm, k pn N H0 ad σ H1 (S.mono g) _ fun w H2 dy e2 g2 a2 => ⟨rfl, ?_⟩⟩
      subst e2
      exact ⟨p, hid N ad ds, [_, _], (S.mono (g.trans g2)).hwf, .cons (a0.mono S.hsub g2) (.cons a2 .nil), rfl, hp, fun v H' d f g3 av => q v H' d (hF d f) ((g.trans g2).trans g3) av⟩
end

/-! ### objects that reach no list that stood before -/
def spInitN (cls : Cl) (c n : Nat) (ns : List Str) (pre : List D → Prop) (G : List D → List D → Prop) : Sp := fun vs H Q _ => ∃ (p N : Addr → Prop) (a dx : Addr) (vs' : List V) (xs : List D),
  vs = .ref a :: vs' ∧ N a ∧ ¬ p a ∧ H a = some (.ins (cls.C c) dx []) ∧ Wf p N H ∧ AtAll cls N H vs' xs ∧ xs.length = n ∧ pre xs ∧
    ∀ (H' : Hp) (ts : List V) (ys : List D), GoX p a H H' → H' a = some (.ins (cls.C c) dx (ns.zip ts)) → ns.length = ts.length → AtAll cls (fun b => N b ∨ oldL H b) H' ts ys → G xs ys → Q .non H'
section
variable {cls : Cl} {p : Addr → Prop} {ds ds' : Sts} {ta tb tc te : TE} {P PX PY : D → Prop} {t : TA} {PA : List D → Prop} {K : PySem.W.Frag} {c n : Nat} {ns : List Str} {pre : List D → Prop} {G : List D → List D → Prop}
theorem make_atN {N : Addr → Prop} {H : Hp} {vs : List V} {xs : List D} {Q : VK} (W : Wf p N H) (a : AtAll cls N H vs xs) (hl : xs.length = n) (hp : pre xs)
    (q : ∀ v H' ys, G xs ys → Go p H H' → At cls (fun b => N b ∨ oldL H b) H' v (.obj c ns ys) → Q v H') {x dx : Addr} (hx : H x = none) (hd : H dx = none) (hne : dx ≠ x) :
    spInitN cls c n ns pre G (.ref x :: vs) (upd (upd H dx (.own x)) x (.ins (cls.C c) dx [])) (fun v H2 => v = .non ∧ Q (.ref x) H2) E0 := by
  have keepH : ∀ b o, H b = some o → (upd (upd H dx (.own x)) x (.ins (cls.C c) dx [])) b = some o := fun b o e => by
    rw [upd_ne (ne_of_none e hx), upd_ne (ne_of_none e hd)]; exact e
  have nN : ¬ N x := fun z => W.dom x z hx
  have npx : ¬ p x := fun z => nN (W.sub x z)
  refine ⟨p, fun b => N b ∨ b = x, x, dx, vs, xs, rfl, .inr rfl, npx, upd_same, ⟨fun b hb => .inl (W.sub b hb), fun b hb => ?_, fun b hb => ?_⟩, a.keep (fun b hb hn z => ?_) (fun b o _ e => keepH b o e), hl, hp, fun H' ts ys g e l at_ gg => ⟨rfl, ?_⟩⟩
  · rcases hb with hb | rfl
    · obtain ⟨o, e⟩ := some_of (W.dom b hb)
      rw [keepH b o e]; exact fun z => nomatch z
    · rw [upd_same]; exact fun z => nomatch z
  · obtain ⟨i, j, e, r⟩ := W.pot b hb
    exact ⟨i, j, keepH _ _ e, r⟩
  · rcases z with z | z
    · exact hn z
    · exact hb (by rw [z]; exact hx)
  · refine q (.ref x) H' ys gg ⟨fun b o n e => g.ext b o n (fun z => by rw [z, hx] at e; cases e) (keepH b o e), fun b hb hpot => g.pot b hb (by obtain ⟨i, j, e, r⟩ := hpot; exact ⟨i, j, keepH _ _ e, r⟩)⟩ (.obj (fun z => ?_) e l (at_.less fun b z => z.elim (fun z => .inl (.inl z)) fun ⟨ws, z⟩ => .inr ⟨ws, keepH _ _ z⟩))
    rcases z with z | ⟨ws, z⟩
    · exact nN z
    · rw [hx] at z; cases z
theorem evn_make (h : EvA cls p t ds PA) (hp : ∀ xs, PA xs → xs.length = n ∧ pre xs ∧ ∀ ys, G xs ys → P (.obj c ns ys)) : EvN cls p (tMk (cls.C c) (spInitN cls c n ns pre G) n t) ds P := fun pn N H0 ad σ H S Q q =>
  h pn N H0 ad σ H S _ fun vs H1 xs ps g1 a1 => ⟨a1.length.trans (hp xs ps).1, fun x dx hx hd hne =>
    make_atN (S.mono g1).hwf a1 (hp xs ps).1 (hp xs ps).2.1 (fun v H' ys gg g2 av => q v H' _ ((hp xs ps).2.2 ys gg) (g1.trans g2) (av.less (old_less g1 S.hsub))) hx hd hne⟩
theorem evn_makeK {m : Nat} {is : List Nat} (h : EvA cls p t ds PA) (hp : ∀ xs, PA xs → xs.length = m ∧ (perm is xs).length = n ∧ pre (perm is xs) ∧ ∀ ys, G (perm is xs) ys → P (.obj c ns ys)) : EvN cls p (tMkK (cls.C c) (spInitN cls c n ns pre G) is m t) ds P := fun pn N H0 ad σ H S Q q =>
  h pn N H0 ad σ H S _ fun vs H1 xs ps g1 a1 => ⟨a1.length.trans (hp xs ps).1, fun x dx hx hd hne =>
    make_atN (S.mono g1).hwf (a1.perm is) (hp xs ps).2.1 (hp xs ps).2.2.1 (fun v H' ys gg g2 av => q v H' _ ((hp xs ps).2.2.2 ys gg) (g1.trans g2) (av.less (old_less g1 S.hsub))) hx hd hne⟩
structure IniM (cls : Cl) (p N M : Addr → Prop) (a dx C : Addr) (ns : List Str) (xs : List D) (H : Hp) (σ : L2.St) (ds : Sts) : Prop where
  sta : ∃ ad, Sta cls p [] N H ad H σ ds
  no : ∀ (i : Nat) (ys : List D), ds[i]? ≠ some (some (Slot.own ys))
  obj : ∃ vs, H a = some (.ins C dx (ns.zip vs)) ∧ ns.length = vs.length ∧ AtAll cls M H vs xs
def SvJ (cls : Cl) (c : Nat) (p : Addr → Prop) (a : Addr) (t : TS) (ds : Sts) (ns : List Str) (xs : List D) (post : Sts → List Str → List D → Prop) : Prop := ∀ (N : Addr → Prop) (Hs : Hp) (dx : Addr) (H : Hp) (σ : L2.St), N a → ¬ p a → ds[0]? = some (some (Slot.dat (.adr a))) → (∀ b, oldL Hs b → N b ∨ oldL H b) →
  IniM cls p N (fun b => N b ∨ oldL Hs b) a dx (cls.C c) ns xs H σ ds → ∀ Dn : Ends, (∀ σ' H' ds' ns' xs', GoX p a H H' → ds'[0]? = some (some (Slot.dat (.adr a))) → (∀ b, oldL Hs b → N b ∨ oldL H' b) → IniM cls p N (fun b => N b ∨ oldL Hs b) a dx (cls.C c) ns' xs' H' σ' ds' → post ds' ns' xs' → Dn.nx σ' H') → t Dn σ H
variable {xs : List D} {a : Addr} {u ts : TS} {mid post : Sts → List Str → List D → Prop} {nx : Sts → Prop}
theorem svj_seq (h : SvJ cls c p a ts ds ns xs mid) (k : ∀ ds' ns' xs', mid ds' ns' xs' → SvJ cls c p a u ds' ns' xs' post) : SvJ cls c p a (tSeq ts u) ds ns xs post := fun N Hs dx H σ ha hp h0 ol I Dn q =>
  h N Hs dx H σ ha hp h0 ol I { Dn with nx := u Dn } fun σ1 H1 ds1 ns1 xs1 g z ol1 I1 m => k ds1 ns1 xs1 m N Hs dx H1 σ1 ha hp z ol1 I1 Dn fun σ' H' ds' ns' xs' g' z' ol' I' po => q σ' H' ds' ns' xs' (g.trans g') z' ol' I' po
theorem svj_next (h : post ds ns xs) : SvJ cls c p a tNext ds ns xs post := fun N Hs dx H σ ha hp h0 ol I Dn q => q σ H ds ns xs (GoX.of (Go.refl H)) h0 ol I h
theorem old_x {N : Addr → Prop} {Hs H H' : Hp} (ol : ∀ b, oldL Hs b → N b ∨ oldL H b) (g : GoX p a H H') (ha : N a) (sub : ∀ b, p b → N b) : ∀ b, oldL Hs b → N b ∨ oldL H' b := fun b z => by
  rcases ol b z with z | ⟨ws, z⟩
  · exact .inl z
  · by_cases e : b = a
    · exact .inl (by rw [e]; exact ha)
    · by_cases hb : p b
      · exact .inl (sub b hb)
      · exact .inr ⟨ws, g.ext b _ hb e z⟩
theorem svj_sv (h : Sv cls p ts ds nx (fun _ => False) noSt noSt) (hn : ∀ ds', nx ds' → (∀ (i : Nat) (ys : List D), ds'[i]? ≠ some (some (Slot.own ys))) ∧ ds'[0]? = some (some (Slot.dat (.adr a))) ∧ ∀ (i : Nat) (c : Con), ds'[i]? ≠ some (some (Slot.mut c))) : SvJ cls c p a ts ds ns xs (fun ds' ns' xs' => nx ds' ∧ ns' = ns ∧ xs' = xs) := fun N Hs dx H σ ha hp h0 ol I Dn q => by
  obtain ⟨⟨ad, S⟩, no, vs, e, l, at_⟩ := I
  refine h [] N H ad σ H S Dn (fun ad' σ' H' ds' z S' => ?_) (fun _ _ _ z => z.elim) (fun _ _ _ _ z => z.elim) (fun _ _ _ _ z => z.elim)
  obtain ⟨n1, n2, n3⟩ := hn ds' z
  exact q σ' H' ds' ns xs (GoX.of S'.go) n2 (old_x ol (GoX.of S'.go) ha S.wf.sub) ⟨⟨ad', S'.wf, Go.refl _, S'.len, S'.dat, fun i ys e => absurd e (n1 i ys), S'.pin, fun i j xs ys e => absurd e (n1 i xs), fun i c e => absurd e (n3 i c), fun i j c c' e => absurd e (n3 i c)⟩, n1, vs, S'.go.ext a _ hp e, l, at_.mono (fun b z => .inl (S.wf.sub b z)) S'.go⟩ ⟨z, rfl, rfl⟩
theorem svj_fld {f : Str} (h : EvN cls p te ds P) (hc : Fdc K (cls.C c) f) (hf : f ∉ ns) (hl : ns.length < 1000) : SvJ cls c p a (sFld K (tVar 0) te f) ds ns xs (fun ds' ns' xs' => ds' = ds ∧ ns' = ns ++ [f] ∧ ∃ d, P d ∧ xs' = xs ++ [d]) := fun N Hs dx H σ ha hp h0 ol I Dn q => by
  obtain ⟨⟨ad, S⟩, no, vs, e, l, at_⟩ := I
  refine h [] N H ad σ H S _ fun y H1 d pd g1 a1 => ?_
  have S1 := S.mono g1
  obtain ⟨v, h1, h2⟩ := S1.dat 0 _ h0
  cases h2
  have e1 : H1 a = some (.ins (cls.C c) dx (ns.zip vs)) := g1.ext a _ hp e
  refine ⟨.ref a, h1, a, _, dx, _, rfl, e1, hc.1, hc.2, ?_, ?_⟩
  · rw [List.length_zip]; omega
  have kp : ∀ b o, ¬ (N b ∨ oldL Hs b) → H1 b = some o → (upd H1 a (.ins (cls.C c) dx (putF f y (ns.zip vs)))) b = some o := fun b o n eb => by
    rw [upd_ne (fun z => n (.inl (by rw [z]; exact ha)))]; exact eb
  have gx : GoX p a H (upd H1 a (.ins (cls.C c) dx (putF f y (ns.zip vs)))) := ⟨fun b o n m eb => by rw [upd_ne m]; exact g1.ext b o n eb, fun b hb hpot => by
    obtain ⟨i, j, ei, r⟩ := g1.pot b hb hpot
    exact ⟨i, j, by rw [upd_ne (fun z => hp (by rw [← z]; exact hb))]; exact ei, r⟩⟩
  refine q σ _ ds (ns ++ [f]) (xs ++ [d]) gx h0 (old_x ol gx ha S.wf.sub) ⟨⟨ad, S1.store no S.nomut ha hp⟩, no, vs ++ [y], ?_, ?_, ?_⟩ ⟨rfl, rfl, d, pd, rfl⟩
  · rw [upd_same, putF_zip hf l]
  · rw [List.length_append, List.length_append, l]; rfl
  · exact AtAll.append ((at_.mono (fun b z => .inl (S.wf.sub b z)) g1).keep (fun _ _ n => n) kp) (.cons ((a1.less fun b z => z.elim (fun z => .inl (.inl z)) fun z => (ol b z).elim (fun z => .inl (.inl z)) .inr).keep (fun _ _ n => n) kp) .nil)
theorem gok_initN {Pg : Program} {w : World} {mg : Str → Option Value} {base : Heap} {k : Nat} {f : Addr} {fd : FuncData} {ps Nm : List Str} {n m : Nat} {pre : List D → Prop} {G : List D → List D → Prop} {x qual : Str} {st : Stmt}
    (F : Fun K x qual st f fd) (S : FnScope Nm ps (defScope st)) (hn : ps.length = n + 1) (hm : Nm.length - (n + 1) = m)
    (hb : ∀ (cdv : Value) (A : Around) (out : List Env) (s : Shared) (H : Hp) (E : XK), A.guards = some [] → Room k (A.deeper (envOfC qual (defScope st) s.heap.objs.size f cdv)) →
      ∃ t, PSs (cxOf CX0 Pg w K mg base Nm qual (defScope st) f cdv A out s H E).nox (defBody st) t ∧ ∀ p a xs, xs.length = n → pre xs → SvJ cls c p a t (entry m (.adr a :: xs)) [] [] (fun _ ns' ys => ns' = ns ∧ G xs ys)) :
    GOk Pg w K mg base (k + 1) f fd ps (spInitN cls c n ns pre G) := by
  refine gok_of F S (fun vs H Q E ⟨p, N, a, dx, vs', xs, e, _, _, _, _, at_, l, _⟩ => by rw [e, List.length_cons, at_.length, l, hn]) fun cdv A out s H vs Q E hg hr hs => ?_
  obtain ⟨t, ht, hv⟩ := hb cdv A out s H E hg hr
  obtain ⟨p, N, a, dx, vs', xs, rfl, ha, hp, e, W, at_, l, hpre, q⟩ := hs
  refine ⟨t, ht, ?_⟩
  have S0 := sta_entry (Nm := Nm) W (AtAll.cons (.adr a) at_)
  have no : ∀ (i : Nat) (ys : List D), (entry m (.adr a :: xs))[i]? ≠ some (some (Slot.own ys)) := fun i ys e => by
    have : ∀ (l : Sts), (∀ o ∈ l, ∀ ys, o ≠ some (Slot.own ys)) → l[i]? ≠ some (some (Slot.own ys)) := fun l h e => h _ (List.mem_of_getElem? e) ys rfl
    refine this _ ?_ e
    intro o ho ys z
    subst z
    unfold entry at ho
    rcases List.mem_append.mp ho with ho | ho
    · obtain ⟨d, _, e⟩ := List.mem_map.mp ho
      cases e
    · have := List.eq_of_mem_replicate ho
      cases this
  rw [List.length_cons, at_.length, l, hm] at S0
  exact hv p a xs l hpre N H dx H _ ha hp rfl (fun b z => .inr z) ⟨⟨_, S0⟩, no, [], e, rfl, .nil⟩ _ fun σ' H' ds' ns' ys g z ol I po => by
    obtain ⟨rfl, gg⟩ := po
    obtain ⟨_, _, ts, e', l', at'⟩ := I
    exact q H' ts ys g e' l' at' gg
end

/-! ### lists that only a block changes -/
section
variable {cls : Cl} {p N : Addr → Prop} {pn : List (V × D)} {H0 H H' : Hp} {ad : Nat → Addr} {σ : L2.St} {ds : Sts} {ta tb te tg tc tm : TE} {P : D → Prop} {ts tu : TS} {nx nx' bk ct : Sts → Prop} {rt : D → Prop} {K : PySem.W.Frag} {t : TA} {PA : List D → Prop}
theorem Sta.hideP {M : Addr → Prop} (E : Sta cls p pn N H0 ad H σ ds) (g : Go p H H') (hM : ∀ l, M l → H l = none ∧ H' l ≠ none) : Sta cls p pn (fun b => N b ∨ M b) H0 ad H' σ ds := by
  have nl : ∀ a, H a ≠ none → ¬ M a := fun a h z => h (hM a z).1
  have hd : ∀ a, H a ≠ none → ¬ hid N ad ds a → ¬ hid (fun a => N a ∨ M a) ad ds a := fun a h n z => by
    rcases z with (z | z) | z
    · exact n (.inl z)
    · exact nl a h z
    · exact n (.inr z)
  have kk : ∀ a u, ¬ hid N ad ds a → H a = some u → H' a = some u := fun a u n e => g.ext a u (fun z => n (E.hsub a z)) e
  have E1 := E.mono g
  refine ⟨⟨fun a h => .inl (E.wf.sub a h), fun a h => ?_, E1.wf.pot⟩, E1.go, E.len, fun i d e => ?_, fun i xs e => ?_, fun q hq => (E.pin q hq).keep hd kk, E.inj, fun i c e => ?_, E.minj⟩
  · rcases h with h | h
    · exact E1.wf.dom a h
    · exact (hM a h).2
  · obtain ⟨v, h1, h2⟩ := E.dat i d e
    exact ⟨v, h1, h2.keep hd kk⟩
  · obtain ⟨h1, h2, h3, vs, h4, h5⟩ := E.own i xs e
    refine ⟨h1, fun z => ?_, h3, vs, g.ext _ _ (fun z => h2 (E.wf.sub _ z)) h4, h5.keep hd kk⟩
    rcases z with z | z
    · exact h2 z
    · exact nl _ (by rw [h4]; exact fun z => nomatch z) z
  · obtain ⟨v, h1, h2, h3, h4, h5⟩ := E.mt i c e
    exact ⟨v, h1, .inl h2, h3, h4, h5.keep hd kk fun u e => g.ext _ u h3 e⟩
structure Fz (p N : Addr → Prop) (H0 H : Hp) (b : Nat) (g c l t : Addr) : Prop where
  ng : N g
  nc : N c
  nl : N l
  pg : ¬ p g
  pc : ¬ p c
  pl : ¬ p l
  pt : ¬ p t
  g0 : H0 g = none
  c0 : H0 c = none
  l0 : H0 l = none
  gc : g ≠ c
  gl : g ≠ l
  cl : c ≠ l
  eg : ∃ vs, H g = some (.lst vs) ∧ vs.length ≤ b
  ec : ∃ vr, H c = some (.lst (.ref t :: vr))
  et : ∃ v0, H t = some (.tup [v0, .ref l])
  el : ∃ ws, H l = some (.lst ws) ∧ ws.length ≤ 100001
theorem Fz.mono {b : Nat} {g c l t : Addr} (F : Fz p N H0 H b g c l t) (k : Go p H H') : Fz p N H0 H' b g c l t :=
  ⟨F.ng, F.nc, F.nl, F.pg, F.pc, F.pl, F.pt, F.g0, F.c0, F.l0, F.gc, F.gl, F.cl, let ⟨vs, e, h⟩ := F.eg; ⟨vs, k.ext _ _ F.pg e, h⟩, let ⟨vs, e⟩ := F.ec; ⟨vs, k.ext _ _ F.pc e⟩, let ⟨vs, e⟩ := F.et; ⟨vs, k.ext _ _ F.pt e⟩, let ⟨vs, e, h⟩ := F.el; ⟨vs, k.ext _ _ F.pl e, h⟩⟩
def SvF (cls : Cl) (p : Addr → Prop) (t : TS) (ds : Sts) (b : Nat) (g c l tt : Addr) (rt : D → Prop) : Prop := ∀ (N : Addr → Prop) (H0 : Hp) (ad : Nat → Addr) (σ : L2.St) (H : Hp), Sta cls p [] N H0 ad H σ ds → Fz p N H0 H b g c l tt → ∀ Dn : Ends,
  (∀ v H' d, rt d → Go p H0 H' → At cls N H' v d → Dn.rt v H') → t Dn σ H
variable {g c l tt : Addr} {b : Nat}
/-- a statement that knows nothing of them -/
theorem svf_seq (no : ∀ (i : Nat) (ys : List D), ds[i]? ≠ some (some (Slot.own ys))) (nm : ∀ (i : Nat) (c : Con), ds[i]? ≠ some (some (Slot.mut c))) (h1 : Sv cls p ts ds nx' (fun _ => False) noSt noSt) (h2 : ∀ ds', nx' ds' → SvF cls p tu ds' b g c l tt rt) : SvF cls p (tSeq ts tu) ds b g c l tt rt := fun N H0 ad σ H S F Dn q => by
  have S1 : Sta cls p [] N H ad H σ ds := ⟨S.wf, Go.refl H, S.len, S.dat, fun i ys e => absurd e (no i ys), S.pin, S.inj, fun i c e => absurd e (nm i c), S.minj⟩
  refine h1 [] N H ad σ H S1 { Dn with nx := tu Dn } (fun ad' σ' H' ds' z S' => ?_) (fun _ _ _ z => z.elim) (fun _ _ _ _ z => z.elim) (fun _ _ _ _ z => z.elim)
  refine h2 ds' z N H0 ad' σ' H' ⟨S'.wf, S.go.trans S'.go, S'.len, S'.dat, fun i ys e => ?_, S'.pin, S'.inj, fun i c e => ?_, S'.minj⟩ (F.mono S'.go) Dn q
  · obtain ⟨k1, k2, k3, k4⟩ := S'.own i ys e
    exact ⟨k1, k2, old_none S k3, k4⟩
  · obtain ⟨v, k1, k2, k3, k4, k5⟩ := S'.mt i c e
    exact ⟨v, k1, k2, k3, old_none S k4, k5⟩
theorem svf_appG {i : Nat} (e : ds[i]? = some (some (Slot.dat (.adr g)))) (nm : ∀ (i : Nat) (c : Con), ds[i]? ≠ some (some (Slot.mut c))) (hb : b ≤ 100001) (h : Ev cls p te ds P) (k : SvF cls p tu ds (b + 1) g c l tt rt) : SvF cls p (tSeq (tDrop (tBM K "list" rAppend (tVar i) (tCons te tNil))) tu) ds b g c l tt rt := fun N H0 ad σ H S F Dn q => by
  obtain ⟨v, h1, h2⟩ := S.dat i _ e
  cases h2
  obtain ⟨vs, eg, lg⟩ := F.eg
  refine ⟨.ref g, h1, .inl ⟨rfl, vs, .inl (.inl eg)⟩, h [] N H0 ad σ H S _ fun w H1 d pd g1 a => ?_⟩
  have F1 := F.mono g1
  have eg1 : H1 g = some (.lst vs) := g1.ext _ _ F.pg eg
  refine ⟨g, vs, w, rfl, rfl, eg1, Nat.lt_of_le_of_lt (Nat.le_trans lg hb) (by decide), ?_⟩
  have S2 := (S.mono g1).turn (o := .lst (vs ++ [w])) F.ng F.pg F.g0 fun i c e => absurd e (nm i c)
  obtain ⟨ws, el, ll⟩ := F1.el
  obtain ⟨vr, ec⟩ := F1.ec
  obtain ⟨v0, et⟩ := F1.et
  have tg : tt ≠ g := fun z => by rw [z, eg1] at et; cases et
  exact k N H0 ad σ _ S2 ⟨F.ng, F.nc, F.nl, F.pg, F.pc, F.pl, F.pt, F.g0, F.c0, F.l0, F.gc, F.gl, F.cl, ⟨_, upd_same, by rw [List.length_append]; exact Nat.succ_le_succ lg⟩, ⟨vr, by rw [upd_ne (Ne.symm F.gc)]; exact ec⟩, ⟨v0, by rw [upd_ne tg]; exact et⟩, ⟨ws, by rw [upd_ne (Ne.symm F.gl)]; exact el, ll⟩⟩ Dn q
theorem atI_zero {α : Type} {x : α} {xs : List α} : atI (x :: xs) 0 = some x := by
  unfold atI ixN
  rw [if_pos (Int.le_refl 0), if_pos (by rw [List.length_cons]; omega)]
  rfl
theorem At.lst_inv {M : Addr → Prop} {v : V} {ds : List D} (h : At cls M H v (.lst ds)) : ∃ a vs, v = .ref a ∧ ¬ M a ∧ H a = some (.lst vs) ∧ AtAll cls M H vs ds := by
  cases h with | lst n e a => exact ⟨_, _, rfl, n, e, a⟩
theorem At.tup_inv {M : Addr → Prop} {v : V} {ds : List D} (h : At cls M H v (.tup ds)) : ∃ a vs, v = .ref a ∧ ¬ M a ∧ H a = some (.tup vs) ∧ AtAll cls M H vs ds := by
  cases h with | tup n e a => exact ⟨_, _, rfl, n, e, a⟩
/-- name[0][1].append(e), then name.pop() -/
theorem svf_appL {j : Nat} (e : ds[j]? = some (some (Slot.dat (.adr c)))) (nm : ∀ (i : Nat) (c : Con), ds[i]? ≠ some (some (Slot.mut c))) (h : Ev cls p te ds P) (k : Sv cls p tu ds (fun _ => False) rt noSt noSt) :
    SvF cls p (tSeq (tDrop (tBM K "list" rAppend (tOp (rIx K) (tOp (rIx K) (tVar j) (tC (.int 0))) (tC (.int 1))) (tCons te tNil))) (tSeq (tDrop (tBM0 K "list" rPop (tVar j))) tu)) ds b g c l tt rt := fun N H0 ad σ H S F Dn q => by
  obtain ⟨v, h1, h2⟩ := S.dat j _ e
  cases h2
  obtain ⟨ws, el, ll⟩ := F.el
  obtain ⟨vr, ec⟩ := F.ec
  obtain ⟨v0, et⟩ := F.et
  refine ⟨.ref c, h1, .inl ⟨c, .ref tt :: vr, 0, .ref tt, rfl, rfl, .inl (.inl ec), atI_zero, ?_⟩⟩
  refine .inr (.inl ⟨tt, [v0, .ref l], 1, .ref l, rfl, rfl, .inl (.inl et), rfl, ?_⟩)
  refine ⟨.inl ⟨rfl, ws, .inl (.inl el)⟩, h [] N H0 ad σ H S _ fun w H1 d pd g1 a => ?_⟩
  have el1 : H1 l = some (.lst ws) := g1.ext _ _ F.pl el
  refine ⟨l, ws, w, rfl, rfl, el1, Nat.lt_of_le_of_lt ll (by decide), ?_⟩
  have S2 := (S.mono g1).turn (o := .lst (ws ++ [w])) F.nl F.pl F.l0 fun i c e => absurd e (nm i c)
  have ec2 : (upd H1 l (.lst (ws ++ [w]))) c = some (.lst (.ref tt :: vr)) := by rw [upd_ne F.cl]; exact g1.ext _ _ F.pc ec
  refine ⟨.ref c, h1, .inl ⟨rfl, _, .inl (.inl ec2)⟩, ?_⟩
  have hl : (V.ref tt :: vr)[(V.ref tt :: vr).length - 1]? = some ((V.ref tt :: vr)[(V.ref tt :: vr).length - 1]'(by rw [List.length_cons]; omega)) := List.getElem?_eq_getElem _
  refine ⟨c, _, _, rfl, rfl, ec2, hl, ?_⟩
  have S3 := S2.turn (o := .lst (V.ref tt :: vr).dropLast) F.nc F.pc F.c0 fun i c e => absurd e (nm i c)
  exact k [] N H0 ad σ _ S3 Dn (fun _ _ _ _ z => z.elim) q (fun _ _ _ _ z => z.elim) (fun _ _ _ _ z => z.elim)
theorem set_no {l : Sts} {i : Nat} {d : D} (no : ∀ (i : Nat) (ys : List D), l[i]? ≠ some (some (Slot.own ys))) : ∀ (j : Nat) (ys : List D), (l.set i (some (Slot.dat d)))[j]? ≠ some (some (Slot.own ys)) := fun j ys e => by
  rcases get_set e with ⟨_, z, _⟩ | ⟨_, z⟩
  · cases z
  · exact no j ys z
/-- a, b = a new list, a list of new tuples with new lists; x = what reaches none of them -/
theorem sv_block {i j k : Nat} {xs : List D} {s0 : D} {bs yr : List D} {dd : D} (no : ∀ (i : Nat) (ys : List D), ds[i]? ≠ some (some (Slot.own ys)))
    (hg : EvF cls p tg ds (· = xs)) (lx : xs.length ≤ 100000) (hc : EvN cls p tc ds (· = .lst (.tup [s0, .lst bs] :: yr))) (lb : bs.length ≤ 100000) (hb : ∀ d ∈ bs, ∃ x y : Int, d = .tup [.int x, .int y]) (nij : i ≠ j) (no' : ∀ (i : Nat) (c : Con), ds[i]? ≠ some (some (Slot.mut c)))
    (hm : EvN cls p tm ((ds.set i (some (Slot.dat (.lst xs)))).set j (some (Slot.dat (.lst (.tup [s0, .lst bs] :: yr))))) (· = dd))
    (kk : ∀ g c l tt, SvF cls p tu (((ds.set i (some (Slot.dat (.adr g)))).set j (some (Slot.dat (.adr c)))).set k (some (Slot.dat dd))) 100000 g c l tt rt) :
    Sv cls p (tSeq (tPar i j (tCons tg (tCons tc tNil))) (tSeq (tAsg tm (gName k)) tu)) ds nx rt noSt noSt := fun pn N H0 ad σ H S Dn q1 q2 q3 q4 => by
  have hidN : ∀ {l : Sts}, (∀ (i : Nat) (ys : List D), l[i]? ≠ some (some (Slot.own ys))) → ∀ b, hid N ad l b → N b := fun no b z => z.elim id fun ⟨i, ys, e, _⟩ => absurd e (no i ys)
  refine hg pn N H0 ad σ H S _ fun g H1 vs xs' ex g1 hgn eg ag => ?_
  subst ex
  refine hc pn N H0 ad σ H1 (S.mono g1) _ fun v H2 d ed g2 a2 => ?_
  subst ed
  have a2' : At cls (hid N ad ds) H2 v (.lst (.tup [s0, .lst bs] :: yr)) := a2.less fun b z => .inl z
  obtain ⟨c, vr0, rfl, nc, ec, ac⟩ := a2.lst_inv
  cases ac with
  | @cons vt vr _ _ at_ ar =>
  obtain ⟨t, vt0, rfl, nt, et, att⟩ := at_.tup_inv
  cases att with
  | @cons v0 _ _ _ a0 at1 =>
  cases at1 with
  | @cons vl _ _ _ al at2 =>
  cases at2
  obtain ⟨l, ws, rfl, nl, el, aw⟩ := al.lst_inv
  have gg := g1.trans g2
  have S2 := S.mono gg
  have pg : ¬ p g := fun z => (S.wf.pot g z).some hgn
  have eg2 : H2 g = some (.lst vs) := g2.ext _ _ pg eg
  have new1 : ∀ {x : Addr} {ws : List V}, ¬ (hid N ad ds x ∨ oldL H1 x) → H2 x = some (.lst ws) → H x = none := fun {x ws} n e => by
    cases q : H x with
    | none => rfl
    | some o =>
      have px : ¬ p x := fun z => n (.inl (S.hsub x z))
      have h1 := g1.ext x o px q
      have h2 := g2.ext x o px h1
      rw [e] at h2
      cases h2
      exact absurd ⟨ws, h1⟩ fun z => n (.inr z)
  have hc0 := new1 nc ec
  have hl0 := new1 nl el
  have pc : ¬ p c := fun z => nc (.inl (S.hsub c z))
  have pl : ¬ p l := fun z => nl (.inl (S.hsub l z))
  have pt : ¬ p t := fun z => nt (.inl (S.hsub t z))
  have gc : g ≠ c := fun z => nc (.inr ⟨vs, by rw [← z]; exact eg⟩)
  have gl : g ≠ l := fun z => nl (.inr ⟨vs, by rw [← z]; exact eg⟩)
  have cl : c ≠ l := fun z => by
    rw [z, el] at ec
    cases ec
    cases aw with
    | @cons w wr d dr aw1 aw2 =>
      obtain ⟨x, y, rfl⟩ := hb _ (List.mem_cons_self ..)
      obtain ⟨t2, vt2, e1, n2, e2, a3⟩ := aw1.tup_inv
      cases e1
      rw [et] at e2
      cases e2
      cases a3 with
      | cons _ a4 => cases a4 with
        | cons a5 _ => cases a5
  have SO := (S2.put (i := i) (v := .ref g) (d := .lst xs') (.lst (fresh_hid S.hwf hgn) eg2 (ag.less (fun b z => .inl z) |>.mono S.hsub g2)))
  have SO2 := SO.put (i := j) (v := .ref c) (d := .lst (.tup [s0, .lst bs] :: yr)) (a2'.less hid_set)
  refine ⟨.ref g, .ref c, rfl, ?_⟩
  refine hm pn N H0 ad _ H2 SO2 _ fun w H3 d ed g3 a3 => ?_
  subst ed
  let M : Addr → Prop := fun b => b = g ∨ b = c ∨ b = l
  have g13 := gg.trans g3
  have eg3 := g3.ext _ _ pg eg2
  have ec3 := g3.ext _ _ pc ec
  have el3 := g3.ext _ _ pl el
  have SH := S.hideP (M := M) g13 fun x z => by
    rcases z with rfl | rfl | rfl
    · exact ⟨hgn, by rw [eg3]; exact fun z => nomatch z⟩
    · exact ⟨hc0, by rw [ec3]; exact fun z => nomatch z⟩
    · exact ⟨hl0, by rw [el3]; exact fun z => nomatch z⟩
  have SH2 := ((SH.put (i := i) (v := .ref g) (d := .adr g) (.adr g)).put (i := j) (v := .ref c) (d := .adr c) (.adr c))
  have a3' : At cls (hid (fun b => N b ∨ M b) ad ((ds.set i (some (Slot.dat (.adr g)))).set j (some (Slot.dat (.adr c))))) H3 w d := a3.less fun b z => by
    rcases z with (z | z) | ⟨i, ys, e, _⟩
    · exact .inl (.inl z)
    · rcases z with rfl | rfl | rfl
      · exact .inr ⟨_, eg2⟩
      · exact .inr ⟨_, ec⟩
      · exact .inr ⟨_, el⟩
    · exact absurd e (set_no (set_no no) i ys)
  have SH3 := SH2.put (i := k) a3'
  refine kk g c l t (fun b => N b ∨ M b) H0 ad _ H3 ⟨SH3.wf, SH3.go, SH3.len, SH3.dat, SH3.own, (fun _ hq => nomatch hq), SH3.inj, SH3.mt, SH3.minj⟩ ⟨.inr (.inl rfl), .inr (.inr (.inl rfl)), .inr (.inr (.inr rfl)), pg, pc, pl, pt, old_none S hgn, old_none S hc0, old_none S hl0, gc, gl, cl, ⟨vs, eg3, by rw [ag.length]; exact lx⟩, ⟨vr, ec3⟩, ⟨v0, g3.ext _ _ pt et⟩, ⟨ws, el3, by rw [aw.length]; omega⟩⟩ Dn fun v H' d rd gd ad_ => q2 v H' d rd gd (ad_.less fun b z => .inl z)
/-- what a call answers is changed, and no more seen -/
theorem sv_appNew {ys : List D} (h : EvN cls p te ds (· = .lst ys)) (hz : ys.length ≤ 100000) (h2 : Ev cls p ta ds P) (k : nx ds) : Sv cls p (tDrop (tBM K "list" rAppend te (tCons ta tNil))) ds nx rt bk ct := fun pn N H0 ad σ H S Dn q1 q2 q3 q4 => by
  refine h pn N H0 ad σ H S _ fun v H1 d ed g1 a1 => ?_
  subst ed
  obtain ⟨l, vs, rfl, nl, el, aa⟩ := a1.lst_inv
  have pl : ¬ p l := fun z => nl (.inl (S.hsub l z))
  refine ⟨.inl ⟨rfl, vs, .inl (.inl el)⟩, h2 pn N H0 ad σ H1 (S.mono g1) _ fun w H2 d2 pd g2 a2 => ?_⟩
  have el2 := g2.ext _ _ pl el
  refine ⟨l, vs, w, rfl, rfl, el2, Nat.lt_of_le_of_lt (by rw [aa.length]; exact hz) (by decide), ?_⟩
  have h0 : H l = none := by
    cases q : H l with
    | none => rfl
    | some o =>
      have := g1.ext l o pl q
      rw [el] at this
      cases this
      exact absurd ⟨vs, q⟩ fun z => nl (.inr z)
  exact q1 ad σ _ ds k (S.mono ((g1.trans g2).chg (H1 := H) h0 fun a z => S.wf.dom a (S.wf.sub a z)))
/-- x[0] of such an answer, and x[1] -/
theorem evn_ix0 {y : D} {ys : List D} (h : EvN cls p te ds (· = .lst (y :: ys))) : EvN cls p (tOp (rIx K) te (tC (.int 0))) ds (· = y) :=
  evn_op h (evn_int ev_int) fun N H x z dx dz W ax az px pz Q q => by
    subst px pz
    cases az
    obtain ⟨a, vs, rfl, n, e, aa⟩ := ax.lst_inv
    cases aa with
    | cons a1 a2 => exact .inl ⟨a, _, 0, _, rfl, rfl, .inl (.inl e), atI_zero, q _ H _ rfl (Go.refl H) a1⟩
theorem evn_ix1 {x y : D} (h : EvN cls p te ds (· = .tup [x, y])) : EvN cls p (tOp (rIx K) te (tC (.int 1))) ds (· = y) :=
  evn_op h (evn_int ev_int) fun N H x' z dx dz W ax az px pz Q q => by
    subst px pz
    cases az
    obtain ⟨a, vs, rfl, n, e, aa⟩ := ax.tup_inv
    cases aa with
    | cons a1 a2 => cases a2 with
      | cons a2 a3 =>
        cases a3
        exact .inr (.inl ⟨a, _, 1, _, rfl, rfl, .inl (.inl e), rfl, q _ H _ rfl (Go.refl H) a2⟩)
end
end Lk

namespace Lk
open PySem PySem.Spec PyProof.Rows L2 LiI

theorem opInDK {X : Cx} {K : PySem.W.Frag} (h : X.K = K) (hu : X.A.units + 65 < cLine) : OpR X (compareOp .In) (rInD K) := by subst h; exact op_inD hu
theorem opNotInDK {X : Cx} {K : PySem.W.Frag} (h : X.K = K) (hu : X.A.units + 65 < cLine) : OpR X (compareOp .NotIn) (rNotInD K) := by subst h; exact op_notInD hu
theorem room_65 {k : Nat} {A : Around} (h : Room k A) : A.units + 65 < cLine := by
  have := h.un
  omega
section
variable {cls : Cl} {p : Addr → Prop} {ds : Sts} {ta tb te tl tr : TE} {P PX PY : D → Prop} {K : PySem.W.Frag}
def isNon : D → Bool
  | .non => true
  | _ => false
theorem at_non {M : Addr → Prop} {H : Hp} {v : V} {d : D} (h : At cls M H v d) : decide (v = V.non) = isNon d := by
  cases h <;> rfl
theorem rv_isN {d : D} : Rv cls p rIsN (· = d) (· = .non) (· = .bl (isNon d)) := fun N H x y dx dy W ax ay px py' Q q => by
  subst px py'
  have e := at_non ax
  cases ay
  exact ⟨rfl, by rw [e]; exact q _ H _ rfl (Go.refl H) (.bl _)⟩
theorem rv_notN {d : D} : Rv cls p rNotN (· = d) (· = .non) (· = .bl (!isNon d)) := fun N H x y dx dy W ax ay px py' Q q => by
  subst px py'
  have e := at_non ax
  cases ay
  exact ⟨rfl, by rw [e]; exact q _ H _ rfl (Go.refl H) (.bl _)⟩
/-- x is None, x is not None -/
theorem ev_isN {d : D} (h : Ev cls p tl ds (· = d)) (k : Ev cls p tr ds (· = .non)) : Ev cls p (tOp rIsN tl tr) ds (· = .bl (isNon d)) := ev_op h k rv_isN
theorem ev_notN {d : D} (h : Ev cls p tl ds (· = d)) (k : Ev cls p tr ds (· = .non)) : Ev cls p (tOp rNotN tl tr) ds (· = .bl (!isNon d)) := ev_op h k rv_notN
theorem et_isN {d : D} (h : Ev cls p tl ds (· = d)) (k : Ev cls p tr ds (· = .non)) : ET cls p (tTest (tOp rIsN tl tr)) ds (· = isNon d) := (et_test (ev_isN h k) blP).mono fun b e => D.bl.inj e
theorem et_notN {d : D} (h : Ev cls p tl ds (· = d)) (k : Ev cls p tr ds (· = .non)) : ET cls p (tTest (tOp rNotN tl tr)) ds (· = !isNon d) := (et_test (ev_notN h k) blP).mono fun b e => D.bl.inj e
/-- i << j -/
theorem ev_shlI {i j : Int} (h : Ev cls p ta ds (· = .int i)) (k : Ev cls p tb ds (· = .int j)) (hc : CShl i j) : Ev cls p (tOp (rI CShl fun i j => .int (i * 2 ^ j.toNat)) ta tb) ds (· = .int (i * 2 ^ j.toNat)) :=
  (ev_op h k (rv_IC intP intP fun i j hi hj => by cases hi; cases hj; exact hc)).mono fun d ⟨i, j, hi, hj, e⟩ => by cases hi; cases hj; exact e
/-- x in xs, of data -/
theorem rv_inD {d : D} {xs : List D} {n : Nat} (hn : n ≤ 63) (h1 : okD n d = true) (h2 : ∀ x ∈ xs, okD n x = true) : Rv cls p (rInD K) (· = d) (· = .lst xs) (· = .bl (xs.any fun z => PyData.eqv (py z) (py d))) := fun N H x y dx dy W ax ay px py' Q q => by
  subst px py'
  have h3 : okD (n + 1) (.lst xs) = true := List.all_eq_true.mpr h2
  have e : ∀ xs : List D, ((pyAll xs).any fun z => PyData.eqv z (py dx)) = xs.any fun z => PyData.eqv (py z) (py dx) := by
    intro xs
    induction xs with
    | nil => rfl
    | cons x xs ih =>
      show (PyData.eqv (py x) (py dx) || (pyAll xs).any _) = _
      rw [ih]
      rfl
  refine ⟨py dx, pyAll xs, dp_of n dx x (.inl h1) ax, dp_of (n + 1) (.lst xs) y (.inl h3) ay, okD_shaped h1 (by omega), okD_shaped h3 (by omega), ?_⟩
  rw [e]
  exact q _ H _ rfl (Go.refl H) (.bl _)
theorem ev_inD {d : D} {xs : List D} {n : Nat} (h : Ev cls p tl ds (· = d)) (k : Ev cls p tr ds (· = .lst xs)) (hn : n ≤ 63) (h1 : okD n d = true) (h2 : ∀ x ∈ xs, okD n x = true) : Ev cls p (tOp (rInD K) tl tr) ds (· = .bl (xs.any fun z => PyData.eqv (py z) (py d))) := ev_op h k (rv_inD hn h1 h2)
theorem et_inD {d : D} {xs : List D} {n : Nat} (h : Ev cls p tl ds (· = d)) (k : Ev cls p tr ds (· = .lst xs)) (hn : n ≤ 63) (h1 : okD n d = true) (h2 : ∀ x ∈ xs, okD n x = true) : ET cls p (tTest (tOp (rInD K) tl tr)) ds (· = xs.any fun z => PyData.eqv (py z) (py d)) := (et_test (ev_inD h k hn h1 h2) blP).mono fun b e => D.bl.inj e
/-- whole numbers: a row in a list of rows -/
theorem any_row (k : Bool) (a : List Int) (rs : List (List Int)) : ((rs.map (row k)).any fun z => PyData.eqv (py z) (py (row k a))) = decide (a ∈ rs) := by
  induction rs with
  | nil => rw [List.map_nil, List.any_nil, decide_eq_false List.not_mem_nil]
  | cons b rs ih =>
    rw [List.map_cons, List.any_cons, ih, eqv_row, Bool.eq_iff_iff, Bool.or_eq_true, decide_eq_true_iff, decide_eq_true_iff, decide_eq_true_iff, List.mem_cons]
    exact or_congr_left eq_comm
end
end Lk

namespace Lk
open PySem PySem.Spec PyProof.Rows L2 LiI
section
variable {cls : Cl} {p : Addr → Prop} {ds : Sts} {te : TE} {K : PySem.W.Frag}
/-- [f(x, y) for x in xs if b(x) for y in ys(x) if c(x, y)] -/
theorem ev_lc2 {wi wi1 : TI} {g g1 : TG} {tt tt1 : TT} {vs vs1 js js1 : List Nat} {xs : List D} {b : D → Bool} {X1 : D → List D} {b1 : D → D → Bool} {f : D → D → D} (hi : EI cls p wi ds (· = xs)) (hz : ((xs.filter b).flatMap fun x => ((X1 x).filter (b1 x)).map (f x)).length ≤ 100000)
    (hj : ∀ j ∈ js, j ∈ vs) (hj1 : ∀ j ∈ js1, j ∈ vs1) (hv : ∀ j ∈ vs1, j ∈ vs) (hw : (wipeD ds vs).map ownOf = ds.map ownOf)
    (h : ∀ x ∈ xs, ∃ ds1, EvG cls p g js x (wipeD ds vs) ds1 ∧ ds1.map ownOf = ds.map ownOf ∧ ET cls p tt ds1 (· = b x) ∧ (b x = true → ds1.all notMut = true ∧ EI cls p wi1 ds1 (· = X1 x) ∧ (wipeD ds1 vs1).map ownOf = ds.map ownOf ∧
      ∀ y ∈ X1 x, ∃ ds2, EvG cls p g1 js1 y (wipeD ds1 vs1) ds2 ∧ ds2.map ownOf = ds.map ownOf ∧ ET cls p tt1 ds2 (· = b1 x y) ∧ (b1 x y = true → Ev cls p te ds2 (· = f x y)))) :
    Ev cls p (tLc2 wi g tt wi1 g1 tt1 te vs vs1) ds (· = .lst ((xs.filter b).flatMap fun x => ((X1 x).filter (b1 x)).map (f x))) := by
  intro pn N H0 ad σ H S Q q
  refine hi pn N H0 ad σ H S _ fun J H1 xs' qs px g1' hq wk => ?_
  subst px
  intro DD hD
  have S1 := S.mono g1'
  have hNl : ¬ hid N ad ds DD := fresh_hid S1.hwf hD
  have hpD : ¬ p DD := fun z => hNl (S1.hsub _ z)
  have h0D : H0 DD = none := old_none S1 hD
  have hp1 : ∀ a, p a → H1 a ≠ none := fun a z => S1.wf.dom a (S1.wf.sub a z)
  let N2 : Addr → Prop := fun a => N a ∨ a = DD
  have hmD : ∀ (i : Nat) (c : Con), ds[i]? = some (some (Slot.mut c)) → ad i ≠ DD := fun i c e z => by
    obtain ⟨_, _, _, _, _, hc⟩ := S1.mt i c e
    exact hc.ne (by rw [z]; exact hD)
  have SL : Sta cls p (qs ++ pn) N2 H0 ad (upd H1 DD (.lst [])) σ ds := (S1.pins hq).lay hD
  let R : D → List D := fun x => ((X1 x).filter (b1 x)).map (f x)
  let RR : List D → List D := fun xs => (xs.filter b).flatMap R
  refine ⟨fun i m H' => m = xs'.length - i ∧ i ≤ xs'.length ∧ (∃ acc, H' DD = some (.lst acc) ∧ AtAll cls (hid N2 ad ds) H' acc (RR (xs'.take i))) ∧ Sta cls p (qs ++ pn) N2 H0 ad H' σ ds ∧ Go p H1 H',
    ⟨xs'.length, by rw [Nat.sub_zero], Nat.zero_le _, ⟨[], upd_same, .nil⟩, SL, (Go.refl H1).chg (H1 := H1) hD hp1⟩, ?_⟩
  rintro i m H' ⟨rfl, hi2, ⟨acc, e, aa⟩, S2, g2⟩
  have wki := wk _ H' S2.hwf (fun x hx => S2.pin x (List.mem_append_left _ hx)) i
  by_cases hlt : i < xs'.length
  · refine .inr ?_
    have ei : xs'[i]? = some xs'[i] := List.getElem?_eq_getElem hlt
    obtain ⟨k1, k2⟩ := wki.1 _ ei
    refine ⟨k1, fun H' => (∃ acc, H' DD = some (.lst acc) ∧ AtAll cls (hid N2 ad ds) H' acc (RR (xs'.take (i + 1)))) ∧ Sta cls p (qs ++ pn) N2 H0 ad H' σ ds ∧ Go p H1 H',
      fun H3 ⟨z1, z2, z3⟩ => ⟨xs'.length - (i + 1), by omega, rfl, hlt, z1, z2, z3⟩, fun x H3 y => ?_⟩
    obtain ⟨g3, a3⟩ := k2 x H3 y
    have S3 := S2.mono g3
    obtain ⟨ds1, hg, ho, ht, he⟩ := h xs'[i] (List.getElem_mem hlt)
    have ew : hid N2 ad (wipeD ds vs) = hid N2 ad ds := hid_congr hw
    have ed : hid N2 ad ds1 = hid N2 ad ds := hid_congr ho
    refine hg _ N2 H0 ad _ H3 (S3.wipe vs) x (by rw [ew]; exact a3) _ fun σ2 S4 w => ⟨?_, ?_⟩
    · rw [w vs hj, wipe_wipe]
    refine ht _ N2 H0 ad σ2 H3 S4 _ fun c H4 ec g4 => ?_
    have S5 := S3.mono g4
    have S5' := S4.mono g4
    have tk : xs'.take (i + 1) = xs'.take i ++ [xs'[i]] := by rw [List.take_add_one, ei]; rfl
    have split : RR (xs'.take (i + 1)) = RR (xs'.take i) ++ (if b xs'[i] = true then R xs'[i] else []) := by
      show ((xs'.take (i + 1)).filter b).flatMap R = _
      rw [tk, List.filter_append, List.flatMap_append]
      congr 1
      cases hb : b xs'[i] with
      | true => rw [List.filter_cons, hb, if_pos rfl, if_pos rfl, List.filter_nil, List.flatMap_cons, List.flatMap_nil, List.append_nil]
      | false => rw [List.filter_cons, hb, if_neg Bool.false_ne_true, if_neg Bool.false_ne_true, List.filter_nil, List.flatMap_nil]
    subst ec
    cases hb : b xs'[i] with
    | true =>
      rw [if_pos rfl]
      rw [hb, if_pos rfl] at split
      obtain ⟨hnm, hi1, hw1, hy⟩ := he hb
      refine hi1 _ N2 H0 ad σ2 H4 S5' _ fun J1 H5 ys qs1 py g5 hq1 wk1 => ?_
      subst py
      have S6 := S5.mono g5
      have S6' := S5'.mono g5
      have hq1' : ∀ x ∈ qs1, At cls (hid N2 ad ds) H5 x.1 x.2 := fun x hx => by rw [← ed]; exact hq1 x hx
      have gg := (g3.trans g4).trans g5
      have e5 : H5 DD = some (.lst acc) := gg.ext _ _ hpD e
      have a5 : AtAll cls (hid N2 ad ds) H5 acc (RR (xs'.take i)) := aa.mono S2.hsub gg
      refine ⟨fun j k H' => k = (X1 xs'[i]).length - j ∧ j ≤ (X1 xs'[i]).length ∧ (∃ acc, H' DD = some (.lst acc) ∧ AtAll cls (hid N2 ad ds) H' acc (RR (xs'.take i) ++ (((X1 xs'[i]).take j).filter (b1 xs'[i])).map (f xs'[i]))) ∧ Sta cls p (qs1 ++ (qs ++ pn)) N2 H0 ad H' σ ds ∧ Sta cls p (qs1 ++ (qs ++ pn)) N2 H0 ad H' σ2 ds1 ∧ Go p H1 H',
        ⟨(X1 xs'[i]).length, by rw [Nat.sub_zero], Nat.zero_le _, ⟨acc, e5, by rw [List.take_zero, List.filter_nil, List.map_nil, List.append_nil]; exact a5⟩, S6.pins hq1', S6'.pins hq1, g2.trans gg⟩, ?_⟩
      rintro j k H7 ⟨rfl, hj2, ⟨acc7, e7, a7⟩, S7, S7', g7⟩
      have wkj := wk1 _ H7 S7'.hwf (fun x hx => S7'.pin x (List.mem_append_left _ hx)) j
      by_cases hlt2 : j < (X1 xs'[i]).length
      · refine .inr ?_
        have ej : (X1 xs'[i])[j]? = some (X1 xs'[i])[j] := List.getElem?_eq_getElem hlt2
        obtain ⟨l1, l2⟩ := wkj.1 _ ej
        refine ⟨l1, fun H' => (∃ acc, H' DD = some (.lst acc) ∧ AtAll cls (hid N2 ad ds) H' acc (RR (xs'.take i) ++ (((X1 xs'[i]).take (j + 1)).filter (b1 xs'[i])).map (f xs'[i]))) ∧ Sta cls p (qs1 ++ (qs ++ pn)) N2 H0 ad H' σ ds ∧ Sta cls p (qs1 ++ (qs ++ pn)) N2 H0 ad H' σ2 ds1 ∧ Go p H1 H',
          fun H8 ⟨z1, z2, z3, z4⟩ => ⟨(X1 xs'[i]).length - (j + 1), by omega, rfl, hlt2, z1, z2, z3, z4⟩, fun x2 H8 y2 => ?_⟩
        obtain ⟨g8, a8⟩ := l2 x2 H8 y2
        have S8 := S7.mono g8
        have S8' := S7'.mono g8
        obtain ⟨ds2, hg1, ho1, ht1, he1⟩ := hy (X1 xs'[i])[j] (List.getElem_mem hlt2)
        have ew1 : hid N2 ad (wipeD ds1 vs1) = hid N2 ad ds := hid_congr hw1
        have ed1 : hid N2 ad ds2 = hid N2 ad ds := hid_congr ho1
        refine hg1 _ N2 H0 ad _ H8 (S8'.wipe vs1) x2 (by rw [ew1, ← ed]; exact a8) _ fun σ3 S9 w3 => ⟨?_, ?_⟩
        · rw [w3 vs1 hj1, wipe_wipe]
        refine ht1 _ N2 H0 ad σ3 H8 S9 _ fun c H9 ec g9 => ?_
        subst ec
        have tk2 : (X1 xs'[i]).take (j + 1) = (X1 xs'[i]).take j ++ [(X1 xs'[i])[j]] := by rw [List.take_add_one, ej]; rfl
        cases hb2 : b1 xs'[i] (X1 xs'[i])[j] with
        | true =>
          rw [if_pos rfl]
          refine he1 hb2 _ N2 H0 ad σ3 H9 (S9.mono g9) _ fun v H10 d pd g10 a10 => ?_
          subst pd
          rw [ed1] at a10
          have gx := (g8.trans g9).trans g10
          have e10 : H10 DD = some (.lst acc7) := gx.ext _ _ hpD e7
          have a11 := a7.mono S7.hsub gx
          have T1 := S7.mono gx
          have T2 := S7'.mono gx
          have hmD1 : ∀ (i : Nat) (c : Con), ds1[i]? = some (some (Slot.mut c)) → ad i ≠ DD := fun i c ec => absurd ec (noMut_of hnm i c)
          refine ⟨acc7, e10, ?_, ⟨_, upd_same, ?_⟩, T1.turn (.inr rfl) hpD h0D hmD, T2.turn (.inr rfl) hpD h0D hmD1, (g7.trans gx).chg (H1 := H1) hD hp1⟩
          · have l7 : acc7.length = (RR (xs'.take i) ++ (((X1 xs'[i]).take j).filter (b1 xs'[i])).map (f xs'[i])).length := a7.length
            have l8 : ((((X1 xs'[i]).take j).filter (b1 xs'[i])).map (f xs'[i])).length ≤ (R xs'[i]).length := by
              show _ ≤ (((X1 xs'[i]).filter (b1 xs'[i])).map (f xs'[i])).length
              rw [List.length_map, List.length_map]
              exact ((List.take_sublist j (X1 xs'[i])).filter (b1 xs'[i])).length_le
            have l9 : (RR xs').length = (RR (xs'.take (i + 1))).length + (RR (xs'.drop (i + 1))).length := by
              rw [← List.length_append]
              congr 1
              show (xs'.filter b).flatMap R = ((xs'.take (i + 1)).filter b).flatMap R ++ ((xs'.drop (i + 1)).filter b).flatMap R
              rw [← List.flatMap_append, ← List.filter_append, List.take_append_drop]
            rw [split, List.length_append] at l9
            rw [List.length_append] at l7
            have hz' : (RR xs').length ≤ 100000 := hz
            exact Nat.lt_of_le_of_lt (show acc7.length ≤ 100000 by omega) (by decide)
          · rw [tk2, List.filter_append, List.map_append, List.filter_cons, hb2, if_pos rfl, List.filter_nil, List.map_cons, List.map_nil, ← List.append_assoc]
            exact (a11.append (.cons a10 .nil)).keep (fun _ _ n => n) (fun a o n e => by rw [upd_ne (fun z => n (by rw [z]; exact .inl (.inr rfl)))]; exact e)
        | false =>
          rw [if_neg Bool.false_ne_true]
          have gx := g8.trans g9
          refine ⟨⟨acc7, gx.ext _ _ hpD e7, ?_⟩, S7.mono gx, S7'.mono gx, g7.trans gx⟩
          rw [tk2, List.filter_append, List.map_append, List.filter_cons, hb2, if_neg Bool.false_ne_true, List.filter_nil, List.map_nil, List.append_nil]
          exact a7.mono S7.hsub gx
      · have ejn : j = (X1 xs'[i]).length := by omega
        subst ejn
        rw [List.take_length] at a7
        refine .inl ⟨wkj.2 rfl, ⟨acc7, e7, by rw [split]; exact a7⟩, ?_, g7⟩
        exact S7.unpin
    | false =>
      rw [if_neg Bool.false_ne_true]
      rw [hb, if_neg Bool.false_ne_true, List.append_nil] at split
      exact ⟨⟨acc, (g3.trans g4).ext _ _ hpD e, by rw [split]; exact aa.mono S2.hsub (g3.trans g4)⟩, S5, (g2.trans g3).trans g4⟩
  · have ein : i = xs'.length := by omega
    subst ein
    rw [List.take_length] at aa
    exact .inl ⟨wki.2 rfl, q _ H' _ rfl (g1'.trans g2) (.lst hNl e (aa.less fun a z => z.elim (fun y => .inl (.inl y)) .inr))⟩
end
end Lk

namespace Lk
open PySem PySem.Spec PyProof.Rows L2

/-! ### a list or a tuple is walked -/
def iSeq (K : PySem.W.Frag) (tl : TE) : TI := fun σ H R => tl σ H fun x H1 => ∃ a, x = .ref a ∧ (((∃ xs, SqL K H1 a xs) ∧ R (Itl K a) H1) ∨ ((∃ xs, SqT K H1 a xs) ∧ R (Itt K a) H1))
theorem pi_seq {X : Cx} {tg l : Expr} {tl : TE} {K : PySem.W.Frag} (hK : X.K = K) (hl : PE X l tl) : PI X tg l (iSeq K tl) := by
  subst hK
  refine ⟨fun pins s σ H R I h => ?_⟩
  refine thn (hl.run pins s σ H _ I h) fun v s1 ⟨x, H1, I1, r1, q1⟩ => ?_
  obtain ⟨a, e, q1⟩ := q1
  subst e
  cases r1
  rcases q1 with ⟨⟨xs, hq⟩, q⟩ | ⟨⟨xs, hq⟩, q⟩
  · obtain ⟨its, rv, p, hz⟩ := I1.list hq
    refine wpAny_pyIter_list p.isList ?_
    refine ⟨s1.heap.objs.size, [s1.heap.objs.size], _, _, H1, rfl, I1.kept (t' := s1.toks) fun b o e => Heap.get?_push_of_some _ e, turn_list a _, ⟨_, Heap.get?_push_size _ rfl, rfl, rfl⟩, fun b hb => ?_, q⟩
    have e : b = s1.heap.objs.size := by simpa using hb
    subst e
    exact I1.fpOk (Nat.le_refl _) (I1.hok.fresh (Nat.le_refl _))
  · obtain ⟨its, rv, p, hz⟩ := I1.tuple hq
    refine wpAny_pyIter_tuple (show s1.heap.IsTuple a its.toArray from p) ?_
    refine ⟨s1.heap.objs.size, [s1.heap.objs.size], _, _, H1, rfl, I1.kept (t' := s1.toks) fun b o e => Heap.get?_push_of_some _ e, turn_tuple a _, ⟨_, Heap.get?_push_size _ rfl, rfl, rfl⟩, fun b hb => ?_, q⟩
    have e : b = s1.heap.objs.size := by simpa using hb
    subst e
    exact I1.fpOk (Nat.le_refl _) (I1.hok.fresh (Nat.le_refl _))

/-! ### enumerate of a list or a tuple -/
def IteS (K : PySem.W.Frag) (k : Bool) (a : Addr) : It :=
  ⟨fun i H => ∃ (xs : List V) (x : V), SqK K k H a xs ∧ xs[i]? = some x, fun i H v H' => ∃ T x, v = .ref T ∧ H T = none ∧ H' = upd H T (.tup [.int (i : Nat), x]) ∧ ∀ xs, SqK K k H a xs → xs[i]? = some x, fun i H => ∃ xs : List V, SqK K k H a xs ∧ i = xs.length⟩
set_option maxHeartbeats 4000000 in
theorem meets_enumerate_newB1 {v : Value} {o : Obj} {H : Heap → Prop} (B : Begins v o H) :
    Meets (Builtin.«enumerate.__new__» ⟨[.type "enumerate", v], []⟩) (fun _ R s => H s.heap ∧
      R (.ok (.ret (.ref (s.heap.push o).objs.size))) { s with heap := (s.heap.push o).push { cls := .type "enumerate", data := .fields #[.none, .bool false, .ref s.heap.objs.size, rawInt 0, .none, .none] } }) :=
  .of_wp fun prog w A R s h => by
    obtain ⟨hp, g, d, tk, os⟩ := s; obtain ⟨h1, h⟩ := h
    have hsub := sub_enumerate
    have q1 : ∀ {A' : Around} {E : Value → Shared → Prop} {Q : Value → Shared → Prop}, Q (.ref hp.objs.size) ⟨hp.push o, g, d, tk, os⟩ → wpAny (model prog w) A' (pyIter v) Q E ⟨hp, g, d, tk, os⟩ :=
      fun q => B.iter prog w _ _ ⟨hp, g, d, tk, os⟩ _ h1 q
    wp_walk using q1
    refine wpAny_stack_any fun st => wpAny_pure ?_
    split
    · rename_i c _ _ _ _ _
      cases (c == Value.type "enumerate")
      · wp_walk using q1
        exact ⟨_, rfl, h⟩
      · wp_walk using q1
        exact ⟨_, rfl, h⟩
    · wp_walk using q1
      exact ⟨_, rfl, h⟩
section
variable {prog : Program} {w : World} {A : Around} {E : Value → Shared → Prop} {s : Shared}
theorem enum_begins1 {v : Value} {o : Obj} {H : Heap → Prop} {Q : Value → Shared → Prop} (B : Begins v o H) (h1 : H s.heap)
    (h : ∀ h', IsEnum h' (s.heap.objs.size + 1) s.heap.objs.size 0 .none → h'.get? s.heap.objs.size = some o → h'.objs.size = s.heap.objs.size + 2 →
      (∀ b o, s.heap.get? b = some o → h'.get? b = some o) → Q (.ref (s.heap.objs.size + 1)) { s with heap := h' }) :
    wpAny (model prog w) A (call (.type "enumerate") [v]) Q E s := by
  refine callType_new F.called_enumerate (by decide) (F.typeCall_enumerate_1 _) (F.newCall_enumerate_1 _) (fun obj => F.args_object_init_2 obj _) F.entry_enumerate_new
    (meets_enumerate_newB1 B) ⟨h1, ?_⟩
  have hz : (s.heap.push o).objs.size = s.heap.objs.size + 1 := Heap.size_push ..
  show _ ∧ _
  rw [hz]
  have he : IsEnum ((s.heap.push o).push { cls := .type "enumerate", data := .fields #[.none, .bool false, .ref s.heap.objs.size, rawInt 0, .none, .none] }) (s.heap.objs.size + 1) s.heap.objs.size 0 .none := by
    have := Heap.get?_push_size (s.heap.push o) (o := { cls := .type "enumerate", data := .fields #[.none, .bool false, .ref s.heap.objs.size, rawInt 0, .none, .none] }) rfl
    rw [hz] at this; exact this
  refine ⟨⟨_, he, rfl⟩, h _ he (Heap.get?_push_of_some _ (Heap.get?_push_size _ B.free)) (by rw [Heap.size_push, hz]) fun b o x => Heap.get?_push_of_some _ (Heap.get?_push_of_some _ x)⟩
end
theorem turn_enumS {P : Program} {w : World} {K : PySem.W.Frag} {elts : List Expr} {kk : Nat} {tpos : Pos} {k : Bool} (a e it : Addr) :
    Turn P w K (.Tuple elts kk tpos) (IteS K k a) [e, it] e (fun i h => (∃ old, IsEnum h e it ((i : Nat) : Int) old) ∧ ItPos k h it a i ∧ e ≠ it ∧ a ≠ e) where
  mem := by simp
  obj := fun i h st b hb => by
    obtain ⟨⟨old, he⟩, hp, _⟩ := st
    have e' : b = e ∨ b = it := by simpa using hb
    rcases e' with z | z
    · rw [z]; exact ⟨_, he, fun v q => nomatch q⟩
    · rw [z]; exact itPos_live hp
  keep := fun i h h' st k => let ⟨⟨old, he⟩, hi, hne⟩ := st; ⟨⟨old, k e (by simp) _ he⟩, itPos_keep hi fun o q => k it (by simp) o q, hne⟩
  item := by
    intro X hP hw hK hc i pins s σ H E I hf st hg
    subst hP hw hK
    obtain ⟨⟨old, he⟩, hit, hne, hae⟩ := st
    obtain ⟨xs, x, hq, hx⟩ := hg
    obtain ⟨its, rv, pk, hz⟩ := seqK I hq
    obtain ⟨u, hu, ru⟩ := rv.get hx
    have hel : e < s.heap.objs.size := Heap.lt_size he
    have hil : it < s.heap.objs.size := by obtain ⟨_, q, _⟩ := itPos_live hit; exact Heap.lt_size q
    have hh : X.A.handled = none := I.ok.hd hc
    have nai : a ≠ it := apartK hit pk
    have hlt : i < its.toArray.size := by
      have := (List.getElem?_eq_some_iff.mp hu).1
      simpa using this
    refine wpAny_pyNext_enum_itemC (drawsK (A := X.A.in1) hh k it a nai its.toArray) he ⟨hit, pk⟩ hlt hne (fun z => by
      have z : e = it ∨ e = a := by simpa using z
      rcases z with z | z
      · exact hne z
      · exact hae z.symm) fun y h' tk hP ho hs' hT hsz hk => ?_
    obtain ⟨hit', _⟩ := hs'
    have ey : y = u := by
      have hP : its.toArray[i]? = some y := hP
      rw [List.getElem?_toArray, hu] at hP
      exact (Option.some.inj hP).symm
    subst ey
    refine ⟨_, rfl, wpAny_letOwnedTupleGo_enum (s := { s with heap := h', toks := tk + 1 }) ho fun h'' he' sb => ?_⟩
    have hT2 : h''.get? s.heap.objs.size = some { cls := .type "tuple", data := .seq #[.int i tk, y] } := (sb.2 _ (Nat.ne_of_gt hel)).trans hT
    have new : ObjOk X.prog X.w (upd H s.heap.objs.size (.tup [.int (i : Nat), x])) h'' s.heap.objs.size (.tup [.int (i : Nat), x]) :=
      ⟨by show 2 ≤ sizeLine; decide, [.int i tk, y], .cons ⟨_, rfl⟩ (.cons ru .nil), ⟨_, hT2, rfl, _, rfl⟩⟩
    have I1 : Inv X pins σ (upd H s.heap.objs.size (.tup [.int (i : Nat), x])) { s with heap := h'', toks := tk + 1 } :=
      I.turnedNew (ch := [e, it]) (fun b ob hb q => (sb.2 b (fun z => hb (by simp [z]))).trans (hk b ob (fun z => hb (by simp [z])) (fun z => hb (by simp [z])) q)) hf (Nat.le_refl _) new
    refine ⟨.ref s.heap.objs.size, _, I1, rfl, ⟨_, x, rfl, I.hok.fresh (Nat.le_refl _), rfl, fun ys hy => by rw [seqK_inj I hy hq]; exact hx⟩, ⟨⟨y, ?_⟩, itPos_keep hit' fun o q => (sb.2 it (Ne.symm hne)).trans q, hne, hae⟩, fun b hb => ?_⟩
    · have e1 : ((i + 1 : Nat) : Int) = (i : Int) + 1 := by omega
      rw [e1]; exact he'
    · have hb' : b < s.heap.objs.size := by
        have e' : b = e ∨ b = it := by simpa using hb
        rcases e' with z | z
        · rw [z]; exact hel
        · rw [z]; exact hil
      rw [upd_ne (Nat.ne_of_lt hb')]
      exact (hf b hb).1
  done := by
    intro X hP hw hK hc i pins s σ H E I hf st hg
    subst hP hw hK
    obtain ⟨⟨old, he⟩, hit, hne, hae⟩ := st
    obtain ⟨xs, hq, hx⟩ := hg
    obtain ⟨its, rv, pk, hz⟩ := seqK I hq
    obtain ⟨f0, f1, f2, f3, f4, f5⟩ := hf it (by simp)
    have hh : X.A.handled = none := I.ok.hd hc
    have hl : i = its.toArray.size := by rw [hx, rv.length]; simp
    subst hl
    exact wpAny_pyNext_enum_endD (drawsK (A := X.A.in1) hh k it a (apartK hit pk) its.toArray) he ⟨hit, pk⟩ fun h' eb => ⟨rfl, I.turned (t' := s.toks) (fun b o hb q => eb b o hb q) f0 f1 f3 f4 f5⟩
  self := fun A i s Q E st h => let ⟨⟨_, he⟩, _⟩ := st; wpAny_pyIter_enum he h
def iEnumS (K : PySem.W.Frag) (ta : TA) : TI := fun σ H R => ta σ H fun vs H1 => ∃ (a : Addr) (k : Bool) (xs : List V), vs = [.ref a] ∧ SqK K k H1 a xs ∧ R (IteS K k a) H1
theorem pi_enumS {X : Cx} {K : PySem.W.Frag} {e : Expr} {ta : TA} {p pos tpos : Pos} {elts : List Expr} {kk : Nat} (hK : X.K = K) (hg : Gl X "enumerate") (hm : X.mg "enumerate" = none) (ha : PA X [e] ta) (hs : starEach [e] X.env = [(false, eval e X.env)] := by rfl) :
    PI X (.Tuple elts kk tpos) (.Call (.Name "enumerate" p) [e] [] pos) (iEnumS K ta) := by
  subst hK
  refine ⟨fun pins s σ H R I h => ?_⟩
  refine Call_ (ld_blt I hg hm boot_enumerate (PyProof.Rows.callWith_type1 (thn (ha.run pos pins s σ H _ I h) fun us s1 ⟨vs, H1, I1, r1, q1⟩ => ?_) hs rfl))
  obtain ⟨a, k, xs, ex, hq, q⟩ := q1
  subst ex
  cases r1 with
  | cons r rr =>
    cases rr
    cases r
    obtain ⟨its, rv, pk, hz⟩ := seqK I1 hq
    refine enum_begins1 (beginsK k a its.toArray) pk fun h' he hit hsz hk => wpAny_pyIter_enum he ?_
    have I2 : Inv X pins σ H1 { s1 with heap := h' } := I1.kept (t' := s1.toks) hk
    refine ⟨s1.heap.objs.size + 1, [s1.heap.objs.size + 1, s1.heap.objs.size], _, _, H1, rfl, I2, turn_enumS a (s1.heap.objs.size + 1) s1.heap.objs.size, ⟨⟨.none, he⟩, posK hit, Nat.succ_ne_self _, Nat.ne_of_lt (Nat.lt_succ_of_lt hz)⟩, fun b hb => ?_, q⟩
    have e' : b = s1.heap.objs.size + 1 ∨ b = s1.heap.objs.size := by simpa using hb
    have hle : s1.heap.objs.size ≤ b := by
      rcases e' with z | z
      · rw [z]; exact Nat.le_add_right _ _
      · rw [z]; exact Nat.le_refl _
    exact I1.fpOk hle (I1.hok.fresh hle)
end Lk

namespace Lk
open PySem PySem.Spec PyProof.Rows L2

/-! ### what a text does with data, as a tree: a value, a draw from a pot, an error -/
inductive T (α : Type) where
  | ret (a : α)
  | bad
  | exc (c : Nat) (xs : List D)
  | draw (a : Addr) (n : Int) (k : Int → T α)
def T.bind {α β : Type} : T α → (α → T β) → T β
  | .ret a, f => f a
  | .bad, _ => .bad
  | .exc c xs, _ => .exc c xs
  | .draw a n k, f => .draw a n fun i => (k i).bind f
def T.wp {α : Type} (p : Addr → Prop) : T α → (α → Prop) → Prop
  | .ret a, P => P a
  | .bad, _ => False
  | .exc _ _, _ => False
  | .draw a n k, P => p a ∧ 0 < n ∧ n < 1073741824 ∧ ∀ i, 0 ≤ i → i < n → (k i).wp p P
theorem T.wp_bind {α β : Type} {p : Addr → Prop} {f : α → T β} {P : β → Prop} : ∀ {t : T α}, (t.bind f).wp p P ↔ t.wp p fun a => (f a).wp p P
  | .ret _ => Iff.rfl
  | .bad => Iff.rfl
  | .exc _ _ => Iff.rfl
  | .draw a n k => and_congr Iff.rfl (and_congr Iff.rfl (and_congr Iff.rfl (forall_congr' fun i => forall_congr' fun _ => forall_congr' fun _ => T.wp_bind (t := k i))))
theorem T.wp_mono {α : Type} {p : Addr → Prop} {P Q : α → Prop} (h : ∀ a, P a → Q a) : ∀ {t : T α}, t.wp p P → t.wp p Q
  | .ret a, q => h a q
  | .bad, q => q
  | .exc _ _, q => q
  | .draw _ _ k, ⟨h1, h2, h3, h4⟩ => ⟨h1, h2, h3, fun i a b => T.wp_mono h (t := k i) (h4 i a b)⟩
@[simp] theorem T.bind_ret {α β : Type} (a : α) (f : α → T β) : (T.ret a).bind f = f a := rfl
@[simp] theorem T.bind_bad {α β : Type} (f : α → T β) : (T.bad : T α).bind f = .bad := rfl
@[simp] theorem T.bind_exc {α β : Type} (c : Nat) (xs : List D) (f : α → T β) : (T.exc c xs : T α).bind f = .exc c xs := rfl
@[simp] theorem T.bind_draw {α β : Type} (a : Addr) (n : Int) (k : Int → T α) (f : α → T β) : (T.draw a n k).bind f = .draw a n fun i => (k i).bind f := rfl
@[simp] theorem T.wp_ret {α : Type} (p : Addr → Prop) (a : α) (P : α → Prop) : (T.ret a).wp p P = P a := rfl
@[simp] theorem T.wp_draw {α : Type} (p : Addr → Prop) (a : Addr) (n : Int) (k : Int → T α) (P : α → Prop) : (T.draw a n k).wp p P = (p a ∧ 0 < n ∧ n < 1073741824 ∧ ∀ i, 0 ≤ i → i < n → (k i).wp p P) := rfl
theorem T.bind_assoc {α β γ : Type} {f : α → T β} {g : β → T γ} : ∀ {t : T α}, (t.bind f).bind g = t.bind fun a => (f a).bind g
  | .ret _ => rfl
  | .bad => rfl
  | .exc _ _ => rfl
  | .draw a n k => by
    show T.draw a n _ = T.draw a n _
    congr 1
    funext i
    exact T.bind_assoc (t := k i)
theorem T.bind_ret_right {α : Type} : ∀ {t : T α}, t.bind T.ret = t
  | .ret _ => rfl
  | .bad => rfl
  | .exc _ _ => rfl
  | .draw a n k => by
    show T.draw a n _ = T.draw a n _
    congr 1
    funext i
    exact T.bind_ret_right (t := k i)

abbrev ME := Sts → T D
abbrev MA := Sts → T (List D)
abbrev MB := Sts → T Bool
abbrev MO := Sts → T (Option Int)
/-- how a statement ends -/
inductive Fl where
  | nx (ds : Sts)
  | rt (d : D)
  | bk (ds : Sts)
  | ct (ds : Sts)
abbrev MS := Sts → T Fl

/-! ### values that are data, or a list of the def's own, read for a moment -/
def AtS (cls : Cl) (q N : Addr → Prop) (H : Hp) (v : V) (d : D) : Prop := At cls N H v d ∨ ∃ a vs xs, v = .ref a ∧ d = .lst xs ∧ ¬ q a ∧ H a = some (.lst vs) ∧ AtAll cls N H vs xs
inductive AtAllS (cls : Cl) (q N : Addr → Prop) (H : Hp) : List V → List D → Prop where
  | nil : AtAllS cls q N H [] []
  | cons {v : V} {vs : List V} {d : D} {ds : List D} : AtS cls q N H v d → AtAllS cls q N H vs ds → AtAllS cls q N H (v :: vs) (d :: ds)
section
variable {cls : Cl} {p q N : Addr → Prop} {H H' : Hp} {v : V} {d : D} {vs : List V} {ds xs : List D}
theorem AtS.mono (h : AtS cls q N H v d) (hq : ∀ a, p a → q a) (sub : ∀ a, p a → N a) (g : Go p H H') : AtS cls q N H' v d := by
  rcases h with h | ⟨a, vs, xs, rfl, rfl, n, e, aa⟩
  · exact .inl (h.mono sub g)
  · exact .inr ⟨a, vs, xs, rfl, rfl, n, g.ext a _ (fun z => n (hq a z)) e, aa.mono sub g⟩
theorem AtAllS.mono (hq : ∀ a, p a → q a) (sub : ∀ a, p a → N a) (g : Go p H H') : ∀ {vs : List V} {ds : List D}, AtAllS cls q N H vs ds → AtAllS cls q N H' vs ds
  | _, _, .nil => .nil
  | _, _, .cons a t => .cons (a.mono hq sub g) (AtAllS.mono hq sub g t)
theorem AtAllS.length : ∀ {vs : List V} {ds : List D}, AtAllS cls q N H vs ds → vs.length = ds.length
  | _, _, .nil => rfl
  | _, _, .cons _ t => congrArg Nat.succ (AtAllS.length t)
theorem AtAll.s : ∀ {vs : List V} {ds : List D}, AtAll cls N H vs ds → AtAllS cls q N H vs ds
  | _, _, .nil => .nil
  | _, _, .cons a t => .cons (.inl a) (AtAll.s t)
theorem AtS.lst (h : AtS cls q N H v (.lst xs)) : ∃ a vs, v = .ref a ∧ H a = some (.lst vs) ∧ AtAll cls N H vs xs := by
  rcases h with h | ⟨a, vs, xs, rfl, e, n, h, aa⟩
  · cases h with | @lst a vs _ n r hh => exact ⟨a, vs, rfl, r, hh⟩
  · cases e; exact ⟨a, vs, rfl, h, aa⟩
theorem AtS.at (h : AtS cls q N H v d) (hd : ∀ xs, d ≠ .lst xs) : At cls N H v d := by
  rcases h with h | ⟨a, vs, xs, rfl, e, _⟩
  · exact h
  · exact absurd e (hd xs)
theorem AtS.tup (h : AtS cls q N H v (.tup xs)) : ∃ a vs, v = .ref a ∧ ¬ N a ∧ H a = some (.tup vs) ∧ AtAll cls N H vs xs := by
  cases h.at (fun _ e => nomatch e) with | @tup a vs _ n r hh => exact ⟨a, vs, rfl, n, r, hh⟩
theorem AtS.int {i : Int} (h : AtS cls q N H v (.int i)) : v = .int i := by
  cases h.at (fun _ e => nomatch e); rfl
theorem AtS.bl {b : Bool} (h : AtS cls q N H v (.bl b)) : v = .bl b := by
  cases h.at (fun _ e => nomatch e); rfl
theorem AtS.str {x : Str} (h : AtS cls q N H v (.str x)) : v = .str x := by
  cases h.at (fun _ e => nomatch e); rfl
theorem AtS.sq {K : PySem.W.Frag} {k : Bool} (h : AtS cls q N H v (sq k xs)) : ∃ a vs, v = .ref a ∧ SqK K k H a vs ∧ AtAll cls N H vs xs := by
  cases k with
  | true =>
    obtain ⟨a, vs, rfl, e, aa⟩ := h.lst
    exact ⟨a, vs, rfl, .inl (.inl e), aa⟩
  | false =>
    obtain ⟨a, vs, rfl, _, e, aa⟩ := h.tup
    exact ⟨a, vs, rfl, .inl (.inl e), aa⟩
theorem dpS_of {K : PySem.W.Frag} {n : Nat} (h : okD n d = true) (a : AtS cls q N H v d) : Dp K H v (py d) := by
  rcases a with a | ⟨a, vs, xs, rfl, rfl, _, e, aa⟩
  · exact dp_of n d v (.inl h) a
  · cases n with
    | zero => cases h
    | succ n =>
      have all : ∀ (xs : List D) (vs : List V), xs.all (okD n) = true → AtAll cls N H vs xs → DpAll K H vs (pyAll xs) := by
        intro xs
        induction xs with
        | nil => intro vs _ a; cases a; exact .nil
        | cons x xs ih =>
          intro vs h a
          rw [List.all_cons, Bool.and_eq_true] at h
          cases a with
          | cons a1 a2 => exact .cons (dp_of n x _ (.inl h.1) a1) (ih _ h.2 a2)
      exact .lst (.inl (.inl e)) (all xs vs h aa)
end

/-! ### judgements -/
section
variable (cls : Cl)
def EvS (p : Addr → Prop) (te : TE) (ds : Sts) (P : D → Prop) : Prop := ∀ (pn : List (V × D)) (N : Addr → Prop) (H0 : Hp) (ad : Nat → Addr) (σ : L2.St) (H : Hp), Sta cls p pn N H0 ad H σ ds →
  ∀ Q : VK, (∀ v H' d, P d → Go p H H' → AtS cls N (hid N ad ds) H' v d → Q v H') → te σ H Q
def EvAS (p : Addr → Prop) (ta : TA) (ds : Sts) (P : List D → Prop) : Prop := ∀ (pn : List (V × D)) (N : Addr → Prop) (H0 : Hp) (ad : Nat → Addr) (σ : L2.St) (H : Hp), Sta cls p pn N H0 ad H σ ds →
  ∀ Q : List V → Hp → Prop, (∀ vs H' xs, P xs → Go p H H' → AtAllS cls N (hid N ad ds) H' vs xs → Q vs H') → ta σ H Q
/-- J walks the data xs in what comes of H with nothing changed -/
def EIS (p : Addr → Prop) (wi : TI) (ds : Sts) (P : List D → Prop) : Prop := ∀ (pn : List (V × D)) (N : Addr → Prop) (H0 : Hp) (ad : Nat → Addr) (σ : L2.St) (H : Hp), Sta cls p pn N H0 ad H σ ds →
  ∀ R : It → Hp → Prop, (∀ J H' xs, P xs → Go p H H' → (∀ (M : Addr → Prop) (H2 : Hp), (∀ b o, ¬ N b → H' b = some o → H2 b = some o) → (∀ a, hid N ad ds a → M a) → (∀ a, M a → hid N ad ds a ∨ H' a = none) → Wf p M H2 → ∀ i : Nat, (∀ d, xs[i]? = some d → J.go i H2 ∧ ∀ v H3, J.yld i H2 v H3 → Go p H2 H3 ∧ At cls M H3 v d) ∧ (i = xs.length → J.stop i H2)) → R J H') → wi σ H R
def JE (t : TE) (m : ME) : Prop := ∀ (p : Addr → Prop) (ds : Sts) (P : D → Prop), (m ds).wp p P → Ev cls p t ds P
def JS (t : TE) (m : ME) : Prop := ∀ (p : Addr → Prop) (ds : Sts) (P : D → Prop), (m ds).wp p P → EvS cls p t ds P
def JA (t : TA) (m : MA) : Prop := ∀ (p : Addr → Prop) (ds : Sts) (P : List D → Prop), (m ds).wp p P → EvA cls p t ds P
def JAS (t : TA) (m : MA) : Prop := ∀ (p : Addr → Prop) (ds : Sts) (P : List D → Prop), (m ds).wp p P → EvAS cls p t ds P
def JB (t : TT) (m : MB) : Prop := ∀ (p : Addr → Prop) (ds : Sts) (P : Bool → Prop), (m ds).wp p P → ET cls p t ds P
def JO (t : TO) (m : MO) : Prop := ∀ (p : Addr → Prop) (ds : Sts) (P : Option Int → Prop), (m ds).wp p P → EvO cls p t ds P
def JI (t : TI) (m : MA) : Prop := ∀ (p : Addr → Prop) (ds : Sts) (P : List D → Prop), (m ds).wp p P → EI cls p t ds P
def JIS (t : TI) (m : MA) : Prop := ∀ (p : Addr → Prop) (ds : Sts) (P : List D → Prop), (m ds).wp p P → EIS cls p t ds P
def JF (t : TE) (m : MA) : Prop := ∀ (p : Addr → Prop) (ds : Sts) (P : List D → Prop), (m ds).wp p P → EvF cls p t ds P
/-- an operation on values -/
def RV (r : R2) (o : D → D → T D) : Prop := ∀ (p q0 N : Addr → Prop) (H : Hp) (x y : V) (dx dy : D), Wf p N H → AtS cls q0 N H x dx → AtS cls q0 N H y dy → ∀ P : D → Prop, (o dx dy).wp p P →
  ∀ Q : VK, (∀ v H' d, P d → Go p H H' → At cls N H' v d → Q v H') → r x y H Q
/-- .. that gives a new list -/
def RVF (r : R2) (o : D → D → T (List D)) : Prop := ∀ (p q0 N : Addr → Prop) (H : Hp) (x y : V) (dx dy : D), Wf p N H → AtS cls q0 N H x dx → AtS cls q0 N H y dy → ∀ P : List D → Prop, (o dx dy).wp p P →
  ∀ Q : VK, (∀ l H' vs xs, P xs → Go p H H' → H l = none → H' l = some (.lst vs) → AtAll cls (fun a => N a ∨ a = l) H' vs xs → Q (.ref l) H') → r x y H Q
def RC (r : List V → Hp → VK → Prop) (b : List D → T D) : Prop := ∀ (p q0 N : Addr → Prop) (H : Hp) (vs : List V) (xs : List D), Wf p N H → AtAllS cls q0 N H vs xs → ∀ P : D → Prop, (b xs).wp p P →
  ∀ Q : VK, (∀ v H' d, P d → Go p H H' → At cls N H' v d → Q v H') → r vs H Q
def RCF (r : List V → Hp → VK → Prop) (b : List D → T (List D)) : Prop := ∀ (p q0 N : Addr → Prop) (H : Hp) (vs : List V) (xs : List D), Wf p N H → AtAllS cls q0 N H vs xs → ∀ P : List D → Prop, (b xs).wp p P →
  ∀ Q : VK, (∀ l H' vs xs, P xs → Go p H H' → H l = none → H' l = some (.lst vs) → AtAll cls (fun a => N a ∨ a = l) H' vs xs → Q (.ref l) H') → r vs H Q
end

/-! ### expressions -/
section
variable {cls : Cl} {ta tb tc te : TE} {tt tu : TT} {t tr : TA} {ma mb mc : ME} {mt mu : MB} {m mr : MA}
theorem JE.s (h : JE cls te ma) : JS cls te ma := fun p ds P w pn N H0 ad σ H S Q q => h p ds P w pn N H0 ad σ H S Q fun v H' d pd g a => q v H' d pd g (.inl a)
def mVar (i : Nat) : ME := fun ds => match ds[i]? with
  | some (some (.dat d)) => .ret d
  | _ => .bad
def mVarS (i : Nat) : ME := fun ds => match ds[i]? with
  | some (some (.dat d)) => .ret d
  | some (some (.own xs)) => .ret (.lst xs)
  | _ => .bad
theorem j_var (i : Nat) : JE cls (tVar i) (mVar i) := fun p ds P w => by
  unfold mVar at w
  split at w
  · rename_i d e
    exact (ev_var e).mono fun d' z => by rw [z]; exact w
  · exact w.elim
theorem j_varS (i : Nat) : JS cls (tVar i) (mVarS i) := fun p ds P w pn N H0 ad σ H S Q q => by
  unfold mVarS at w
  split at w
  · rename_i d e
    obtain ⟨v, h1, h2⟩ := S.dat i d e
    exact ⟨v, h1, q v H d w (Go.refl H) (.inl h2)⟩
  · rename_i xs e
    obtain ⟨h1, h2, h3, vs, h4, h5⟩ := S.own i xs e
    exact ⟨_, h1, q _ H _ w (Go.refl H) (.inr ⟨_, vs, xs, rfl, rfl, h2, h4, h5⟩)⟩
  · exact w.elim
def mC (d : D) : ME := fun _ => .ret d
theorem j_int {i : Int} : JE cls (tC (.int i)) (mC (.int i)) := fun p ds P w => ev_int.mono fun d e => by rw [e]; exact w
theorem j_bl {b : Bool} : JE cls (tC (.bl b)) (mC (.bl b)) := fun p ds P w => ev_bl.mono fun d e => by rw [e]; exact w
theorem j_non : JE cls (tC .non) (mC .non) := fun p ds P w => ev_non.mono fun d e => by rw [e]; exact w
theorem j_str {x : Str} : JE cls (tC (.str x)) (mC (.str x)) := fun p ds P w => ev_str.mono fun d e => by rw [e]; exact w
theorem j_ty {n : String} : JE cls (tC (.ty n)) (mC (.ty n)) := fun p ds P w => ev_ty.mono fun d e => by rw [e]; exact w
def mOp (o : D → D → T D) (ma mb : ME) : ME := fun ds => (ma ds).bind fun x => (mb ds).bind fun y => o x y
theorem j_op {r : R2} {o : D → D → T D} (hr : RV cls r o) (ha : JS cls ta ma) (hb : JS cls tb mb) : JE cls (tOp r ta tb) (mOp o ma mb) := fun p ds P w pn N H0 ad σ H S Q q =>
  ha p ds _ (T.wp_bind.mp w) pn N H0 ad σ H S _ fun x H1 dx px g1 a1 => hb p ds _ (T.wp_bind.mp px) pn N H0 ad σ H1 (S.mono g1) _ fun y H2 dy py' g2 a2 =>
    hr p _ _ H2 x y dx dy (S.mono (g1.trans g2)).hwf (a1.mono S.wf.sub S.hsub g2) a2 P py' Q fun v H3 d pd g3 a3 => q v H3 d pd ((g1.trans g2).trans g3) a3
def mOpF (o : D → D → T (List D)) (ma mb : ME) : MA := fun ds => (ma ds).bind fun x => (mb ds).bind fun y => o x y
theorem j_opF {r : R2} {o : D → D → T (List D)} (hr : RVF cls r o) (ha : JS cls ta ma) (hb : JS cls tb mb) : JF cls (tOp r ta tb) (mOpF o ma mb) := fun p ds P w pn N H0 ad σ H S Q q =>
  ha p ds _ (T.wp_bind.mp w) pn N H0 ad σ H S _ fun x H1 dx px g1 a1 => hb p ds _ (T.wp_bind.mp px) pn N H0 ad σ H1 (S.mono g1) _ fun y H2 dy py' g2 a2 =>
    hr p _ _ H2 x y dx dy (S.mono (g1.trans g2)).hwf (a1.mono S.wf.sub S.hsub g2) a2 P py' Q fun l H3 vs xs pd g3 hl e a3 => q l H3 vs xs pd ((g1.trans g2).trans g3) (fresh_of S.wf (g1.trans g2) hl) e a3
/-- a new list, as data -/
def mLst (m : MA) : ME := fun ds => (m ds).bind fun xs => .ret (.lst xs)
theorem JF.e (h : JF cls te m) : JE cls te (mLst m) := fun p ds P w =>
  (ev_F (h p ds _ (T.wp_bind.mp w))).mono fun d ⟨xs, px, e⟩ => by rw [e]; exact px
/-! arguments -/
def mNil : MA := fun _ => .ret []
def mCons (ma : ME) (mr : MA) : MA := fun ds => (ma ds).bind fun x => (mr ds).bind fun xs => .ret (x :: xs)
theorem ja_nil : JA cls tNil mNil := fun p ds P w pn N H0 ad σ H S Q q => q [] H [] w (Go.refl H) .nil
theorem ja_cons (ha : JE cls te ma) (hr : JA cls tr mr) : JA cls (tCons te tr) (mCons ma mr) := fun p ds P w pn N H0 ad σ H S Q q =>
  ha p ds _ (T.wp_bind.mp w) pn N H0 ad σ H S _ fun x H1 dx px g1 a1 => hr p ds _ (T.wp_bind.mp px) pn N H0 ad σ H1 (S.mono g1) _ fun vs H2 xs ps g2 a2 => q _ H2 _ ps (g1.trans g2) (.cons (a1.mono S.hsub g2) a2)
theorem jas_nil : JAS cls tNil mNil := fun p ds P w pn N H0 ad σ H S Q q => q [] H [] w (Go.refl H) .nil
theorem jas_cons (ha : JS cls te ma) (hr : JAS cls tr mr) : JAS cls (tCons te tr) (mCons ma mr) := fun p ds P w pn N H0 ad σ H S Q q =>
  ha p ds _ (T.wp_bind.mp w) pn N H0 ad σ H S _ fun x H1 dx px g1 a1 => hr p ds _ (T.wp_bind.mp px) pn N H0 ad σ H1 (S.mono g1) _ fun vs H2 xs ps g2 a2 => q _ H2 _ ps (g1.trans g2) (.cons (a1.mono S.wf.sub S.hsub g2) a2)
def mTup (m : MA) : ME := fun ds => (m ds).bind fun xs => if xs.length ≤ 100000 then .ret (.tup xs) else .bad
theorem j_tup (h : JA cls t m) : JE cls (tTup t) (mTup m) := fun p ds P w => by
  have w := T.wp_bind.mp w
  refine (ev_tup (PA := fun xs => xs.length ≤ 100000 ∧ P (.tup xs)) ((h p ds _ w).mono fun xs z => ?_) fun xs z => z.1).mono fun d ⟨xs, z, e⟩ => by rw [e]; exact z.2
  by_cases hl : xs.length ≤ 100000
  · rw [if_pos hl] at z; exact ⟨hl, z⟩
  · rw [if_neg hl] at z; exact z.elim
def mList (m : MA) : MA := fun ds => (m ds).bind fun xs => if xs.length ≤ 100000 then .ret xs else .bad
theorem j_list (h : JA cls t m) : JF cls (tLst t) (mList m) := fun p ds P w => by
  have w := T.wp_bind.mp w
  refine (ef_lst (PA := fun xs => xs.length ≤ 100000 ∧ P xs) ((h p ds _ w).mono fun xs z => ?_) fun xs z => z.1).mono fun d z => z.2
  by_cases hl : xs.length ≤ 100000
  · rw [if_pos hl] at z; exact ⟨hl, z⟩
  · rw [if_neg hl] at z; exact z.elim
/-! calls of what is known -/
def mCB (b : List D → T D) (m : MA) : ME := fun ds => (m ds).bind b
theorem j_cb {r : List V → Hp → VK → Prop} {b : List D → T D} (hr : RC cls r b) (h : JAS cls t m) : JE cls (tCB r t) (mCB b m) := fun p ds P w pn N H0 ad σ H S Q q =>
  h p ds _ (T.wp_bind.mp w) pn N H0 ad σ H S _ fun vs H1 xs ps g1 a1 => hr p _ _ H1 vs xs (S.mono g1).hwf a1 P ps Q fun v H2 d pd g2 a2 => q v H2 d pd (g1.trans g2) a2
def mCBF (b : List D → T (List D)) (m : MA) : MA := fun ds => (m ds).bind b
theorem j_cbF {r : List V → Hp → VK → Prop} {b : List D → T (List D)} (hr : RCF cls r b) (h : JAS cls t m) : JF cls (tCB r t) (mCBF b m) := fun p ds P w pn N H0 ad σ H S Q q =>
  h p ds _ (T.wp_bind.mp w) pn N H0 ad σ H S _ fun vs H1 xs ps g1 a1 => hr p _ _ H1 vs xs (S.mono g1).hwf a1 P ps Q fun l H2 ws ys pd g2 hl e a2 => q l H2 ws ys pd (g1.trans g2) (fresh_of S.wf g1 hl) e a2
/-! what a def of these texts promises: what its tree says -/
def spT (cls : Cl) (n : Nat) (f : List D → T D) : Sp := fun vs H Q _ => ∃ (p N : Addr → Prop) (xs : List D) (P : D → Prop), Wf p N H ∧ AtAll cls N H vs xs ∧ xs.length = n ∧ (f xs).wp p P ∧
  ∀ v H' d, P d → Go p H H' → At cls N H' v d → Q v H'
def mCall (n : Nat) (f : List D → T D) (m : MA) : ME := fun ds => (m ds).bind fun xs => if xs.length = n then f xs else .bad
theorem j_call {n : Nat} {f : List D → T D} (h : JA cls t m) : JE cls (tCall (spT cls n f) [] E0 t) (mCall n f m) := fun p ds P w pn N H0 ad σ H S Q q =>
  h p ds _ (T.wp_bind.mp w) pn N H0 ad σ H S _ fun vs H1 xs ps g1 a1 => by
    show spT cls n f (vs ++ []) H1 Q E0
    rw [List.append_nil]
    by_cases hl : xs.length = n
    · rw [if_pos hl] at ps
      exact ⟨p, _, xs, P, (S.mono g1).hwf, a1, hl, ps, fun v H2 d pd g2 a2 => q v H2 d pd (g1.trans g2) a2⟩
    · rw [if_neg hl] at ps; exact ps.elim
def mKey (n k : Nat) (is : List Nat) (f : List D → T D) (m : MA) : ME := fun ds => (m ds).bind fun xs => if xs.length = k ∧ (perm is xs).length = n then f (perm is xs) else .bad
theorem j_key {n k : Nat} {is : List Nat} {f : List D → T D} (h : JA cls t m) : JE cls (tKey (spT cls n f) is k t) (mKey n k is f m) := fun p ds P w pn N H0 ad σ H S Q q =>
  h p ds _ (T.wp_bind.mp w) pn N H0 ad σ H S _ fun vs H1 xs ps g1 a1 => by
    by_cases hl : xs.length = k ∧ (perm is xs).length = n
    · rw [if_pos hl] at ps
      exact ⟨a1.length.trans hl.1, p, _, perm is xs, P, (S.mono g1).hwf, a1.perm is, hl.2, ps, fun v H2 d pd g2 a2 => q v H2 d pd (g1.trans g2) a2⟩
    · rw [if_neg hl] at ps; exact ps.elim
/-! .. whose answer is a new list -/
def spTF (cls : Cl) (n : Nat) (f : List D → T D) : Sp := fun vs H Q _ => ∃ (p N : Addr → Prop) (xs : List D) (P : D → Prop), Wf p N H ∧ AtAll cls N H vs xs ∧ xs.length = n ∧ (f xs).wp p P ∧
  ∀ l H' vs xs, P (.lst xs) → Go p H H' → H l = none → H' l = some (.lst vs) → AtAll cls (fun a => N a ∨ a = l) H' vs xs → Q (.ref l) H'
/-- the items of a list -/
def unL : D → T (List D)
  | .lst xs => .ret xs
  | _ => .bad
def mUnL (m : ME) : MA := fun ds => (m ds).bind unL
theorem unL_wp {p : Addr → Prop} {P : List D → Prop} {d : D} : (unL d).wp p P ↔ ∃ xs, d = .lst xs ∧ P xs := by
  cases d <;> first | exact ⟨fun h => h.elim, fun ⟨_, e, _⟩ => nomatch e⟩ | exact ⟨fun h => ⟨_, rfl, h⟩, fun ⟨_, e, h⟩ => by cases e; exact h⟩
theorem j_callF {n : Nat} {f : List D → T D} (h : JA cls t m) : JF cls (tCall (spTF cls n f) [] E0 t) (mUnL (mCall n f m)) := fun p ds P w pn N H0 ad σ H S Q q =>
  h p ds _ (T.wp_bind.mp (T.wp_bind.mp w)) pn N H0 ad σ H S _ fun vs H1 xs ps g1 a1 => by
    show spTF cls n f (vs ++ []) H1 Q E0
    rw [List.append_nil]
    by_cases hl : xs.length = n
    · rw [if_pos hl] at ps
      refine ⟨p, _, xs, _, (S.mono g1).hwf, a1, hl, ps, fun l H2 vs xs pd g2 hl e a2 => q l H2 vs xs ?_ (g1.trans g2) (fresh_of S.wf g1 hl) e a2⟩
      obtain ⟨ys, e, py'⟩ := unL_wp.mp pd
      cases e
      exact py'
    · rw [if_neg hl] at ps; exact ps.elim
theorem j_keyF {n k : Nat} {is : List Nat} {f : List D → T D} (h : JA cls t m) : JF cls (tKey (spTF cls n f) is k t) (mUnL (mKey n k is f m)) := fun p ds P w pn N H0 ad σ H S Q q =>
  h p ds _ (T.wp_bind.mp (T.wp_bind.mp w)) pn N H0 ad σ H S _ fun vs H1 xs ps g1 a1 => by
    by_cases hl : xs.length = k ∧ (perm is xs).length = n
    · rw [if_pos hl] at ps
      refine ⟨a1.length.trans hl.1, p, _, perm is xs, _, (S.mono g1).hwf, a1.perm is, hl.2, ps, fun l H2 vs xs pd g2 hl e a2 => q l H2 vs xs ?_ (g1.trans g2) (fresh_of S.wf g1 hl) e a2⟩
      obtain ⟨ys, e, py'⟩ := unL_wp.mp pd
      cases e
      exact py'
    · rw [if_neg hl] at ps; exact ps.elim
/-! tests -/
def unB : D → T Bool
  | .bl b => .ret b
  | _ => .bad
theorem unB_wp {p : Addr → Prop} {P : Bool → Prop} {d : D} : (unB d).wp p P ↔ ∃ b, d = .bl b ∧ P b := by
  cases d <;> first | exact ⟨fun h => h.elim, fun ⟨_, e, _⟩ => nomatch e⟩ | exact ⟨fun h => ⟨_, rfl, h⟩, fun ⟨_, e, h⟩ => by cases e; exact h⟩
def mTest (m : ME) : MB := fun ds => (m ds).bind unB
theorem test_aux (h : JE cls te ma) {p : Addr → Prop} {ds : Sts} {P : Bool → Prop} (w : (mTest ma ds).wp p P) : Ev cls p te ds (fun d => ∃ b, d = .bl b ∧ P b) :=
  (h p ds _ (T.wp_bind.mp w)).mono fun d z => unB_wp.mp z
theorem j_test (h : JE cls te ma) : JB cls (tTest te) (mTest ma) := fun p ds P w =>
  (et_test (test_aux h w) fun d ⟨b, e, _⟩ => ⟨b, e⟩).mono fun b ⟨c, e, z⟩ => by cases e; exact z
theorem j_B (h : JE cls te ma) : JB cls (tB te) (mTest ma) := fun p ds P w =>
  (et_B (test_aux h w) fun d ⟨b, e, _⟩ => ⟨b, e⟩).mono fun b ⟨c, e, z⟩ => by cases e; exact z
def mNot (m : MB) : MB := fun ds => (m ds).bind fun b => .ret (!b)
theorem j_not (h : JB cls tt mt) : JB cls (tNot tt) (mNot mt) := fun p ds P w =>
  (et_not (h p ds _ (T.wp_bind.mp w))).mono fun b z => by rw [← Bool.not_not b]; exact z
def mAnd (m n : MB) : MB := fun ds => (m ds).bind fun b => if b = true then n ds else .ret false
theorem j_and (h : JB cls tt mt) (k : JB cls tu mu) : JB cls (tAnd tt tu) (mAnd mt mu) := fun p ds P w pn N H0 ad σ H S Q q =>
  h p ds _ (T.wp_bind.mp w) pn N H0 ad σ H S _ fun b H1 pb g => by
    cases b with
    | true => exact k p ds P pb pn N H0 ad σ H1 (S.mono g) _ fun c H2 pc g2 => q c H2 pc (g.trans g2)
    | false => exact q false H1 pb g
def mOr (m n : MB) : MB := fun ds => (m ds).bind fun b => if b = true then .ret true else n ds
theorem j_or (h : JB cls tt mt) (k : JB cls tu mu) : JB cls (tOr tt tu) (mOr mt mu) := fun p ds P w pn N H0 ad σ H S Q q =>
  h p ds _ (T.wp_bind.mp w) pn N H0 ad σ H S _ fun b H1 pb g => by
    cases b with
    | true => exact q true H1 pb g
    | false => exact k p ds P pb pn N H0 ad σ H1 (S.mono g) _ fun c H2 pc g2 => q c H2 pc (g.trans g2)
def mYes : MB := fun _ => .ret true
theorem j_yes : JB cls tYes mYes := fun p ds P w => et_yes.mono fun b e => by rw [e]; exact w
/-! and, or, not, if as values -/
def mAndV (ma mb : ME) : ME := fun ds => (ma ds).bind fun d => (unB d).bind fun b => if b = true then mb ds else .ret (.bl false)
theorem j_andV (ha : JE cls ta ma) (hb : JE cls tb mb) : JE cls (tAndV ta tb) (mAndV ma mb) := fun p ds P w =>
  (ev_andV (PX := fun d => ∃ b, d = .bl b ∧ T.wp p (if b = true then mb ds else .ret (.bl false)) P) (PY := P) ((ha p ds _ (T.wp_bind.mp w)).mono fun d z => unB_wp.mp (T.wp_bind.mp z)) (fun d ⟨b, e, _⟩ => ⟨b, e⟩)
    (fun ⟨b, e, z⟩ => by cases e; exact hb p ds P z)).mono fun d z => by
      rcases z with ⟨rfl, b, e, z⟩ | ⟨_, z⟩
      · cases e; exact z
      · exact z
def mOrV (ma mb : ME) : ME := fun ds => (ma ds).bind fun d => (unB d).bind fun b => if b = true then .ret (.bl true) else mb ds
theorem j_orV (ha : JE cls ta ma) (hb : JE cls tb mb) : JE cls (tOrV ta tb) (mOrV ma mb) := fun p ds P w =>
  (ev_orV (PX := fun d => ∃ b, d = .bl b ∧ T.wp p (if b = true then .ret (.bl true) else mb ds) P) (PY := P) ((ha p ds _ (T.wp_bind.mp w)).mono fun d z => unB_wp.mp (T.wp_bind.mp z)) (fun d ⟨b, e, _⟩ => ⟨b, e⟩)
    (fun ⟨b, e, z⟩ => by cases e; exact hb p ds P z)).mono fun d z => by
      rcases z with ⟨rfl, b, e, z⟩ | ⟨_, z⟩
      · cases e; exact z
      · exact z
def mNotV (ma : ME) : ME := fun ds => (ma ds).bind fun d => (unB d).bind fun b => .ret (.bl (!b))
theorem j_notV (ha : JE cls ta ma) : JE cls (tNotV ta) (mNotV ma) := fun p ds P w =>
  (ev_notV (PX := fun d => ∃ b, d = .bl b ∧ P (.bl (!b))) ((ha p ds _ (T.wp_bind.mp w)).mono fun d z => unB_wp.mp (T.wp_bind.mp z)) (fun d ⟨b, e, _⟩ => ⟨b, e⟩)).mono fun d ⟨b, ⟨c, e, z⟩, e2⟩ => by cases e; rw [e2]; exact z
def mIf (mt : MB) (ma mb : ME) : ME := fun ds => (mt ds).bind fun b => if b = true then ma ds else mb ds
theorem j_if (ht : JB cls tt mt) (ha : JE cls ta ma) (hb : JE cls tb mb) : JE cls (tIf tt ta tb) (mIf mt ma mb) := fun p ds P w pn N H0 ad σ H S Q q =>
  ht p ds _ (T.wp_bind.mp w) pn N H0 ad σ H S _ fun b H1 pb g => by
    cases b with
    | true => exact ha p ds P pb pn N H0 ad σ H1 (S.mono g) _ fun c H2 d pc g2 a2 => q c H2 d pc (g.trans g2) a2
    | false => exact hb p ds P pb pn N H0 ad σ H1 (S.mono g) _ fun c H2 d pc g2 a2 => q c H2 d pc (g.trans g2) a2
def mIfF (mt : MB) (ma mb : MA) : MA := fun ds => (mt ds).bind fun b => if b = true then ma ds else mb ds
theorem j_ifF {ma mb : MA} (ht : JB cls tt mt) (ha : JF cls ta ma) (hb : JF cls tb mb) : JF cls (tIf tt ta tb) (mIfF mt ma mb) := fun p ds P w pn N H0 ad σ H S Q q =>
  ht p ds _ (T.wp_bind.mp w) pn N H0 ad σ H S _ fun b H1 pb g => by
    cases b with
    | true => exact ha p ds P pb pn N H0 ad σ H1 (S.mono g) _ fun l H2 vs xs pc g2 hl e a2 => q l H2 vs xs pc (g.trans g2) (fresh_of S.wf g hl) e a2
    | false => exact hb p ds P pb pn N H0 ad σ H1 (S.mono g) _ fun l H2 vs xs pc g2 hl e a2 => q l H2 vs xs pc (g.trans g2) (fresh_of S.wf g hl) e a2
/-! a < b < c -/
def mChain (o o' : D → D → T D) (ma mb mc : ME) : ME := fun ds => (ma ds).bind fun x => (mb ds).bind fun y => (o x y).bind fun z => (unB z).bind fun b => if b = true then (mc ds).bind fun u => o' y u else .ret (.bl false)
theorem j_chain {r r' : R2} {o o' : D → D → T D} (hr : RV cls r o) (hr' : RV cls r' o') (ha : JS cls ta ma) (hb : JS cls tb mb) (hc : JS cls tc mc) : JE cls (tChain r r' ta tb tc) (mChain o o' ma mb mc) := fun p ds P w pn N H0 ad σ H S Q q => by
  refine ha p ds _ (T.wp_bind.mp w) pn N H0 ad σ H S _ fun x H1 dx px g1 a1 => ?_
  refine hb p ds _ (T.wp_bind.mp px) pn N H0 ad σ H1 (S.mono g1) _ fun y H2 dy py' g2 a2 => ?_
  refine hr p _ _ H2 x y dx dy (S.mono (g1.trans g2)).hwf (a1.mono S.wf.sub S.hsub g2) a2 _ (T.wp_bind.mp py') _ fun z H3 dz pz g3 a3 => ?_
  obtain ⟨b, rfl, w2⟩ := unB_wp.mp (T.wp_bind.mp pz)
  cases a3
  refine ⟨b, rfl, ?_⟩
  cases b with
  | false => exact q _ H3 _ w2 ((g1.trans g2).trans g3) (.bl false)
  | true =>
    refine hc p ds _ (T.wp_bind.mp w2) pn N H0 ad σ H3 (S.mono ((g1.trans g2).trans g3)) _ fun u H4 du pu g4 a4 => ?_
    exact hr' p _ _ H4 y u dy du (S.mono (((g1.trans g2).trans g3).trans g4)).hwf (a2.mono S.wf.sub S.hsub (g3.trans g4)) a4 P pu Q fun v H5 d pd g5 a5 => q v H5 d pd ((((g1.trans g2).trans g3).trans g4).trans g5) a5
/-! negation -/
def negT : D → T D
  | .int i => .ret (.int (-i))
  | _ => .bad
def mNeg (ma : ME) : ME := fun ds => (ma ds).bind negT
theorem j_neg (ha : JE cls ta ma) : JE cls (tUn (rU fun i => .int (-i)) ta) (mNeg ma) := fun p ds P w => by
  have key : ∀ d, (negT d).wp p P → ∃ i, d = .int i ∧ P (.int (-i)) := fun d z => by
    cases d <;> first | exact z.elim | exact ⟨_, rfl, z⟩
  exact (ev_neg (PX := fun d => ∃ i, d = .int i ∧ P (.int (-i))) ((ha p ds _ (T.wp_bind.mp w)).mono key) (fun d ⟨i, e, _⟩ => ⟨i, e⟩)).mono fun d ⟨i, ⟨j, e, z⟩, e2⟩ => by cases e; rw [e2]; exact z
/-! parts of slices -/
def mNoPart : MO := fun _ => .ret none
def unI : D → T Int
  | .int i => .ret i
  | _ => .bad
theorem unI_wp {p : Addr → Prop} {P : Int → Prop} {d : D} : (unI d).wp p P ↔ ∃ b, d = .int b ∧ P b := by
  cases d <;> first | exact ⟨fun h => h.elim, fun ⟨_, e, _⟩ => nomatch e⟩ | exact ⟨fun h => ⟨_, rfl, h⟩, fun ⟨_, e, h⟩ => by cases e; exact h⟩
def mPart (ma : ME) : MO := fun ds => (ma ds).bind fun d => (unI d).bind fun i => .ret (some i)
theorem jo_none : JO cls tNoPart mNoPart := fun p ds P w => fun pn N H0 ad σ H S Q q => eo_none pn N H0 ad σ H S Q fun o H' e g => q o H' (by rw [e]; exact w) g
theorem jo_some (ha : JE cls ta ma) : JO cls (tPart ta) (mPart ma) := fun p ds P w => fun pn N H0 ad σ H S Q q =>
  (eo_some (P := fun d => ∃ i, d = .int i ∧ P (some i)) ((ha p ds _ (T.wp_bind.mp w)).mono fun d z => unI_wp.mp (T.wp_bind.mp z)) (fun d ⟨i, e, _⟩ => ⟨i, e⟩)) pn N H0 ad σ H S Q fun o H' ⟨i, ⟨j, e, z⟩, e2⟩ g => q o H' (by cases e; rw [e2]; exact z) g
end
end Lk

namespace Lk
open PySem PySem.Spec PyProof.Rows L2

/-! ### operators, by data -/
def big : Nat := 100000
def addT : D → D → T D
  | .int i, .int j => .ret (.int (i + j))
  | .lst xs, .lst ys => if xs.length + ys.length ≤ 100000 then .ret (.lst (xs ++ ys)) else .bad
  | .tup xs, .tup ys => if xs.length + ys.length ≤ 100000 then .ret (.tup (xs ++ ys)) else .bad
  | .str x, .str y => if x.length + y.length ≤ 1000000 then .ret (.str (x ++ y)) else .bad
  | _, _ => .bad
def catT : D → D → T (List D)
  | .lst xs, .lst ys => if xs.length + ys.length ≤ 100000 then .ret (xs ++ ys) else .bad
  | _, _ => .bad
def subT : D → D → T D
  | .int i, .int j => .ret (.int (i - j))
  | _, _ => .bad
def mulT : D → D → T D
  | .int i, .int j => if i.natAbs.log2 + j.natAbs.log2 < 1000000 then .ret (.int (i * j)) else .bad
  | .lst xs, .int k => if -(2 ^ 63) ≤ k ∧ k < 2 ^ 63 ∧ xs.length * k.toNat ≤ 100000 then .ret (.lst (reps k.toNat xs)) else .bad
  | .tup xs, .int k => if xs ≠ [] ∧ 2 ≤ k ∧ k ≤ 1000 ∧ xs.length ≤ 1000 then .ret (.tup (reps k.toNat xs)) else .bad
  | _, _ => .bad
def repT : D → D → T (List D)
  | .lst xs, .int k => if -(2 ^ 63) ≤ k ∧ k < 2 ^ 63 ∧ xs.length * k.toNat ≤ 100000 then .ret (reps k.toNat xs) else .bad
  | _, _ => .bad
def modT : D → D → T D
  | .int i, .int j => if 0 < j then .ret (.int (i % j)) else .bad
  | _, _ => .bad
def fdivT : D → D → T D
  | .int i, .int j => if 0 < j ∧ j.natAbs.log2 < 9000 then .ret (.int (i / j)) else if j ≠ 0 ∧ j.natAbs < 1073741824 then .ret (.int (i.fdiv j)) else .bad
  | _, _ => .bad
def powT : D → D → T D
  | .int i, .int j => if 0 ≤ j ∧ j ≤ 1000000 ∧ i.natAbs < 2 ^ 64 then .ret (.int (i ^ j.toNat)) else .bad
  | _, _ => .bad
def intOp (f : Int → Int → Int) : D → D → T D
  | .int i, .int j => .ret (.int (f i j))
  | _, _ => .bad
def cmpT (f : Int → Int → Bool) : D → D → T D
  | .int i, .int j => .ret (.bl (f i j))
  | _, _ => .bad
def eqD (x y : D) : T D := if okD 60 x = true ∧ okD 60 y = true then .ret (.bl ((py x).eqv (py y))) else .bad
def eqT : D → D → T D
  | .str a, .str b => .ret (.bl (decide (a = b)))
  | x, y => eqD x y
def neD (x y : D) : T D := if okD 60 x = true ∧ okD 60 y = true then .ret (.bl (!(py x).eqv (py y))) else .bad
def neT : D → D → T D
  | .str a, .str b => .ret (.bl (!decide (a = b)))
  | x, y => neD x y
def isT : D → D → T D
  | d, .non => .ret (.bl (isNon d))
  | .bl a, .bl b => .ret (.bl (decide (a = b)))
  | _, _ => .bad
def isNotT : D → D → T D
  | d, .non => .ret (.bl (!isNon d))
  | .bl a, .bl b => .ret (.bl (!decide (a = b)))
  | _, _ => .bad
def inT (x : D) : D → T D
  | .lst ys => if okD 60 x = true ∧ ys.all (okD 60) = true then .ret (.bl (ys.any fun z => (py z).eqv (py x))) else .bad
  | _ => .bad
def notInT (x : D) : D → T D
  | .lst ys => if okD 60 x = true ∧ ys.all (okD 60) = true then .ret (.bl (!ys.any fun z => (py z).eqv (py x))) else .bad
  | _ => .bad
def optT : Option D → T D
  | some d => .ret d
  | none => .bad
def ixT : D → D → T D
  | .lst xs, .int i => optT (atI xs i)
  | .tup xs, .int i => optT (atI xs i)
  | .scr ns, .int i => optT ((atI ns i).map D.int)
  | _, _ => .bad
theorem ite_wp {α : Type} {p : Addr → Prop} {c : Prop} [Decidable c] {t : T α} {P : α → Prop} (h : (if c then t else .bad).wp p P) : c ∧ t.wp p P := by
  by_cases hc : c
  · rw [if_pos hc] at h; exact ⟨hc, h⟩
  · rw [if_neg hc] at h; exact h.elim
theorem opt_wp {p : Addr → Prop} {o : Option D} {P : D → Prop} (h : (optT o).wp p P) : ∃ d, o = some d ∧ P d := by
  cases o with
  | none => exact h.elim
  | some d => exact ⟨d, rfl, h⟩
section
variable {cls : Cl} {K : PySem.W.Frag} {X : Cx}
def rAddX (K : PySem.W.Frag) : R2 := rOr (rI0 fun i j => .int (i + j)) (rOr rCat (rOr (rCatA K) rTxt))
theorem opAddX (h : X.K = K) : OpR X (binaryOp .Add) (rAddX K) := by subst h; exact op_or op_add (op_or op_cat (op_or op_catA op_add_str))
theorem len_le {n : Nat} (h : n ≤ 100000) : n ≤ sizeLine := Nat.le_trans h (by decide)
theorem rv_addX : RV cls (rAddX K) addT := fun p q0 N H x y dx dy W ax ay P w Q q => by
  unfold addT at w
  split at w
  · have e1 := ax.int; have e2 := ay.int
    subst e1 e2
    exact .inl ⟨_, _, rfl, rfl, q _ H _ w (Go.refl H) (.int _)⟩
  · obtain ⟨hl, w⟩ := ite_wp w
    obtain ⟨a, vs, rfl, e, aa⟩ := ax.lst
    obtain ⟨b, ws, rfl, e', bb⟩ := ay.lst
    exact .inr (.inl ⟨a, b, vs, ws, rfl, rfl, e, e', by rw [aa.length, bb.length]; exact len_le hl, fun l hl => q _ _ _ w (Go.new hl) (.lst (fresh_hid W hl) upd_same ((aa.append bb).mono W.sub (Go.new hl)))⟩)
  · obtain ⟨hl, w⟩ := ite_wp w
    have ax0 := ax.at (fun _ e => nomatch e)
    have ay0 := ay.at (fun _ e => nomatch e)
    obtain ⟨a, vs, rfl, n, e, aa⟩ := ax.tup
    obtain ⟨b, ws, rfl, n', e', bb⟩ := ay.tup
    refine .inr (.inr (.inl ⟨a, b, vs, ws, rfl, rfl, .inl (.inl e), .inl (.inl e'), by rw [aa.length, bb.length]; exact len_le hl, fun z => ?_, fun _ z => ?_, fun _ _ l hl => q _ _ _ w (Go.new hl) (.tup (fresh_hid W hl) upd_same ((aa.append bb).mono W.sub (Go.new hl)))⟩))
    · subst z
      have := aa.length
      rw [List.eq_nil_of_length_eq_zero this.symm, List.nil_append] at w
      exact q _ H _ w (Go.refl H) ay0
    · subst z
      have := bb.length
      rw [List.eq_nil_of_length_eq_zero this.symm, List.append_nil] at w
      exact q _ H _ w (Go.refl H) ax0
  · obtain ⟨hl, w⟩ := ite_wp w
    have e1 := ax.str; have e2 := ay.str
    subst e1 e2
    exact .inr (.inr (.inr ⟨_, _, rfl, rfl, Nat.le_trans hl (by decide), q _ H _ w (Go.refl H) (.str _)⟩))
  · exact w.elim
theorem rv_catX : RVF cls (rAddX K) catT := fun p q0 N H x y dx dy W ax ay P w Q q => by
  unfold catT at w
  split at w
  · obtain ⟨hl, w⟩ := ite_wp w
    obtain ⟨a, vs, rfl, e, aa⟩ := ax.lst
    obtain ⟨b, ws, rfl, e', bb⟩ := ay.lst
    exact .inr (.inl ⟨a, b, vs, ws, rfl, rfl, e, e', by rw [aa.length, bb.length]; exact len_le hl, fun l hl => q l _ _ _ w (Go.new hl) hl upd_same (out_of (aa.append bb) hl)⟩)
  · exact w.elim
theorem rv_sub : RV cls (rI0 fun i j => .int (i - j)) subT := fun p q0 N H x y dx dy W ax ay P w Q q => by
  unfold subT at w
  split at w
  · have e1 := ax.int; have e2 := ay.int
    subst e1 e2
    exact ⟨_, _, rfl, rfl, q _ H _ w (Go.refl H) (.int _)⟩
  · exact w.elim
def rMulX (K : PySem.W.Frag) : R2 := rOr (rI CMulW fun i j => .int (i * j)) (rOr rRep (rRepT K))
theorem opMulX (h : X.K = K) : OpR X (binaryOp .Mult) (rMulX K) := by subst h; exact op_or op_mulW (op_or op_rep op_repT)
theorem rv_mul : RV cls (rMulX K) mulT := fun p q0 N H x y dx dy W ax ay P w Q q => by
  unfold mulT at w
  split at w
  · obtain ⟨hl, w⟩ := ite_wp w
    have e1 := ax.int; have e2 := ay.int
    subst e1 e2
    exact .inl ⟨_, _, rfl, rfl, hl, q _ H _ w (Go.refl H) (.int _)⟩
  · obtain ⟨⟨h0, h1, hl⟩, w⟩ := ite_wp w
    have e2 := ay.int
    subst e2
    obtain ⟨a, vs, rfl, e, aa⟩ := ax.lst
    exact .inr (.inl ⟨a, _, vs, rfl, rfl, e, h0, h1, by rw [aa.length]; exact len_le hl, fun l hl => q _ _ _ w (Go.new hl) (.lst (fresh_hid W hl) upd_same ((aa.reps _).mono W.sub (Go.new hl)))⟩)
  · obtain ⟨⟨h0, h1, h2, h3⟩, w⟩ := ite_wp w
    have e2 := ay.int
    subst e2
    obtain ⟨a, vs, rfl, n, e, aa⟩ := ax.tup
    refine .inr (.inr ⟨a, _, vs, rfl, rfl, .inl (.inl e), fun z => h0 ?_, h1, h2, by rw [aa.length]; exact h3, fun l hl => q _ _ _ w (Go.new hl) (.tup (fresh_hid W hl) upd_same ((aa.reps _).mono W.sub (Go.new hl)))⟩)
    have := aa.length
    rw [z] at this
    exact List.eq_nil_of_length_eq_zero this.symm
  · exact w.elim
theorem rv_repX : RVF cls (rMulX K) repT := fun p q0 N H x y dx dy W ax ay P w Q q => by
  unfold repT at w
  split at w
  · obtain ⟨⟨h0, h1, hl⟩, w⟩ := ite_wp w
    have e2 := ay.int
    subst e2
    obtain ⟨a, vs, rfl, e, aa⟩ := ax.lst
    exact .inr (.inl ⟨a, _, vs, rfl, rfl, e, h0, h1, by rw [aa.length]; exact len_le hl, fun l hl => q l _ _ _ w (Go.new hl) hl upd_same (out_of (aa.reps _) hl)⟩)
  · exact w.elim
theorem rv_mod : RV cls (rI (fun _ j => 0 < j) fun i j => .int (i % j)) modT := fun p q0 N H x y dx dy W ax ay P w Q q => by
  unfold modT at w
  split at w
  · obtain ⟨hl, w⟩ := ite_wp w
    have e1 := ax.int; have e2 := ay.int
    subst e1 e2
    exact ⟨_, _, rfl, rfl, hl, q _ H _ w (Go.refl H) (.int _)⟩
  · exact w.elim
def rFdX : R2 := rOr (rI CDivW fun i j => .int (i / j)) (rI CDivN fun i j => .int (i.fdiv j))
theorem opFdX : OpR X (binaryOp .FloorDiv) rFdX := op_or op_fdivW op_fdivN
theorem rv_fdiv : RV cls rFdX fdivT := fun p q0 N H x y dx dy W ax ay P w Q q => by
  unfold fdivT at w
  split at w
  · rename_i i j
    have e1 := ax.int; have e2 := ay.int
    subst e1 e2
    by_cases hc : 0 < j ∧ j.natAbs.log2 < 9000
    · rw [if_pos hc] at w
      exact .inl ⟨_, _, rfl, rfl, hc, q _ H _ w (Go.refl H) (.int _)⟩
    · rw [if_neg hc] at w
      obtain ⟨hl, w⟩ := ite_wp w
      exact .inr ⟨_, _, rfl, rfl, hl, q _ H _ w (Go.refl H) (.int _)⟩
  · exact w.elim
theorem rv_pow : RV cls (rI CPow fun i j => .int (i ^ j.toNat)) powT := fun p q0 N H x y dx dy W ax ay P w Q q => by
  unfold powT at w
  split at w
  · obtain ⟨hl, w⟩ := ite_wp w
    have e1 := ax.int; have e2 := ay.int
    subst e1 e2
    exact ⟨_, _, rfl, rfl, hl, q _ H _ w (Go.refl H) (.int _)⟩
  · exact w.elim
theorem rv_int {f : Int → Int → Int} : RV cls (rI0 fun i j => .int (f i j)) (intOp f) := fun p q0 N H x y dx dy W ax ay P w Q q => by
  unfold intOp at w
  split at w
  · have e1 := ax.int; have e2 := ay.int
    subst e1 e2
    exact ⟨_, _, rfl, rfl, q _ H _ w (Go.refl H) (.int _)⟩
  · exact w.elim
theorem rv_cmp {f : Int → Int → Bool} : RV cls (rI0 fun i j => .bl (f i j)) (cmpT f) := fun p q0 N H x y dx dy W ax ay P w Q q => by
  unfold cmpT at w
  split at w
  · have e1 := ax.int; have e2 := ay.int
    subst e1 e2
    exact ⟨_, _, rfl, rfl, q _ H _ w (Go.refl H) (.bl _)⟩
  · exact w.elim
theorem opEqX (h : X.K = K) (hu : X.A.units + 64 < cLine) : OpR X (compareOp .Eq) (rOr rEq (rEqD K)) := by subst h; exact op_or op_eq (op_eqD hu)
theorem opNeX (h : X.K = K) (hu : X.A.units + 64 < cLine) : OpR X (compareOp .NotEq) (rOr rNe (rNeD K)) := by subst h; exact op_or op_ne (op_neD hu)
theorem rv_eqDD : RV cls (rEqD K) eqD := fun p q0 N H x y dx dy W ax ay P w Q q => by
  obtain ⟨⟨h1, h2⟩, w⟩ := ite_wp w
  exact ⟨_, _, dpS_of h1 ax, dpS_of h2 ay, okD_shaped h1 (by decide), okD_shaped h2 (by decide), q _ H _ w (Go.refl H) (.bl _)⟩
theorem rv_neDD : RV cls (rNeD K) neD := fun p q0 N H x y dx dy W ax ay P w Q q => by
  obtain ⟨⟨h1, h2⟩, w⟩ := ite_wp w
  exact ⟨_, _, dpS_of h1 ax, dpS_of h2 ay, okD_shaped h1 (by decide), okD_shaped h2 (by decide), q _ H _ w (Go.refl H) (.bl _)⟩
theorem str_dec (a b : Str) : decide (V.str a = V.str b) = decide (a = b) := by
  by_cases z : a = b
  · subst z; simp
  · rw [decide_eq_false z, decide_eq_false (fun y => z (V.str.inj y))]
theorem rv_eq : RV cls (rOr rEq (rEqD K)) eqT := fun p q0 N H x y dx dy W ax ay P w Q q => by
  unfold eqT at w
  split at w
  · have e1 := ax.str; have e2 := ay.str
    subst e1 e2
    exact .inl ⟨rfl, by rw [str_dec]; exact q _ H _ w (Go.refl H) (.bl _)⟩
  · exact .inr (rv_eqDD p q0 N H x y _ _ W ax ay P w Q q)
theorem rv_ne : RV cls (rOr rNe (rNeD K)) neT := fun p q0 N H x y dx dy W ax ay P w Q q => by
  unfold neT at w
  split at w
  · have e1 := ax.str; have e2 := ay.str
    subst e1 e2
    exact .inl ⟨rfl, by rw [str_dec]; exact q _ H _ w (Go.refl H) (.bl _)⟩
  · exact .inr (rv_neDD p q0 N H x y _ _ W ax ay P w Q q)
def rIsX : R2 := rOr rIsN rIsB
theorem opIsX : OpR X (compareOp .Is) rIsX := op_or op_isN1 op_isBl
def rNotX : R2 := rOr rNotN rNotB
theorem opNotX : OpR X (compareOp .IsNot) rNotX := op_or op_notN1 op_notBl
theorem atS_non {q0 N : Addr → Prop} {H : Hp} {v : V} {d : D} (h : AtS cls q0 N H v d) : decide (v = V.non) = isNon d := by
  rcases h with h | ⟨a, vs, xs, rfl, rfl, _⟩
  · exact at_non h
  · rfl
theorem rv_is : RV cls rIsX isT := fun p q0 N H x y dx dy W ax ay P w Q q => by
  unfold isT at w
  split at w
  · cases ay.at (fun _ e => nomatch e)
    refine .inl ⟨rfl, ?_⟩
    rw [atS_non ax]
    exact q _ H _ w (Go.refl H) (.bl _)
  · have e1 := ax.bl; have e2 := ay.bl
    subst e1 e2
    exact .inr ⟨_, _, rfl, rfl, q _ H _ w (Go.refl H) (.bl _)⟩
  · exact w.elim
theorem rv_isNot : RV cls rNotX isNotT := fun p q0 N H x y dx dy W ax ay P w Q q => by
  unfold isNotT at w
  split at w
  · cases ay.at (fun _ e => nomatch e)
    refine .inl ⟨rfl, ?_⟩
    rw [atS_non ax]
    exact q _ H _ w (Go.refl H) (.bl _)
  · have e1 := ax.bl; have e2 := ay.bl
    subst e1 e2
    exact .inr ⟨_, _, rfl, rfl, q _ H _ w (Go.refl H) (.bl _)⟩
  · exact w.elim
theorem any_py (x : PyData) : ∀ ys : List D, (pyAll ys).any (fun z => PyData.eqv z x) = ys.any fun z => (py z).eqv x
  | [] => rfl
  | y :: ys => by
    show ((py y).eqv x || (pyAll ys).any _) = _
    rw [any_py x ys]
    rfl
theorem okS {ys : List D} (h : ys.all (okD 60) = true) : SeqAt.shaped (.list (pyAll ys)) = true := okD_shaped (n := 61) (d := .lst ys) h (by decide)
theorem rv_in : RV cls (rInD K) inT := fun p q0 N H x y dx dy W ax ay P w Q q => by
  unfold inT at w
  split at w
  · obtain ⟨⟨h1, h2⟩, w⟩ := ite_wp w
    refine ⟨_, _, dpS_of h1 ax, dpS_of (n := 61) (d := .lst _) h2 ay, okD_shaped h1 (by decide), okS h2, ?_⟩
    rw [any_py]
    exact q _ H _ w (Go.refl H) (.bl _)
  · exact w.elim
theorem rv_notIn : RV cls (rNotInD K) notInT := fun p q0 N H x y dx dy W ax ay P w Q q => by
  unfold notInT at w
  split at w
  · obtain ⟨⟨h1, h2⟩, w⟩ := ite_wp w
    refine ⟨_, _, dpS_of h1 ax, dpS_of (n := 61) (d := .lst _) h2 ay, okD_shaped h1 (by decide), okS h2, ?_⟩
    rw [any_py]
    exact q _ H _ w (Go.refl H) (.bl _)
  · exact w.elim
theorem ix_aux {N : Addr → Prop} {H : Hp} {vs : List V} {xs : List D} {i : Int} {d : D} (aa : AtAll cls N H vs xs) (e : atI xs i = some d) : ∃ v, atI vs i = some v ∧ At cls N H v d := by
  unfold atI at e ⊢
  rw [aa.length]
  cases e1 : ixN xs.length i with
  | none => rw [e1] at e; cases e
  | some j =>
    rw [e1] at e
    obtain ⟨v, hv, av⟩ := aa.get (show xs[j]? = some d from e)
    exact ⟨v, hv, av⟩
theorem atI_map {α β : Type} {f : α → β} {xs : List α} {i : Int} : atI (xs.map f) i = (atI xs i).map f := by
  unfold atI
  rw [List.length_map]
  cases ixN xs.length i with
  | none => rfl
  | some j => exact List.getElem?_map ..
theorem rv_ix (hK : cls.K = K) : RV cls (rIx K) ixT := fun p q0 N H x y dx dy W ax ay P w Q q => by
  unfold ixT at w
  split at w
  · obtain ⟨d, e, w⟩ := opt_wp w
    have e2 := ay.int
    subst e2
    obtain ⟨a, vs, rfl, h, aa⟩ := ax.lst
    obtain ⟨v, hv, av⟩ := ix_aux aa e
    exact .inl ⟨a, vs, _, v, rfl, rfl, .inl (.inl h), hv, q v H d w (Go.refl H) av⟩
  · obtain ⟨d, e, w⟩ := opt_wp w
    have e2 := ay.int
    subst e2
    obtain ⟨a, vs, rfl, n, h, aa⟩ := ax.tup
    obtain ⟨v, hv, av⟩ := ix_aux aa e
    exact .inr (.inl ⟨a, vs, _, v, rfl, rfl, .inl (.inl h), hv, q v H d w (Go.refl H) av⟩)
  · rename_i ns i
    obtain ⟨d, e, w⟩ := opt_wp w
    have e2 := ay.int
    subst e2
    cases e3 : atI ns i with
    | none => rw [e3] at e; cases e
    | some j =>
      rw [e3] at e
      cases e
      have em : atI (ns.map V.int) i = some (V.int j) := by rw [atI_map, e3]; rfl
      cases ax.at (fun _ e => nomatch e) with
      | scr n r => exact .inl ⟨_, _, _, _, rfl, rfl, .inl r, em, q _ H _ w (Go.refl H) (.int _)⟩
      | scrK h => exact .inl ⟨_, _, _, _, rfl, rfl, by rw [← hK]; exact h H, em, q _ H _ w (Go.refl H) (.int _)⟩
  · exact w.elim
end

/-! ### slices -/
def slT : D → Option Int → Option Int → T D
  | .lst xs, lo, hi => .ret (.lst (cut xs lo hi))
  | .tup xs, lo, hi => .ret (.tup (cut xs lo hi))
  | _, _, _ => .bad
def mSl (ma : ME) (ml mh : MO) : ME := fun ds => (ma ds).bind fun x => (ml ds).bind fun lo => (mh ds).bind fun hi => slT x lo hi
def slFT : D → Option Int → Option Int → T (List D)
  | .lst xs, lo, hi => .ret (cut xs lo hi)
  | _, _, _ => .bad
def mSlF (ma : ME) (ml mh : MO) : MA := fun ds => (ma ds).bind fun x => (ml ds).bind fun lo => (mh ds).bind fun hi => slFT x lo hi
section
variable {cls : Cl} {K : PySem.W.Frag} {te : TE} {tl th : TO} {ma : ME} {ml mh : MO}
theorem j_sl (ha : JS cls te ma) (hl : JO cls tl ml) (hh : JO cls th mh) : JE cls (tSl (slOr (rSlL K) (rSlA K)) te tl th) (mSl ma ml mh) := fun p ds P w pn N H0 ad σ H S Q q => by
  refine ha p ds _ (T.wp_bind.mp w) pn N H0 ad σ H S _ fun v H1 d pd g1 a => ?_
  refine hl p ds _ (T.wp_bind.mp pd) pn N H0 ad σ H1 (S.mono g1) _ fun lo H2 pl g2 => ?_
  refine hh p ds _ (T.wp_bind.mp pl) pn N H0 ad σ H2 (S.mono (g1.trans g2)) _ fun hi H3 ph g3 => ?_
  have g := g1.trans (g2.trans g3)
  have a3 := a.mono S.wf.sub S.hsub (g2.trans g3)
  cases d with
  | lst xs =>
    have ph : P (.lst (cut xs lo hi)) := ph
    obtain ⟨l0, vs, rfl, r, aa⟩ := a3.lst
    exact .inl ⟨l0, vs, rfl, .inl (.inl r), fun l e => q _ _ _ ph (g.trans (Go.new e)) (.lst (fresh_hid (S.mono g).hwf e) upd_same ((aa.cut lo hi).mono S.hsub (Go.new e)))⟩
  | tup xs =>
    have ph : P (.tup (cut xs lo hi)) := ph
    obtain ⟨l0, vs, rfl, n, r, aa⟩ := a3.tup
    refine .inr ⟨l0, vs, rfl, .inl (.inl r), fun w => ?_, fun _ l e => q _ _ _ ph (g.trans (Go.new e)) (.tup (fresh_hid (S.mono g).hwf e) upd_same ((aa.cut lo hi).mono S.hsub (Go.new e)))⟩
    have e1 : cut xs lo hi = xs := by
      rw [aa.length] at w
      exact cut_whole w
    rw [e1] at ph
    exact q _ _ _ ph g (.tup n r aa)
  | _ => exact ph.elim
theorem j_slF (ha : JS cls te ma) (hl : JO cls tl ml) (hh : JO cls th mh) : JF cls (tSl (slOr (rSlL K) (rSlA K)) te tl th) (mSlF ma ml mh) := fun p ds P w pn N H0 ad σ H S Q q => by
  refine ha p ds _ (T.wp_bind.mp w) pn N H0 ad σ H S _ fun v H1 d pd g1 a => ?_
  refine hl p ds _ (T.wp_bind.mp pd) pn N H0 ad σ H1 (S.mono g1) _ fun lo H2 pl g2 => ?_
  refine hh p ds _ (T.wp_bind.mp pl) pn N H0 ad σ H2 (S.mono (g1.trans g2)) _ fun hi H3 ph g3 => ?_
  have g := g1.trans (g2.trans g3)
  have a3 := a.mono S.wf.sub S.hsub (g2.trans g3)
  unfold slFT at ph
  split at ph
  · obtain ⟨l0, vs, rfl, r, aa⟩ := a3.lst
    exact .inl ⟨l0, vs, rfl, .inl (.inl r), fun l e => q l _ _ _ ph (g.trans (Go.new e)) (fresh_of S.wf g e) upd_same (out_of (aa.cut lo hi) e)⟩
  · exact ph.elim
/-- xs[::-1] -/
def revT : D → Option Int → Option Int → Option Int → T (List D)
  | .lst xs, none, none, some (-1) => .ret xs.reverse
  | _, _, _, _ => .bad
def mRev (ma : ME) (ml mh ms : MO) : MA := fun ds => (ma ds).bind fun x => (ml ds).bind fun lo => (mh ds).bind fun hi => (ms ds).bind fun st => revT x lo hi st
theorem AtAll.reverse {N : Addr → Prop} {H : Hp} : ∀ {vs : List V} {xs : List D}, AtAll cls N H vs xs → AtAll cls N H vs.reverse xs.reverse
  | _, _, .nil => .nil
  | _, _, .cons a t => by
    rw [List.reverse_cons, List.reverse_cons]
    exact (AtAll.reverse t).append (.cons a .nil)
theorem j_rev {ts : TO} {ms : MO} (ha : JS cls te ma) (hl : JO cls tl ml) (hh : JO cls th mh) (hs : JO cls ts ms) : JF cls (tRev K te tl th ts) (mRev ma ml mh ms) := fun p ds P w pn N H0 ad σ H S Q q => by
  refine ha p ds _ (T.wp_bind.mp w) pn N H0 ad σ H S _ fun v H1 d pd g1 a => ?_
  refine hl p ds _ (T.wp_bind.mp pd) pn N H0 ad σ H1 (S.mono g1) _ fun lo H2 pl g2 => ?_
  refine hh p ds _ (T.wp_bind.mp pl) pn N H0 ad σ H2 (S.mono (g1.trans g2)) _ fun hi H3 ph g3 => ?_
  refine hs p ds _ (T.wp_bind.mp ph) pn N H0 ad σ H3 (S.mono ((g1.trans g2).trans g3)) _ fun st H4 ps g4 => ?_
  have g := ((g1.trans g2).trans g3).trans g4
  have a4 := a.mono S.wf.sub S.hsub ((g2.trans g3).trans g4)
  unfold revT at ps
  split at ps
  · obtain ⟨l0, vs, rfl, r, aa⟩ := a4.lst
    exact ⟨rfl, rfl, rfl, l0, vs, rfl, .inl (.inl r), fun l e => q l _ _ _ ps (g.trans (Go.new e)) (fresh_of S.wf g e) upd_same (out_of aa.reverse e)⟩
  · exact ps.elim
end

/-! ### what is built in -/
def lenT : List D → T D
  | [.lst xs] => .ret (.int xs.length)
  | [.tup xs] => .ret (.int xs.length)
  | [.scr ns] => .ret (.int ns.length)
  | _ => .bad
def tupleT : List D → T D
  | [.lst xs] => .ret (.tup xs)
  | [.tup xs] => .ret (.tup xs)
  | _ => .bad
def listT : List D → T (List D)
  | [.lst xs] => .ret xs
  | [.tup xs] => .ret xs
  | _ => .bad
def intsD : List D → Option (List Int)
  | [] => some []
  | .int i :: xs => (intsD xs).map (i :: ·)
  | _ => none
def blsD : List D → Option (List Bool)
  | [] => some []
  | .bl i :: xs => (blsD xs).map (i :: ·)
  | _ => none
theorem intsD_some : ∀ {xs : List D} {is : List Int}, intsD xs = some is → xs = is.map D.int
  | [], is, e => by cases e; rfl
  | .int i :: xs, is, e => by
    unfold intsD at e
    cases q : intsD xs with
    | none => rw [q] at e; cases e
    | some js => rw [q] at e; cases e; rw [intsD_some q]; rfl
  | .non :: _, _, e => nomatch e
  | .bl _ :: _, _, e => nomatch e
  | .str _ :: _, _, e => nomatch e
  | .ty _ :: _, _, e => nomatch e
  | .lst _ :: _, _, e => nomatch e
  | .tup _ :: _, _, e => nomatch e
  | .dk _ _ :: _, _, e => nomatch e
  | .obj _ _ _ :: _, _, e => nomatch e
  | .adr _ :: _, _, e => nomatch e
  | .scr _ :: _, _, e => nomatch e
theorem blsD_some : ∀ {xs : List D} {is : List Bool}, blsD xs = some is → xs = is.map D.bl
  | [], is, e => by cases e; rfl
  | .bl i :: xs, is, e => by
    unfold blsD at e
    cases q : blsD xs with
    | none => rw [q] at e; cases e
    | some js => rw [q] at e; cases e; rw [blsD_some q]; rfl
  | .non :: _, _, e => nomatch e
  | .int _ :: _, _, e => nomatch e
  | .str _ :: _, _, e => nomatch e
  | .ty _ :: _, _, e => nomatch e
  | .lst _ :: _, _, e => nomatch e
  | .tup _ :: _, _, e => nomatch e
  | .dk _ _ :: _, _, e => nomatch e
  | .obj _ _ _ :: _, _, e => nomatch e
  | .adr _ :: _, _, e => nomatch e
  | .scr _ :: _, _, e => nomatch e
@[simp] theorem intsD_map (is : List Int) : intsD (is.map D.int) = some is := by
  induction is with
  | nil => rfl
  | cons i is ih => show (intsD (is.map D.int)).map _ = _; rw [ih]; rfl
@[simp] theorem blsD_map (is : List Bool) : blsD (is.map D.bl) = some is := by
  induction is with
  | nil => rfl
  | cons i is ih => show (blsD (is.map D.bl)).map _ = _; rw [ih]; rfl
def sumT : List D → T D
  | [.lst xs] => match intsD xs with
    | some is => .ret (.int is.sum)
    | none => .bad
  | _ => .bad
def allT : List D → T D
  | [.lst xs] => match blsD xs with
    | some bs => .ret (.bl (bs.all id))
    | none => .bad
  | _ => .bad
def anyT : List D → T D
  | [.lst xs] => match blsD xs with
    | some bs => .ret (.bl (bs.any id))
    | none => .bad
  | _ => .bad
def absT : List D → T D
  | [.int i] => .ret (.int (if i < 0 then -i else i))
  | _ => .bad
def maxT : List D → T D
  | [.int i, .int j] => .ret (.int (if j > i then j else i))
  | _ => .bad
def minT : List D → T D
  | [.int i, .int j] => .ret (.int (if j < i then j else i))
  | _ => .bad
def intT : List D → T D
  | [.int i] => .ret (.int i)
  | [.bl b] => .ret (.int (if b then 1 else 0))
  | _ => .bad
def divmodT : List D → T D
  | [.int i, .int j] => if 0 < j ∧ j < 1073741824 then .ret (.tup [.int (i / j), .int (i % j)]) else .bad
  | _ => .bad
section
variable {cls : Cl} {K : PySem.W.Frag} {X : Cx}
theorem s1 {q0 N : Addr → Prop} {H : Hp} {vs : List V} {d : D} (a : AtAllS cls q0 N H vs [d]) : ∃ v, vs = [v] ∧ AtS cls q0 N H v d := by
  cases a with | cons a b => cases b; exact ⟨_, rfl, a⟩
theorem s2 {q0 N : Addr → Prop} {H : Hp} {vs : List V} {d e : D} (a : AtAllS cls q0 N H vs [d, e]) : ∃ v w, vs = [v, w] ∧ AtS cls q0 N H v d ∧ AtS cls q0 N H w e := by
  cases a with | cons a b => cases b with | cons b c => cases c; exact ⟨_, _, rfl, a, b⟩
theorem rc_lenX (hK : cls.K = K) : RC cls (rLen K) lenT := fun p q0 N H vs xs W a P w Q q => by
  unfold lenT at w
  split at w
  · obtain ⟨v, rfl, b⟩ := s1 a
    obtain ⟨l, ws, rfl, e, aa⟩ := b.lst
    exact ⟨l, ws, rfl, .inl (.inl (.inl e)), by rw [aa.length]; exact q _ H _ w (Go.refl H) (.int _)⟩
  · obtain ⟨v, rfl, b⟩ := s1 a
    obtain ⟨l, ws, rfl, _, e, aa⟩ := b.tup
    exact ⟨l, ws, rfl, .inr (.inl (.inl e)), by rw [aa.length]; exact q _ H _ w (Go.refl H) (.int _)⟩
  · obtain ⟨v, rfl, b⟩ := s1 a
    cases b.at (fun _ e => nomatch e) with
    | scr n r => exact ⟨_, _, rfl, .inl (.inl r), by rw [List.length_map]; exact q _ H _ w (Go.refl H) (.int _)⟩
    | scrK h => exact ⟨_, _, rfl, .inl (by rw [← hK]; exact h H), by rw [List.length_map]; exact q _ H _ w (Go.refl H) (.int _)⟩
  · exact w.elim
theorem rc_tupleX : RC cls (rTuple K) tupleT := fun p q0 N H vs xs W a P w Q q => by
  unfold tupleT at w
  split at w
  · obtain ⟨v, rfl, b⟩ := s1 a
    obtain ⟨l, ws, rfl, e, aa⟩ := b.lst
    exact ⟨l, ws, rfl, .inl ⟨.inl (.inl e), fun l hl => q _ _ _ w (Go.new hl) (.tup (fresh_hid W hl) upd_same (aa.mono W.sub (Go.new hl)))⟩⟩
  · obtain ⟨v, rfl, b⟩ := s1 a
    have a0 := b.at (fun _ e => nomatch e)
    obtain ⟨l, ws, rfl, _, e, aa⟩ := b.tup
    exact ⟨l, ws, rfl, .inr ⟨.inl (.inl e), q _ H _ w (Go.refl H) a0⟩⟩
  · exact w.elim
theorem rc_listX : RCF cls (rList K) listT := fun p q0 N H vs xs W a P w Q q => by
  unfold listT at w
  split at w
  · obtain ⟨v, rfl, b⟩ := s1 a
    obtain ⟨l, ws, rfl, e, aa⟩ := b.lst
    exact ⟨l, ws, rfl, .inl (.inl (.inl e)), fun l hl => q l _ _ _ w (Go.new hl) hl upd_same (out_of aa hl)⟩
  · obtain ⟨v, rfl, b⟩ := s1 a
    obtain ⟨l, ws, rfl, _, e, aa⟩ := b.tup
    exact ⟨l, ws, rfl, .inr (.inl (.inl e)), fun l hl => q l _ _ _ w (Go.new hl) hl upd_same (out_of aa hl)⟩
  · exact w.elim
theorem rc_sumX : RC cls (rSum K) sumT := fun p q0 N H vs xs W a P w Q q => by
  unfold sumT at w
  split at w
  · obtain ⟨v, rfl, b⟩ := s1 a
    obtain ⟨l, ws, rfl, e, aa⟩ := b.lst
    split at w
    · rename_i is hi
      rw [intsD_some hi] at aa
      rw [aa.ints] at e
      exact ⟨l, _, rfl, .inl (.inl e), q _ H _ w (Go.refl H) (.int _)⟩
    · exact w.elim
  · exact w.elim
theorem rc_allX : RC cls (rAll K) allT := fun p q0 N H vs xs W a P w Q q => by
  unfold allT at w
  split at w
  · obtain ⟨v, rfl, b⟩ := s1 a
    obtain ⟨l, ws, rfl, e, aa⟩ := b.lst
    split at w
    · rename_i is hi
      rw [blsD_some hi] at aa
      rw [aa.bls] at e
      exact ⟨l, _, rfl, .inl (.inl e), q _ H _ w (Go.refl H) (.bl _)⟩
    · exact w.elim
  · exact w.elim
theorem rc_anyX : RC cls (rAny K) anyT := fun p q0 N H vs xs W a P w Q q => by
  unfold anyT at w
  split at w
  · obtain ⟨v, rfl, b⟩ := s1 a
    obtain ⟨l, ws, rfl, e, aa⟩ := b.lst
    split at w
    · rename_i is hi
      rw [blsD_some hi] at aa
      rw [aa.bls] at e
      exact ⟨l, _, rfl, .inl (.inl e), q _ H _ w (Go.refl H) (.bl _)⟩
    · exact w.elim
  · exact w.elim
theorem rc_absX : RC cls rAbs absT := fun p q0 N H vs xs W a P w Q q => by
  unfold absT at w
  split at w
  · obtain ⟨v, rfl, b⟩ := s1 a
    have e := b.int
    subst e
    exact ⟨_, rfl, q _ H _ w (Go.refl H) (.int _)⟩
  · exact w.elim
theorem rc_maxX : RC cls rMax maxT := fun p q0 N H vs xs W a P w Q q => by
  unfold maxT at w
  split at w
  · obtain ⟨v, u, rfl, b, b2⟩ := s2 a
    have e := b.int
    have e' := b2.int
    subst e e'
    exact ⟨_, _, rfl, q _ H _ w (Go.refl H) (.int _)⟩
  · exact w.elim
theorem rc_minX : RC cls rMin minT := fun p q0 N H vs xs W a P w Q q => by
  unfold minT at w
  split at w
  · obtain ⟨v, u, rfl, b, b2⟩ := s2 a
    have e := b.int
    have e' := b2.int
    subst e e'
    exact ⟨_, _, rfl, q _ H _ w (Go.refl H) (.int _)⟩
  · exact w.elim
theorem rc_intX : RC cls rInt intT := fun p q0 N H vs xs W a P w Q q => by
  unfold intT at w
  split at w
  · obtain ⟨v, rfl, b⟩ := s1 a
    have e := b.int
    subst e
    exact .inl ⟨_, rfl, q _ H _ w (Go.refl H) (.int _)⟩
  · obtain ⟨v, rfl, b⟩ := s1 a
    have e := b.bl
    subst e
    exact .inr ⟨_, rfl, q _ H _ w (Go.refl H) (.int _)⟩
  · exact w.elim
theorem rc_divmodX : RC cls rDivmod divmodT := fun p q0 N H vs xs W a P w Q q => by
  unfold divmodT at w
  split at w
  · obtain ⟨hl, w⟩ := ite_wp w
    obtain ⟨v, u, rfl, b, b2⟩ := s2 a
    have e := b.int
    have e' := b2.int
    subst e e'
    exact ⟨_, _, rfl, hl, fun l hl => q _ _ _ w (Go.new hl) (.tup (fresh_hid W hl) upd_same (.cons (.int _) (.cons (.int _) .nil)))⟩
  · exact w.elim
end

/-! ### isinstance of what is built in -/
inductive Ty where
  | int | bool | str | list | tuple | dict
def Ty.nm : Ty → String
  | .int => "int"
  | .bool => "bool"
  | .str => "str"
  | .list => "list"
  | .tuple => "tuple"
  | .dict => "dict"
def isStr : D → Bool
  | .str _ => true
  | _ => false
def isDk : D → Bool
  | .dk _ _ => true
  | _ => false
def Ty.has : Ty → D → Bool
  | .int, d => isInt d || isBl d
  | .bool, d => isBl d
  | .str, d => isStr d
  | .list, d => isLst d
  | .tuple, d => isTup d
  | .dict, d => isDk d
theorem isB_has : ∀ (t : Ty) {d : D}, builtD d = true → isB (tyName d) t.nm = some (t.has d)
  | .int, _, h => isB_int h
  | .bool, _, h => isB_bool h
  | .list, _, h => isB_list h
  | .tuple, _, h => isB_tuple h
  | .str, d, h => by cases d <;> first | exact absurd h Bool.false_ne_true | (show kitB _ "str" = some _; first | (show kitB "NoneType" "str" = some false; decide +kernel) | (show kitB "bool" "str" = some false; decide +kernel) | (show kitB "int" "str" = some false; decide +kernel) | (show kitB "str" "str" = some true; decide +kernel) | (show kitB "list" "str" = some false; decide +kernel) | (show kitB "tuple" "str" = some false; decide +kernel) | (show kitB "dict" "str" = some false; decide +kernel))
  | .dict, d, h => by cases d <;> first | exact absurd h Bool.false_ne_true | (show kitB _ "dict" = some _; first | (show kitB "NoneType" "dict" = some false; decide +kernel) | (show kitB "bool" "dict" = some false; decide +kernel) | (show kitB "int" "dict" = some false; decide +kernel) | (show kitB "str" "dict" = some false; decide +kernel) | (show kitB "list" "dict" = some false; decide +kernel) | (show kitB "tuple" "dict" = some false; decide +kernel) | (show kitB "dict" "dict" = some true; decide +kernel))
def isiT (ts : List Ty) (d : D) : T D := if builtD d = true then .ret (.bl (ts.any fun t => t.has d)) else .bad
def mIsi (ts : List Ty) (m : ME) : ME := fun ds => (m ds).bind (isiT ts)
section
variable {cls : Cl} {K : PySem.W.Frag} {te : TE} {m : ME}
theorem tyS_of {q0 N : Addr → Prop} {H : Hp} {v : V} {d : D} (a : AtS cls q0 N H v d) (hb : builtD d = true) : TyX K H v (.type (tyName d)) := by
  rcases a with a | ⟨a, vs, xs, rfl, rfl, _, e, _⟩
  · exact tyX_of a hb
  · exact .base (.lst e)
theorem j_isi {n : String} (t : Ty) (hn : t.nm = n) (h : JS cls te m) : JE cls (tCB (cOr (rIsi K) (rIsiT K)) (tCons te (tCons (tC (.ty n)) tNil))) (mIsi [t] m) := fun p ds P w pn N H0 ad σ H S Q q => by
  refine h p ds _ (T.wp_bind.mp w) pn N H0 ad σ H S _ fun v H1 d pd g a => ?_
  obtain ⟨hb, w⟩ := ite_wp pd
  subst hn
  refine .inl ⟨_, _, _, _, t.has d, rfl, .ty _, tyS_of a hb, kit_ty (isB_has t hb), q _ H1 _ ?_ g (.bl _)⟩
  have e : ([t].any fun t => t.has d) = t.has d := by rw [List.any_cons, List.any_nil, Bool.or_false]
  rw [← e]
  exact w
theorem j_isi2 {n n' : String} (t t' : Ty) (hn : t.nm = n) (hn' : t'.nm = n') (h : JS cls te m) : JE cls (tCB (cOr (rIsi K) (rIsiT K)) (tCons te (tCons (tTup (tCons (tC (.ty n)) (tCons (tC (.ty n')) tNil))) tNil))) (mIsi [t, t'] m) := fun p ds P w pn N H0 ad σ H S Q q => by
  refine h p ds _ (T.wp_bind.mp w) pn N H0 ad σ H S _ fun v H1 d pd g a => ?_
  obtain ⟨hb, w⟩ := ite_wp pd
  subst hn hn'
  refine ⟨by show 2 ≤ sizeLine; decide, fun T0 hT => ?_⟩
  have g2 : Go p H1 (upd H1 T0 (.tup [.ty t.nm, .ty t'.nm])) := Go.new hT
  refine .inr ⟨v, T0, _, _, [.type t.nm, .type t'.nm], t.has d || t'.has d, rfl, upd_same, .cons (.ty _) (.cons (.ty _) .nil), tyS_of (a.mono S.wf.sub S.hsub g2) hb, ?_, q _ _ _ ?_ (g.trans g2) (.bl _)⟩
  · refine kitAny_cons (b := t.has d) (kit_ty (isB_has t hb)) (fun e => ?_) fun e => by rw [e]; rfl
    rw [e, Bool.false_or]
    refine kitAny_cons (b := t'.has d) (kit_ty (isB_has t' hb)) (fun e => ?_) fun e => by rw [e]
    rw [e]
    rfl
  · have e : ([t, t'].any fun t => t.has d) = (t.has d || t'.has d) := by rw [List.any_cons, List.any_cons, List.any_nil, Bool.or_false]
    rw [← e]
    exact w
/-- isinstance of an own class -/
def isoT (c : Nat) (d : D) : T D := if builtD d = true ∨ isObj c d = true then .ret (.bl (isObj c d)) else .bad
def mIso (c : Nat) (m : ME) : ME := fun ds => (m ds).bind (isoT c)
theorem j_iso {c : Nat} (hc : ClF K (cls.C c)) (h : JS cls te m) : JE cls (tCB (cOr (rIsi K) (rIsiT K)) (tCons te (tCons (tC (.ref (cls.C c))) tNil))) (mIso c m) := fun p ds P w pn N H0 ad σ H S Q q => by
  refine h p ds _ (T.wp_bind.mp w) pn N H0 ad σ H S _ fun v H1 d pd g a => ?_
  obtain ⟨hb, w⟩ := ite_wp pd
  rcases hb with hb | ho
  · refine .inl ⟨_, _, _, _, false, rfl, .own _, tyS_of a hb, hc.no _ (ty_in hb), q _ H1 _ ?_ g (.bl _)⟩
    have : isObj c d = false := by cases d <;> first | rfl | cases hb
    rw [← this]
    exact w
  · cases d with
    | obj c' ns xs =>
      have e : c = c' := beq_iff_eq.mp ho
      subst e
      cases a.at (fun _ e => nomatch e) with
      | obj n r l at_ =>
        refine .inl ⟨_, _, _, _, true, rfl, .own _, .base (.ins r hc.cl hc.ha hc.hn hc.htk hc.hm), hc.me, q _ H1 _ ?_ g (.bl _)⟩
        rw [ho] at w
        exact w
    | _ => cases ho
end
/-! ### repr -/
def flatDk : D → Bool
  | .dk _ xs => !PyData.hasDictAll (pyAll xs)
  | _ => false
def okRepr (d : D) : Bool := shE 20 d && decide (szE 20 d ≤ 10000000) && (!(py d).hasDict || noL 20 d || flatDk d)
def reprT : List D → T D
  | [d] => if okRepr d = true then .ret (.str (py d).shown) else .bad
  | _ => .bad
end Lk

namespace Lk
open PySem PySem.Spec PyProof.Rows L2

theorem T.wp_const {α : Type} {p : Addr → Prop} {C : Prop} : ∀ {t : T α}, t.wp p (fun _ => C) → C
  | .ret _, h => h
  | .bad, h => h.elim
  | .exc _ _, h => h.elim
  | .draw _ n k, ⟨_, h1, _, h⟩ => T.wp_const (t := k 0) (h 0 (Int.le_refl 0) h1)
section
variable {cls : Cl}
theorem flat_ex {d : D} (h : flatDk d = true) : ∃ ks xs, d = .dk ks xs ∧ PyData.hasDictAll (pyAll xs) = false := by
  cases d <;> first | cases h | exact ⟨_, _, rfl, by simpa [flatDk] using h⟩
theorem repr_aux {p q0 N : Addr → Prop} {H : Hp} {vs : List V} {d : D} {P : D → Prop} {Q : VK} (W : Wf p N H) (a : AtAllS cls q0 N H vs [d]) (w : T.wp p (if okRepr d = true then T.ret (D.str (py d).shown) else T.bad) P)
    (q : ∀ (v : V) (H' : Hp) (d : D), P d → Go p H H' → At cls N H' v d → Q v H') : rShE cls vs H Q := by
  obtain ⟨hl, w⟩ := ite_wp w
  obtain ⟨v, rfl, b⟩ := s1 a
  unfold okRepr at hl
  rw [Bool.and_eq_true, Bool.and_eq_true, Bool.or_eq_true, Bool.or_eq_true] at hl
  obtain ⟨⟨h1, h2⟩, h3⟩ := hl
  have at_ : ∃ N', At cls N' H v d := by
    rcases b with b | ⟨l, vs, ys, rfl, rfl, hp, e, aa⟩
    · exact ⟨N, b⟩
    · exact ⟨fun b => N b ∧ b ≠ l, .lst (fun z => z.2 rfl) e (aa.less fun b z => z.1)⟩
  obtain ⟨N', at_⟩ := at_
  refine ⟨N', v, d, 20, rfl, at_, h1, by decide, of_decide_eq_true h2, ?_, q _ H _ w (Go.refl H) (.str _)⟩
  rcases h3 with (h3 | h3) | h3
  · exact .inl (by simpa using h3)
  · exact .inr (.inl h3)
  · exact .inr (.inr (flat_ex h3))
theorem rc_repr : RC cls (rShE cls) reprT := fun p q0 N H vs xs W a P w Q q => by
  unfold reprT at w
  split at w
  · rename_i d
    exact repr_aux W a w q
  · exact w.elim
end

/-! ### targets -/
inductive Tg where
  | nm (i : Nat)
  | tp (ts : List Tg)
mutual
def Tg.js : Tg → List Nat
  | .nm i => [i]
  | .tp ts => Tg.jsAll ts
def Tg.jsAll : List Tg → List Nat
  | [] => []
  | t :: ts => t.js ++ Tg.jsAll ts
def Tg.put : Tg → D → Sts → Option Sts
  | .nm i, d, ds => some (ds.set i (some (.dat d)))
  | .tp ts, .tup xs, ds => Tg.putAll ts xs ds
  | .tp _, _, _ => none
def Tg.putAll : List Tg → List D → Sts → Option Sts
  | [], [], ds => some ds
  | t :: ts, x :: xs, ds => match t.put x ds with
    | some ds1 => Tg.putAll ts xs ds1
    | none => none
  | _, _, _ => none
end
section
variable {N : Addr → Prop} {ad : Nat → Addr}
mutual
theorem put_hid : ∀ (t : Tg) {d : D} {ds ds' : Sts}, t.put d ds = some ds' → ∀ a, hid N ad ds' a → hid N ad ds a
  | .nm i, d, ds, ds', e => by cases e; exact hid_set
  | .tp ts, .tup xs, ds, ds', e => putAll_hid ts (show Tg.putAll ts xs ds = some ds' from e)
  | .tp _, .non, _, _, e => nomatch e
  | .tp _, .bl _, _, _, e => nomatch e
  | .tp _, .int _, _, _, e => nomatch e
  | .tp _, .str _, _, _, e => nomatch e
  | .tp _, .ty _, _, _, e => nomatch e
  | .tp _, .lst _, _, _, e => nomatch e
  | .tp _, .dk _ _, _, _, e => nomatch e
  | .tp _, .obj _ _ _, _, _, e => nomatch e
  | .tp _, .adr _, _, _, e => nomatch e
  | .tp _, .scr _, _, _, e => nomatch e
theorem putAll_hid : ∀ (ts : List Tg) {xs : List D} {ds ds' : Sts}, Tg.putAll ts xs ds = some ds' → ∀ a, hid N ad ds' a → hid N ad ds a
  | [], [], ds, ds', e => by cases e; exact fun _ h => h
  | [], _ :: _, _, _, e => nomatch e
  | _ :: _, [], _, _, e => nomatch e
  | t :: ts, x :: xs, ds, ds', e => by
    unfold Tg.putAll at e
    cases q : t.put x ds with
    | none => rw [q] at e; cases e
    | some ds1 =>
      rw [q] at e
      exact fun a h => put_hid t q a (putAll_hid ts e a h)
end
mutual
theorem put_own : ∀ (t : Tg) {d : D} {ds ds' : Sts}, t.put d ds = some ds' → (∀ j ∈ t.js, (ds.map ownOf)[j]? = some none ∨ (ds.map ownOf)[j]? = none) → ds'.map ownOf = ds.map ownOf
  | .nm i, d, ds, ds', e, h => by
    cases e
    rw [List.map_set]
    rcases h i (List.mem_singleton.mpr rfl) with h | h
    · obtain ⟨hi, e⟩ := List.getElem?_eq_some_iff.mp h
      have : (ds.map ownOf).set i ((ds.map ownOf)[i]) = ds.map ownOf := List.set_getElem_self hi
      rw [e] at this
      exact this
    · exact List.set_eq_of_length_le (List.getElem?_eq_none_iff.mp h)
  | .tp ts, .tup xs, ds, ds', e, h => putAll_own ts (show Tg.putAll ts xs ds = some ds' from e) h
  | .tp _, .non, _, _, e, _ => nomatch e
  | .tp _, .bl _, _, _, e, _ => nomatch e
  | .tp _, .int _, _, _, e, _ => nomatch e
  | .tp _, .str _, _, _, e, _ => nomatch e
  | .tp _, .ty _, _, _, e, _ => nomatch e
  | .tp _, .lst _, _, _, e, _ => nomatch e
  | .tp _, .dk _ _, _, _, e, _ => nomatch e
  | .tp _, .obj _ _ _, _, _, e, _ => nomatch e
  | .tp _, .adr _, _, _, e, _ => nomatch e
  | .tp _, .scr _, _, _, e, _ => nomatch e
theorem putAll_own : ∀ (ts : List Tg) {xs : List D} {ds ds' : Sts}, Tg.putAll ts xs ds = some ds' → (∀ j ∈ Tg.jsAll ts, (ds.map ownOf)[j]? = some none ∨ (ds.map ownOf)[j]? = none) → ds'.map ownOf = ds.map ownOf
  | [], [], ds, ds', e, _ => by cases e; rfl
  | [], _ :: _, _, _, e, _ => nomatch e
  | _ :: _, [], _, _, e, _ => nomatch e
  | t :: ts, x :: xs, ds, ds', e, h => by
    unfold Tg.putAll at e
    cases q : t.put x ds with
    | none => rw [q] at e; cases e
    | some ds1 =>
      rw [q] at e
      have h1 := put_own t q fun j hj => h j (List.mem_append_left _ hj)
      rw [putAll_own ts e fun j hj => by rw [h1]; exact h j (List.mem_append_right _ hj), h1]
end
end
mutual
theorem put_mut : ∀ (t : Tg) {d : D} {ds ds' : Sts}, t.put d ds = some ds' → ∀ (i : Nat) (c : Con), ds'[i]? = some (some (.mut c)) → ds[i]? = some (some (.mut c))
  | .nm j, d, ds, ds', e, i, c, h => by
    cases e
    rcases get_set h with ⟨_, z, _⟩ | ⟨_, h⟩
    · cases z
    · exact h
  | .tp ts, .tup xs, ds, ds', e, i, c, h => putAll_mut ts (show Tg.putAll ts xs ds = some ds' from e) i c h
  | .tp _, .non, _, _, e, _, _, _ => nomatch e
  | .tp _, .bl _, _, _, e, _, _, _ => nomatch e
  | .tp _, .int _, _, _, e, _, _, _ => nomatch e
  | .tp _, .str _, _, _, e, _, _, _ => nomatch e
  | .tp _, .ty _, _, _, e, _, _, _ => nomatch e
  | .tp _, .lst _, _, _, e, _, _, _ => nomatch e
  | .tp _, .dk _ _, _, _, e, _, _, _ => nomatch e
  | .tp _, .obj _ _ _, _, _, e, _, _, _ => nomatch e
  | .tp _, .adr _, _, _, e, _, _, _ => nomatch e
  | .tp _, .scr _, _, _, e, _, _, _ => nomatch e
theorem putAll_mut : ∀ (ts : List Tg) {xs : List D} {ds ds' : Sts}, Tg.putAll ts xs ds = some ds' → ∀ (i : Nat) (c : Con), ds'[i]? = some (some (.mut c)) → ds[i]? = some (some (.mut c))
  | [], [], ds, ds', e, i, c, h => by cases e; exact h
  | [], _ :: _, _, _, e, _, _, _ => nomatch e
  | _ :: _, [], _, _, e, _, _, _ => nomatch e
  | t :: ts, x :: xs, ds, ds', e, i, c, h => by
    unfold Tg.putAll at e
    cases q : t.put x ds with
    | none => rw [q] at e; cases e
    | some ds1 =>
      rw [q] at e
      exact put_mut t q i c (putAll_mut ts e i c h)
end
theorem wipe_mut {ds : Sts} : ∀ {vs : List Nat} (i : Nat) (c : Con), (wipeD ds vs)[i]? = some (some (.mut c)) → ds[i]? = some (some (.mut c))
  | [], _, _, h => h
  | v :: vs, i, c, h => by
    rcases get_set (show ((wipeD ds vs).set v none)[i]? = some (some (.mut c)) from h) with ⟨_, z, _⟩ | ⟨_, h⟩
    · cases z
    · exact wipe_mut i c h
theorem map_own {a b : Sts} (h : b.map ownOf = a.map ownOf) (i : Nat) (xs : List D) (e : b[i]? = some (some (Slot.own xs))) : a[i]? = some (some (Slot.own xs)) := by
  have e1 : (a.map ownOf)[i]? = some (some xs) := by rw [← h, List.getElem?_map, e]; rfl
  rw [List.getElem?_map] at e1
  cases q : a[i]? with
  | none => rw [q] at e1; cases e1
  | some o =>
    rw [q] at e1
    match o, e1 with
    | some (.own ys), e1 => cases e1; rfl
section
variable (cls : Cl)
def JG (g : TG) (t : Tg) : Prop := ∀ (p : Addr → Prop) (d : D) (ds ds' : Sts), t.put d ds = some ds' → EvG cls p g t.js d ds ds'
def JGs (g : TGs) (ts : List Tg) : Prop := ∀ (p : Addr → Prop) (xs : List D) (ds ds' : Sts), Tg.putAll ts xs ds = some ds' → xs.length = ts.length ∧ EvGs cls p g (Tg.jsAll ts) xs ds ds'
end
section
variable {cls : Cl} {K : PySem.W.Frag} {g : TG} {gs : TGs} {t : Tg} {ts : List Tg}
theorem jg_name (i : Nat) : JG cls (gName i) (.nm i) := fun p d ds ds' e => by cases e; exact eg_name
theorem jgs_nil : JGs cls gNil [] := fun p xs ds ds' e => by
  cases xs with
  | nil => cases e; exact ⟨rfl, egs_nil⟩
  | cons _ _ => cases e
theorem jgs_cons (h : JG cls g t) (k : JGs cls gs ts) : JGs cls (gCons g gs) (t :: ts) := fun p xs ds ds' e => by
  cases xs with
  | nil => cases e
  | cons x xs =>
    unfold Tg.putAll at e
    cases q : t.put x ds with
    | none => rw [q] at e; cases e
    | some ds1 =>
      rw [q] at e
      obtain ⟨hl, hk⟩ := k p xs ds1 ds' e
      refine ⟨by rw [List.length_cons, List.length_cons, hl], fun pn N H0 ad σ H M S hM vs a Q qq => ?_⟩
      cases a with
      | cons a1 a2 =>
        refine ⟨_, _, rfl, ?_⟩
        refine h p x ds ds1 q pn N H0 ad σ H S _ (a1.less hM) _ fun σ1 S1 w1 => ?_
        refine hk pn N H0 ad σ1 H M S1 (fun b hb => hM b (put_hid t q b hb)) _ a2 Q fun σ2 S2 w2 => qq σ2 S2 fun ws hw => ?_
        rw [w2 ws fun j hj => hw j (List.mem_append_right _ hj), w1 ws fun j hj => hw j (List.mem_append_left _ hj)]
theorem jg_tup {n : Nat} (k : JGs cls gs ts) (hn : ts.length = n) : JG cls (gTup K n gs) (.tp ts) := fun p d ds ds' e => by
  cases d with
  | tup xs =>
    obtain ⟨hl, hk⟩ := k p xs ds ds' e
    exact eg_tup hk (hl.trans hn)
  | _ => cases e
end

/-! ### what is walked -/
def seqT : D → T (List D)
  | .lst xs => .ret xs
  | .tup xs => .ret xs
  | _ => .bad
def mSeq (m : ME) : MA := fun ds => (m ds).bind seqT
def zipT : List D → T (List D)
  | [x, y] => (seqT x).bind fun xs => (seqT y).bind fun ys => .ret (zips xs ys)
  | _ => .bad
def enumT : List D → T (List D)
  | [x] => (seqT x).bind fun xs => .ret (enums 0 xs)
  | _ => .bad
def rng1T : List D → T (List D)
  | [.int n] => if -(2 ^ 62) ≤ n ∧ n < 2 ^ 62 then .ret (irng 0 n.toNat) else .bad
  | _ => .bad
def rng2T : List D → T (List D)
  | [.int m, .int n] => if -(2 ^ 62) ≤ m ∧ m < 2 ^ 62 ∧ -(2 ^ 62) ≤ n ∧ n < 2 ^ 62 then .ret (irng m (n - m).toNat) else .bad
  | _ => .bad
def mB (b : List D → T (List D)) (m : MA) : MA := fun ds => (m ds).bind b
theorem seq_wp {p : Addr → Prop} {P : List D → Prop} {d : D} (h : (seqT d).wp p P) : ∃ k xs, d = sq k xs ∧ P xs := by
  cases d <;> first | exact h.elim | exact ⟨true, _, rfl, h⟩ | exact ⟨false, _, rfl, h⟩
theorem zip_wp {p : Addr → Prop} {P : List D → Prop} {xs : List D} (h : (zipT xs).wp p P) : ∃ k l as bs, xs = [sq k as, sq l bs] ∧ P (zips as bs) := by
  unfold zipT at h
  split at h
  · obtain ⟨k, as, e1, h1⟩ := seq_wp (T.wp_bind.mp h)
    obtain ⟨l, bs, e2, h2⟩ := seq_wp (T.wp_bind.mp h1)
    exact ⟨k, l, as, bs, by rw [e1, e2], h2⟩
  · exact h.elim
theorem enum_wp {p : Addr → Prop} {P : List D → Prop} {xs : List D} (h : (enumT xs).wp p P) : ∃ k as, xs = [sq k as] ∧ P (enums 0 as) := by
  unfold enumT at h
  split at h
  · obtain ⟨k, as, e1, h1⟩ := seq_wp (T.wp_bind.mp h)
    exact ⟨k, as, by rw [e1], h1⟩
  · exact h.elim
theorem rng1_wp {p : Addr → Prop} {P : List D → Prop} {xs : List D} (h : (rng1T xs).wp p P) : ∃ n : Int, xs = [.int n] ∧ -(2 ^ 62) ≤ n ∧ n < 2 ^ 62 ∧ P (irng 0 n.toNat) := by
  unfold rng1T at h
  split at h
  · obtain ⟨hl, h⟩ := ite_wp h
    exact ⟨_, rfl, hl.1, hl.2, h⟩
  · exact h.elim
theorem rng2_wp {p : Addr → Prop} {P : List D → Prop} {xs : List D} (h : (rng2T xs).wp p P) : ∃ m n : Int, xs = [.int m, .int n] ∧ (-(2 ^ 62) ≤ m ∧ m < 2 ^ 62 ∧ -(2 ^ 62) ≤ n ∧ n < 2 ^ 62) ∧ P (irng m (n - m).toNat) := by
  unfold rng2T at h
  split at h
  · obtain ⟨hl, h⟩ := ite_wp h
    exact ⟨_, _, rfl, hl, h⟩
  · exact h.elim
section
variable {cls : Cl} {p : Addr → Prop} {K : PySem.W.Frag}
theorem wk_enumS {k : Bool} {a : Addr} {xs : List D} : Wk cls p (IteS K k a) [(.ref a, sq k xs)] (enums 0 xs) := fun N H W h i => by
  obtain ⟨vs, r, hh⟩ := at_sq (K := K) (h _ (List.mem_cons_self ..))
  refine ⟨fun d e => ?_, fun e => ⟨vs, r, ?_⟩⟩
  · obtain ⟨x, ex, rfl⟩ := enums_get e
    obtain ⟨v, hv, av⟩ := hh.get ex
    refine ⟨⟨vs, v, r, hv⟩, fun u H' z => ?_⟩
    obtain ⟨T0, y, rfl, hT, rfl, zz⟩ := z
    have e1 := zz vs r
    rw [hv] at e1
    cases e1
    have g2 : Go p H (upd H T0 (.tup [.int (i : Nat), v])) := Go.new hT
    refine ⟨g2, .tup (fresh_hid W hT) upd_same (.cons ?_ (.cons (av.mono W.sub g2) .nil))⟩
    rw [Nat.zero_add]
    exact .int _
  · rw [enums_len] at e
    rw [hh.length]
    exact e
end
section
variable {cls : Cl} {K : PySem.W.Frag} {te : TE} {t : TA} {ma : ME} {m : MA}
theorem ji_seq (h : JE cls te ma) : JI cls (iSeq K te) (mSeq ma) := fun p ds P w pn N H0 ad σ H S R q =>
  h p ds _ (T.wp_bind.mp w) pn N H0 ad σ H S _ fun v H1 d pd g a => by
    obtain ⟨k, xs, rfl, pp⟩ := seq_wp pd
    cases k with
    | true =>
      have a0 : At cls (hid N ad ds) H1 v (.lst xs) := a
      cases a with
      | @lst a vs _ n r hh =>
        exact ⟨a, rfl, .inl ⟨⟨vs, .inl (.inl r)⟩, q _ H1 xs [(.ref a, .lst xs)] pp g (fun x hx => by rw [List.mem_singleton.mp hx]; exact a0) wk_list⟩⟩
    | false =>
      have a0 : At cls (hid N ad ds) H1 v (.tup xs) := a
      cases a with
      | @tup a vs _ n r hh =>
        exact ⟨a, rfl, .inr ⟨⟨vs, .inl (.inl r)⟩, q _ H1 xs [(.ref a, .tup xs)] pp g (fun x hx => by rw [List.mem_singleton.mp hx]; exact a0) wk_tup⟩⟩
theorem ji_zip (h : JA cls t m) : JI cls (iZipS K t) (mB zipT m) := fun p ds P w pn N H0 ad σ H S R q =>
  ei_zip (PA := fun xs => (zipT xs).wp p P) (h p ds _ (T.wp_bind.mp w)) (fun xs z => let ⟨k, l, as, bs, e, _⟩ := zip_wp z; ⟨k, l, as, bs, e⟩) pn N H0 ad σ H S R fun J H' xs qs ⟨k, l, as, bs, z, e⟩ g hq wk => q J H' xs qs (by
    obtain ⟨k', l', as', bs', e', z⟩ := zip_wp z
    have e1 := sq_inj (List.cons.inj e').1
    have e2 := sq_inj (List.cons.inj (List.cons.inj e').2).1
    rw [e, e1, e2]; exact z) g hq wk
theorem ji_enum (h : JA cls t m) : JI cls (iEnumS K t) (mB enumT m) := fun p ds P w pn N H0 ad σ H S R q =>
  h p ds _ (T.wp_bind.mp w) pn N H0 ad σ H S _ fun vs H1 ys e g a => by
    obtain ⟨k, as, rfl, pp⟩ := enum_wp e
    cases a with
    | cons a b =>
      cases b
      obtain ⟨l, rfl⟩ := ref_sq a
      obtain ⟨ws, r, hh⟩ := at_sq (K := K) a
      exact ⟨l, k, ws, rfl, r, q _ H1 _ [(.ref l, sq k as)] pp g (fun x hx => by rw [List.mem_singleton.mp hx]; exact a) wk_enumS⟩
theorem ji_rng1 (h : JA cls t m) : JI cls (iRng1 t) (mB rng1T m) := fun p ds P w pn N H0 ad σ H S R q =>
  ei_range1 (PA := fun xs => (rng1T xs).wp p P) (h p ds _ (T.wp_bind.mp w)) (fun xs z => let ⟨n, e, h0, h1, _⟩ := rng1_wp z; ⟨n, e, h0, h1⟩) pn N H0 ad σ H S R fun J H' xs qs ⟨n, z, e⟩ g hq wk => q J H' xs qs (by
    obtain ⟨n', e', _, _, z⟩ := rng1_wp z
    cases e'
    rw [e]; exact z) g hq wk
theorem ji_rng2 (h : JA cls t m) : JI cls (iRng2 t) (mB rng2T m) := fun p ds P w pn N H0 ad σ H S R q =>
  ei_range2 (PA := fun xs => (rng2T xs).wp p P) (h p ds _ (T.wp_bind.mp w)) (fun xs z => let ⟨m, n, e, h0, _⟩ := rng2_wp z; ⟨m, n, e, h0⟩) pn N H0 ad σ H S R fun J H' xs qs ⟨m, n, z, e⟩ g hq wk => q J H' xs qs (by
    obtain ⟨m', n', e', _, z⟩ := rng2_wp z
    cases e'
    rw [e]; exact z) g hq wk
/-! .. by what is read for a moment -/
theorem jis_of {wi : TI} (h : JI cls wi m) : JIS cls wi m := fun p ds P w pn N H0 ad σ H S R q =>
  h p ds P w pn N H0 ad σ H S R fun J H' xs qs pp g hq wk => q J H' xs pp g fun M H2 g2 h1 h2 W i => wk M H2 W (fun x hx => (hq x hx).keep (fun b hb n z => (h2 b z).elim n hb) fun b o n e => g2 b o (fun z => n (.inl z)) e) i
/-- the data in what comes later, under what is hidden then -/
theorem later {N0 N M : Addr → Prop} {H' H2 : Hp} {xs : List D} {vs : List V} (sub : ∀ a, N0 a → N a) (aa : AtAll cls N H' vs xs) (g2 : ∀ b o, ¬ N0 b → H' b = some o → H2 b = some o) (h2 : ∀ a, M a → N a ∨ H' a = none) : AtAll cls M H2 vs xs :=
  aa.keep (fun b hb n z => (h2 b z).elim n hb) fun b o n e => g2 b o (fun z => n (sub b z)) e
theorem sqS {N0 N : Addr → Prop} {H : Hp} {v : V} {k : Bool} {xs : List D} (sub : ∀ a, N0 a → N a) (a : AtS cls N0 N H v (sq k xs)) : ∃ l vs, v = .ref l ∧ AtAll cls N H vs xs ∧ ∀ H2 : Hp, (∀ b o, ¬ N0 b → H b = some o → H2 b = some o) → SqK K k H2 l vs := by
  cases k with
  | true =>
    rcases a with a | ⟨l, vs, ys, rfl, e, n, h, aa⟩
    · cases (show At cls N H v (.lst xs) from a) with
      | @lst l vs _ n r hh => exact ⟨l, vs, rfl, hh, fun H2 g => .inl (.inl (g _ _ (fun z => n (sub _ z)) r))⟩
    · cases (show D.lst xs = D.lst ys from e)
      exact ⟨l, vs, rfl, aa, fun H2 g => .inl (.inl (g _ _ n h))⟩
  | false =>
    obtain ⟨l, vs, rfl, n, r, hh⟩ := AtS.tup a
    exact ⟨l, vs, rfl, hh, fun H2 g => .inl (.inl (g _ _ (fun z => n (sub _ z)) r))⟩
theorem jis_seq (h : JS cls te ma) : JIS cls (iSeq K te) (mSeq ma) := fun p ds P w pn N H0 ad σ H S R q =>
  h p ds _ (T.wp_bind.mp w) pn N H0 ad σ H S _ fun v H1 d pd g a => by
    obtain ⟨k, xs, rfl, pp⟩ := seq_wp pd
    obtain ⟨l, vs, rfl, aa, hs⟩ := sqS (K := K) (N0 := N) (fun _ z => .inl z) a
    cases k with
    | true =>
      refine ⟨l, rfl, .inl ⟨⟨vs, hs H1 (fun _ _ _ e => e)⟩, q _ H1 xs pp g fun M H2 g2 h1 h2 W i => ?_⟩⟩
      have bb := later (N0 := N) (fun _ z => .inl z) aa g2 h2
      have r := hs H2 g2
      refine ⟨fun d e => ?_, fun e => ⟨vs, r, by rw [bb.length]; exact Nat.le_of_eq e.symm⟩⟩
      obtain ⟨v, hv, av⟩ := bb.get e
      refine ⟨⟨vs, v, r, hv⟩, fun w H' y => ?_⟩
      obtain ⟨rfl, y⟩ := y
      have := y vs r
      rw [hv] at this
      cases this
      exact ⟨Go.refl _, av⟩
    | false =>
      refine ⟨l, rfl, .inr ⟨⟨vs, hs H1 (fun _ _ _ e => e)⟩, q _ H1 xs pp g fun M H2 g2 h1 h2 W i => ?_⟩⟩
      have bb := later (N0 := N) (fun _ z => .inl z) aa g2 h2
      have r := hs H2 g2
      refine ⟨fun d e => ?_, fun e => ⟨vs, r, by rw [bb.length]; exact Nat.le_of_eq e.symm⟩⟩
      obtain ⟨v, hv, av⟩ := bb.get e
      refine ⟨⟨vs, v, r, hv⟩, fun w H' y => ?_⟩
      obtain ⟨rfl, y⟩ := y
      have := y vs r
      rw [hv] at this
      cases this
      exact ⟨Go.refl _, av⟩
theorem jis_enum (h : JAS cls t m) : JIS cls (iEnumS K t) (mB enumT m) := fun p ds P w pn N H0 ad σ H S R q =>
  h p ds _ (T.wp_bind.mp w) pn N H0 ad σ H S _ fun ws H1 ys e g a => by
    obtain ⟨k, xs, rfl, pp⟩ := enum_wp e
    obtain ⟨v, rfl, b⟩ := s1 a
    obtain ⟨l, vs, rfl, aa, hs⟩ := sqS (K := K) (N0 := N) (fun _ z => .inl z) b
    refine ⟨l, k, vs, rfl, hs H1 (fun _ _ _ e => e), q _ H1 _ pp g fun M H2 g2 h1 h2 W i => ?_⟩
    have bb := later (N0 := N) (fun _ z => .inl z) aa g2 h2
    have r := hs H2 g2
    refine ⟨fun d e => ?_, fun e => ⟨vs, r, by rw [bb.length]; rw [enums_len] at e; exact e⟩⟩
    obtain ⟨x, ex, rfl⟩ := enums_get e
    obtain ⟨v, hv, av⟩ := bb.get ex
    refine ⟨⟨vs, v, r, hv⟩, fun u H' z => ?_⟩
    obtain ⟨T0, y, rfl, hT, rfl, zz⟩ := z
    have e1 := zz vs r
    rw [hv] at e1
    cases e1
    have g3 : Go p H2 (upd H2 T0 (.tup [.int (i : Nat), v])) := Go.new hT
    refine ⟨g3, .tup (fresh_hid W hT) upd_same (.cons ?_ (.cons (av.mono W.sub g3) .nil))⟩
    rw [Nat.zero_add]
    exact .int _
theorem jis_zip (h : JAS cls t m) : JIS cls (iZipS K t) (mB zipT m) := fun p ds P w pn N H0 ad σ H S R q =>
  h p ds _ (T.wp_bind.mp w) pn N H0 ad σ H S _ fun ws H1 ys e g a => by
    obtain ⟨k, k', xs, ys, rfl, pp⟩ := zip_wp e
    obtain ⟨v, v', rfl, b, b'⟩ := s2 a
    obtain ⟨l, vs, rfl, aa, hs⟩ := sqS (K := K) (N0 := N) (fun _ z => .inl z) b
    obtain ⟨l', us, rfl, aa', hs'⟩ := sqS (K := K) (N0 := N) (fun _ z => .inl z) b'
    refine ⟨l, l', k, k', vs, us, rfl, hs H1 (fun _ _ _ e => e), hs' H1 (fun _ _ _ e => e), q _ H1 _ pp g fun M H2 g2 h1 h2 W i => ?_⟩
    have bb := later (N0 := N) (fun _ z => .inl z) aa g2 h2
    have bb' := later (N0 := N) (fun _ z => .inl z) aa' g2 h2
    have r := hs H2 g2
    have r' := hs' H2 g2
    refine ⟨fun d e => ?_, fun e => ⟨vs, us, r, r', ?_⟩⟩
    · obtain ⟨x, y, ex, ey, rfl⟩ := zips_get e
      obtain ⟨v, hv, av⟩ := bb.get ex
      obtain ⟨w, hw, aw⟩ := bb'.get ey
      refine ⟨⟨vs, us, v, w, r, r', hv, hw⟩, fun u H' z => ?_⟩
      obtain ⟨T0, x2, y2, rfl, hT, rfl, z1, z2⟩ := z
      have e1 := z1 vs r
      have e2 := z2 us r'
      rw [hv] at e1
      rw [hw] at e2
      cases e1
      cases e2
      have g3 : Go p H2 (upd H2 T0 (.tup [v, w])) := Go.new hT
      exact ⟨g3, .tup (fresh_hid W hT) upd_same (.cons (av.mono W.sub g3) (.cons (aw.mono W.sub g3) .nil))⟩
    · rw [zips_len] at e
      rw [bb.length, bb'.length]
      omega
end

/-! ### comprehensions -/
def freeSl : Option (Option Slot) → Bool
  | some (some (.own _)) => false
  | some (some (.mut _)) => false
  | _ => true
def noOwnAt (ds : Sts) (vs : List Nat) : Bool := vs.all fun i => freeSl ds[i]?
def optP (o : Option Sts) (f : Sts → T α) : T α := match o with
  | some ds => f ds
  | none => .bad
def lcGo (f : D → T (List D)) : List D → T (List D)
  | [] => .ret []
  | x :: xs => (f x).bind fun ys => (lcGo f xs).bind fun zs => .ret (ys ++ zs)
def capT (xs : List D) : T (List D) := if xs.length ≤ 100000 then .ret xs else .bad
def mLc (vs : List Nat) (mi : MA) (tg : Tg) (mt : MB) (me : ME) : MA := fun ds => if noOwnAt ds vs = true then (mi ds).bind fun xs => (lcGo (fun x => optP (tg.put x (wipeD ds vs)) fun ds1 => (mt ds1).bind fun b => if b = true then (me ds1).bind fun y => .ret [y] else .ret []) xs).bind capT else .bad
def mLc2 (vs vs1 : List Nat) (mi : MA) (tg : Tg) (mt : MB) (mi1 : MA) (tg1 : Tg) (mt1 : MB) (me : ME) : MA := fun ds => if noOwnAt ds vs = true ∧ noOwnAt ds vs1 = true then (mi ds).bind fun xs => (lcGo (fun x => optP (tg.put x (wipeD ds vs)) fun ds1 => (mt ds1).bind fun b => if b = true then
  (mi1 ds1).bind fun ys => lcGo (fun y => optP (tg1.put y (wipeD ds1 vs1)) fun ds2 => (mt1 ds2).bind fun b => if b = true then (me ds2).bind fun z => .ret [z] else .ret []) ys else .ret []) xs).bind capT else .bad
theorem own_wipe {ds : Sts} : ∀ {vs : List Nat}, noOwnAt ds vs = true → (wipeD ds vs).map ownOf = ds.map ownOf
  | [], _ => rfl
  | v :: vs, h => by
    have h : (freeSl ds[v]? && noOwnAt ds vs) = true := h
    rw [Bool.and_eq_true] at h
    have ih := own_wipe h.2
    show ((wipeD ds vs).set v none).map ownOf = _
    rw [List.map_set, ih]
    cases e : ds[v]? with
    | none => exact List.set_eq_of_length_le (by rw [List.length_map]; exact List.getElem?_eq_none_iff.mp e)
    | some o =>
      have hv := (List.getElem?_eq_some_iff.mp e).1
      have h1 := h.1
      rw [e] at h1
      have : (ds.map ownOf)[v]? = some none := by
        rw [List.getElem?_map, e]
        match o, h1 with
        | none, _ => rfl
        | some (.dat _), _ => rfl
      have hv' : v < (ds.map ownOf).length := by rw [List.length_map]; exact hv
      have e2 : (ds.map ownOf).set v ((ds.map ownOf)[v]) = ds.map ownOf := List.set_getElem_self hv'
      rw [(List.getElem?_eq_some_iff.mp this).2] at e2
      exact e2
theorem wipe_none {ds : Sts} : ∀ {vs : List Nat} {j : Nat}, j ∈ vs → ((wipeD ds vs).map ownOf)[j]? = some none ∨ ((wipeD ds vs).map ownOf)[j]? = none
  | v :: vs, j, h => by
    rw [List.getElem?_map]
    show ((((wipeD ds vs).set v none)[j]?).map ownOf) = some none ∨ ((((wipeD ds vs).set v none)[j]?).map ownOf) = none
    by_cases e : v = j
    · subst e
      by_cases hl : v < (wipeD ds vs).length
      · rw [List.getElem?_set_self hl]; exact .inl rfl
      · rw [List.getElem?_eq_none_iff.mpr (by rw [List.length_set]; omega)]; exact .inr rfl
    · have hj : j ∈ vs := (List.mem_cons.mp h).elim (fun z => absurd z.symm e) id
      rw [List.getElem?_set_ne e, ← List.getElem?_map]
      exact wipe_none hj
theorem put_wiped {t : Tg} {d : D} {ds ds' : Sts} {vs : List Nat} (e : t.put d (wipeD ds vs) = some ds') (hj : ∀ j ∈ t.js, j ∈ vs) (hn : noOwnAt ds vs = true) : ds'.map ownOf = ds.map ownOf := by
  rw [put_own t e fun j h => wipe_none (hj j h), own_wipe hn]
theorem optP_wp {α : Type} {p : Addr → Prop} {o : Option Sts} {f : Sts → T α} {P : α → Prop} (h : (optP o f).wp p P) : ∃ ds, o = some ds ∧ (f ds).wp p P := by
  cases o with
  | none => exact h.elim
  | some ds => exact ⟨ds, rfl, h⟩
theorem lcGo_cons {p : Addr → Prop} {f : D → T (List D)} {x : D} {xs : List D} {P : List D → Prop} : (lcGo f (x :: xs)).wp p P ↔ (f x).wp p fun ys => (lcGo f xs).wp p fun zs => P (ys ++ zs) := by
  have e : lcGo f (x :: xs) = (f x).bind fun ys => (lcGo f xs).bind fun zs => .ret (ys ++ zs) := rfl
  rw [e, T.wp_bind]
  refine ⟨T.wp_mono fun a h => ?_, T.wp_mono fun a h => ?_⟩
  · exact T.wp_bind.mp h
  · exact T.wp_bind.mpr h
theorem cap_wp {p : Addr → Prop} {t : T (List D)} {P : List D → Prop} (h : (t.bind capT).wp p P) : t.wp p fun xs => xs.length ≤ 100000 ∧ P xs :=
  T.wp_mono (fun xs z => ite_wp z) (T.wp_bind.mp h)
section
variable {cls : Cl} {wi wi1 : TI} {g g1 : TG} {tt tt1 : TT} {te : TE} {mi mi1 : MA} {tg tg1 : Tg} {mt mt1 : MB} {me : ME} {vs vs1 : List Nat}
theorem jf_lc (hi : JIS cls wi mi) (hg : JG cls g tg) (ht : JB cls tt mt) (he : JE cls te me) (hj : ∀ j ∈ tg.js, j ∈ vs) : JF cls (tLc wi g tt te vs) (mLc vs mi tg mt me) := by
  intro p ds P w pn N H0 ad σ H S Q q
  obtain ⟨hn, w⟩ := ite_wp w
  refine hi p ds _ (T.wp_bind.mp w) pn N H0 ad σ H S _ fun J H1 xs px g1 wk => ?_
  have px := cap_wp px
  intro DD hD
  have S1 := S.mono g1
  have hNl : ¬ hid N ad ds DD := fresh_hid S1.hwf hD
  have hpD : ¬ p DD := fun z => hNl (S1.hsub _ z)
  have h0D : H0 DD = none := old_none S1 hD
  have hp1 : ∀ a, p a → H1 a ≠ none := fun a z => S1.wf.dom a (S1.wf.sub a z)
  let N2 : Addr → Prop := fun a => N a ∨ a = DD
  have hmD : ∀ (i : Nat) (c : Con), ds[i]? = some (some (Slot.mut c)) → ad i ≠ DD := fun i c e z => by
    obtain ⟨_, _, _, _, _, hc⟩ := S1.mt i c e
    exact hc.ne (by rw [z]; exact hD)
  have SL : Sta cls p pn N2 H0 ad (upd H1 DD (.lst [])) σ ds := S1.lay hD
  have hw := own_wipe hn
  let f : D → T (List D) := fun x => optP (tg.put x (wipeD ds vs)) fun ds1 => (mt ds1).bind fun b => if b = true then (me ds1).bind fun y => .ret [y] else .ret []
  have h12 : ∀ a, hid N2 ad ds a → hid N ad ds a ∨ H1 a = none := fun a z => z.elim (fun z => z.elim (fun z => .inl (.inl z)) fun z => .inr (by rw [z]; exact hD)) fun z => .inl (.inr z)
  refine ⟨fun i m H' => m = xs.length - i ∧ i ≤ xs.length ∧ (∃ acc ys, H' DD = some (.lst acc) ∧ AtAll cls (hid N2 ad ds) H' acc ys ∧ (lcGo f (xs.drop i)).wp p fun zs => (ys ++ zs).length ≤ 100000 ∧ P (ys ++ zs)) ∧ Sta cls p pn N2 H0 ad H' σ ds ∧ Go p H1 H',
    ⟨xs.length, by rw [Nat.sub_zero], Nat.zero_le _, ⟨[], [], upd_same, .nil, px⟩, SL, (Go.refl H1).chg (H1 := H1) hD hp1⟩, ?_⟩
  rintro i m H' ⟨rfl, hi2, ⟨acc, ys, e, aa, pp⟩, S2, g2⟩
  have wki := wk (hid N2 ad ds) H' (fun b o n e => g2.ext b o (fun z => n (S.wf.sub b z)) e) (fun a z => z.elim (fun z => .inl (.inl z)) .inr) h12 S2.hwf i
  by_cases hlt : i < xs.length
  · refine .inr ?_
    have ei : xs[i]? = some xs[i] := List.getElem?_eq_getElem hlt
    obtain ⟨k1, k2⟩ := wki.1 _ ei
    rw [List.drop_eq_getElem_cons hlt] at pp
    have pp := lcGo_cons.mp pp
    refine ⟨k1, fun H' => (∃ acc ys, H' DD = some (.lst acc) ∧ AtAll cls (hid N2 ad ds) H' acc ys ∧ (lcGo f (xs.drop (i + 1))).wp p fun zs => (ys ++ zs).length ≤ 100000 ∧ P (ys ++ zs)) ∧ Sta cls p pn N2 H0 ad H' σ ds ∧ Go p H1 H',
      fun H3 ⟨z1, z2, z3⟩ => ⟨xs.length - (i + 1), by omega, rfl, hlt, z1, z2, z3⟩, fun x H3 y => ?_⟩
    obtain ⟨g3, a3⟩ := k2 x H3 y
    have S3 := S2.mono g3
    obtain ⟨ds', ep, pp⟩ := optP_wp (show (optP (tg.put xs[i] (wipeD ds vs)) _).wp p _ from pp)
    have ho := put_wiped ep hj hn
    have ew : hid N2 ad (wipeD ds vs) = hid N2 ad ds := hid_congr hw
    have ed : hid N2 ad ds' = hid N2 ad ds := hid_congr ho
    refine hg p _ _ _ ep _ N2 H0 ad _ H3 (S3.wipe vs) x (by rw [ew]; exact a3) _ fun σ' S4 w => ⟨?_, ?_⟩
    · rw [w vs hj, wipe_wipe]
    refine ht p ds' _ (T.wp_bind.mp pp) _ N2 H0 ad σ' H3 S4 _ fun c H4 ec g4 => ?_
    have S5 := S3.mono g4
    cases c with
    | true =>
      rw [if_pos rfl] at ec ⊢
      refine he p ds' _ (T.wp_bind.mp ec) _ N2 H0 ad σ' H4 (S4.mono g4) _ fun v H5 d pd g5 a5 => ?_
      rw [ed] at a5
      have S6 := S5.mono g5
      have e5 : H5 DD = some (.lst acc) := ((g3.trans g4).trans g5).ext _ _ hpD e
      have a6 : AtAll cls (hid N2 ad ds) H5 acc ys := aa.mono S2.hsub ((g3.trans g4).trans g5)
      have pd : (lcGo f (xs.drop (i + 1))).wp p fun zs => (ys ++ ([d] ++ zs)).length ≤ 100000 ∧ P (ys ++ ([d] ++ zs)) := pd
      refine ⟨acc, e5, ?_, ⟨_, ys ++ [d], upd_same, (a6.append (.cons a5 .nil)).keep (fun _ _ n => n) (fun a o n e => by rw [upd_ne (fun z => n (by rw [z]; exact .inl (.inr rfl)))]; exact e), T.wp_mono (fun zs z => by rw [List.append_assoc]; exact z) pd⟩, S6.turn (.inr rfl) hpD h0D hmD, (((g2.trans g3).trans g4).trans g5).chg (H1 := H1) hD hp1⟩
      have l0 : ys.length + 1 ≤ 100000 := T.wp_const (T.wp_mono (fun zs z => by
        have := z.1
        rw [List.length_append, List.length_append] at this
        have e1 : [d].length = 1 := rfl
        omega) pd)
      have l1 : acc.length = ys.length := aa.length
      exact Nat.lt_of_lt_of_le (show acc.length < 100000 by omega) (by decide)
    | false =>
      rw [if_neg Bool.false_ne_true] at ec ⊢
      have e4 : H4 DD = some (.lst acc) := (g3.trans g4).ext _ _ hpD e
      exact ⟨⟨acc, ys, e4, aa.mono S2.hsub (g3.trans g4), ec⟩, S5, (g2.trans g3).trans g4⟩
  · have ei : i = xs.length := by omega
    subst ei
    rw [List.drop_length] at pp
    have pp : (ys ++ []).length ≤ 100000 ∧ P (ys ++ []) := pp
    rw [List.append_nil] at pp
    refine .inl ⟨wki.2 rfl, q DD H' acc ys pp.2 (g1.trans g2) (fresh_of S.wf g1 hD) e (aa.less fun a z => z.elim (fun z => z.elim (fun z => .inl (.inl z)) .inr) fun z => .inl (.inr z))⟩
theorem jf_lc2 (hi : JIS cls wi mi) (hg : JG cls g tg) (ht : JB cls tt mt) (hi1 : JIS cls wi1 mi1) (hg1 : JG cls g1 tg1) (ht1 : JB cls tt1 mt1) (he : JE cls te me) (hj : ∀ j ∈ tg.js, j ∈ vs) (hj1 : ∀ j ∈ tg1.js, j ∈ vs1) (hv : ∀ j ∈ vs1, j ∈ vs) :
    JF cls (tLc2 wi g tt wi1 g1 tt1 te vs vs1) (mLc2 vs vs1 mi tg mt mi1 tg1 mt1 me) := by
  intro p ds P w pn N H0 ad σ H S Q q
  obtain ⟨⟨hn, hn1⟩, w⟩ := ite_wp w
  refine hi p ds _ (T.wp_bind.mp w) pn N H0 ad σ H S _ fun J H1 xs px g1' wk => ?_
  have px := cap_wp px
  intro DD hD
  have S1 := S.mono g1'
  have hNl : ¬ hid N ad ds DD := fresh_hid S1.hwf hD
  have hpD : ¬ p DD := fun z => hNl (S1.hsub _ z)
  have h0D : H0 DD = none := old_none S1 hD
  have hp1 : ∀ a, p a → H1 a ≠ none := fun a z => S1.wf.dom a (S1.wf.sub a z)
  let N2 : Addr → Prop := fun a => N a ∨ a = DD
  have hmD : ∀ (i : Nat) (c : Con), ds[i]? = some (some (Slot.mut c)) → ad i ≠ DD := fun i c e z => by
    obtain ⟨_, _, _, _, _, hc⟩ := S1.mt i c e
    exact hc.ne (by rw [z]; exact hD)
  have SL : Sta cls p pn N2 H0 ad (upd H1 DD (.lst [])) σ ds := S1.lay hD
  have hw := own_wipe hn
  let f1 : Sts → D → T (List D) := fun ds1 y => optP (tg1.put y (wipeD ds1 vs1)) fun ds2 => (mt1 ds2).bind fun b => if b = true then (me ds2).bind fun z => .ret [z] else .ret []
  let f : D → T (List D) := fun x => optP (tg.put x (wipeD ds vs)) fun ds1 => (mt ds1).bind fun b => if b = true then (mi1 ds1).bind fun ys => lcGo (f1 ds1) ys else .ret []
  have h12 : ∀ a, hid N2 ad ds a → hid N ad ds a ∨ H1 a = none := fun a z => z.elim (fun z => z.elim (fun z => .inl (.inl z)) fun z => .inr (by rw [z]; exact hD)) fun z => .inl (.inr z)
  refine ⟨fun i m H' => m = xs.length - i ∧ i ≤ xs.length ∧ (∃ acc ys, H' DD = some (.lst acc) ∧ AtAll cls (hid N2 ad ds) H' acc ys ∧ (lcGo f (xs.drop i)).wp p fun zs => (ys ++ zs).length ≤ 100000 ∧ P (ys ++ zs)) ∧ Sta cls p pn N2 H0 ad H' σ ds ∧ Go p H1 H',
    ⟨xs.length, by rw [Nat.sub_zero], Nat.zero_le _, ⟨[], [], upd_same, .nil, px⟩, SL, (Go.refl H1).chg (H1 := H1) hD hp1⟩, ?_⟩
  rintro i m H' ⟨rfl, hi2, ⟨acc, ys, e, aa, pp⟩, S2, g2⟩
  have wki := wk (hid N2 ad ds) H' (fun b o n e => g2.ext b o (fun z => n (S.wf.sub b z)) e) (fun a z => z.elim (fun z => .inl (.inl z)) .inr) h12 S2.hwf i
  by_cases hlt : i < xs.length
  · refine .inr ?_
    have ei : xs[i]? = some xs[i] := List.getElem?_eq_getElem hlt
    obtain ⟨k1, k2⟩ := wki.1 _ ei
    rw [List.drop_eq_getElem_cons hlt] at pp
    have pp := lcGo_cons.mp pp
    let PR : List D → Prop := fun us => (lcGo f (xs.drop (i + 1))).wp p fun zs => (us ++ zs).length ≤ 100000 ∧ P (us ++ zs)
    have pp : (f xs[i]).wp p fun us => PR (ys ++ us) := T.wp_mono (fun us z => T.wp_mono (fun zs z => by rw [List.append_assoc]; exact z) z) pp
    refine ⟨k1, fun H' => (∃ acc ys, H' DD = some (.lst acc) ∧ AtAll cls (hid N2 ad ds) H' acc ys ∧ PR ys) ∧ Sta cls p pn N2 H0 ad H' σ ds ∧ Go p H1 H',
      fun H3 ⟨z1, z2, z3⟩ => ⟨xs.length - (i + 1), by omega, rfl, hlt, z1, z2, z3⟩, fun x H3 y => ?_⟩
    obtain ⟨g3, a3⟩ := k2 x H3 y
    have S3 := S2.mono g3
    obtain ⟨ds', ep, pp⟩ := optP_wp (show (optP (tg.put xs[i] (wipeD ds vs)) _).wp p _ from pp)
    have ho := put_wiped ep hj hn
    have ew : hid N2 ad (wipeD ds vs) = hid N2 ad ds := hid_congr hw
    have ed : hid N2 ad ds' = hid N2 ad ds := hid_congr ho
    refine hg p _ _ _ ep _ N2 H0 ad _ H3 (S3.wipe vs) x (by rw [ew]; exact a3) _ fun σ' S4 w => ⟨?_, ?_⟩
    · rw [w vs hj, wipe_wipe]
    refine ht p ds' _ (T.wp_bind.mp pp) _ N2 H0 ad σ' H3 S4 _ fun c H4 ec g4 => ?_
    have S5 := S3.mono g4
    have S5' := S4.mono g4
    cases c with
    | true =>
      rw [if_pos rfl] at ec ⊢
      refine hi1 p ds' _ (T.wp_bind.mp ec) _ N2 H0 ad σ' H4 S5' _ fun J1 H5 us py g5 wk1 => ?_
      have S6 := S5.mono g5
      have S6' := S5'.mono g5
      have gg := (g3.trans g4).trans g5
      have e5 : H5 DD = some (.lst acc) := gg.ext _ _ hpD e
      have a5 : AtAll cls (hid N2 ad ds) H5 acc ys := aa.mono S2.hsub gg
      refine ⟨fun j k H' => k = us.length - j ∧ j ≤ us.length ∧ (∃ acc ys, H' DD = some (.lst acc) ∧ AtAll cls (hid N2 ad ds) H' acc ys ∧ (lcGo (f1 ds') (us.drop j)).wp p fun zs => PR (ys ++ zs)) ∧ Sta cls p pn N2 H0 ad H' σ ds ∧ Sta cls p pn N2 H0 ad H' σ' ds' ∧ Go p H1 H' ∧ ∀ b o, ¬ N2 b → H5 b = some o → H' b = some o,
        ⟨us.length, by rw [Nat.sub_zero], Nat.zero_le _, ⟨acc, ys, e5, a5, py⟩, S6, S6', g2.trans gg, fun b o _ e => e⟩, ?_⟩
      rintro j k H7 ⟨rfl, hj2, ⟨acc7, ys7, e7, a7, p7⟩, S7, S7', g7, k7⟩
      have wkj := wk1 (hid N2 ad ds') H7 k7 (fun a z => z) (fun a z => .inl z) S7'.hwf j
      by_cases hlt2 : j < us.length
      · refine .inr ?_
        have ej : us[j]? = some us[j] := List.getElem?_eq_getElem hlt2
        obtain ⟨l1, l2⟩ := wkj.1 _ ej
        rw [List.drop_eq_getElem_cons hlt2] at p7
        have p7 := lcGo_cons.mp p7
        refine ⟨l1, fun H' => (∃ acc ys, H' DD = some (.lst acc) ∧ AtAll cls (hid N2 ad ds) H' acc ys ∧ (lcGo (f1 ds') (us.drop (j + 1))).wp p fun zs => PR (ys ++ zs)) ∧ Sta cls p pn N2 H0 ad H' σ ds ∧ Sta cls p pn N2 H0 ad H' σ' ds' ∧ Go p H1 H' ∧ ∀ b o, ¬ N2 b → H5 b = some o → H' b = some o,
          fun H8 ⟨z1, z2, z3, z4, z5⟩ => ⟨us.length - (j + 1), by omega, rfl, hlt2, z1, z2, z3, z4, z5⟩, fun x2 H8 y2 => ?_⟩
        obtain ⟨g8, a8⟩ := l2 x2 H8 y2
        have S8 := S7.mono g8
        have S8' := S7'.mono g8
        obtain ⟨ds2, ep2, p7⟩ := optP_wp (show (optP (tg1.put us[j] (wipeD ds' vs1)) _).wp p _ from p7)
        have hn1' : noOwnAt ds' vs1 = true := List.all_eq_true.mpr fun v hv' => by
          have := List.all_eq_true.mp hn1 v hv'
          cases q : ds'[v]? with
          | none => rfl
          | some o =>
            match o, q with
            | none, _ => rfl
            | some (.dat _), _ => rfl
            | some (.own ys), q => rw [map_own ho v ys q] at this; cases this
            | some (.mut c), q => rw [wipe_mut v c (put_mut tg ep v c q)] at this; cases this
        have hw1 := own_wipe hn1'
        have ho2 := put_wiped ep2 hj1 hn1'
        have ew1 : hid N2 ad (wipeD ds' vs1) = hid N2 ad ds' := hid_congr hw1
        have ed1 : hid N2 ad ds2 = hid N2 ad ds' := hid_congr ho2
        refine hg1 p _ _ _ ep2 _ N2 H0 ad _ H8 (S8'.wipe vs1) x2 (by rw [ew1]; exact a8) _ fun σ3 S9 w3 => ⟨?_, ?_⟩
        · rw [w3 vs1 hj1, wipe_wipe]
        refine ht1 p ds2 _ (T.wp_bind.mp p7) _ N2 H0 ad σ3 H8 S9 _ fun c2 H9 ec2 g9 => ?_
        cases c2 with
        | true =>
          rw [if_pos rfl] at ec2 ⊢
          refine he p ds2 _ (T.wp_bind.mp ec2) _ N2 H0 ad σ3 H9 (S9.mono g9) _ fun v H10 d pd g10 a10 => ?_
          rw [ed1, ed] at a10
          have gx := (g8.trans g9).trans g10
          have e10 : H10 DD = some (.lst acc7) := gx.ext _ _ hpD e7
          have a11 := a7.mono S7.hsub gx
          have pd : (lcGo (f1 ds') (us.drop (j + 1))).wp p fun zs => PR (ys7 ++ ([d] ++ zs)) := pd
          have hmD1 : ∀ (i : Nat) (c : Con), ds'[i]? = some (some (Slot.mut c)) → ad i ≠ DD := fun i c ec => hmD i c (wipe_mut i c (put_mut tg ep i c ec))
          have l0 : ys7.length + 1 ≤ 100000 := T.wp_const (T.wp_mono (fun zs z => T.wp_const (T.wp_mono (fun zs' z' => by
            have := z'.1
            rw [List.length_append, List.length_append, List.length_append] at this
            have e1 : [d].length = 1 := rfl
            omega) z)) pd)
          have l1 : acc7.length = ys7.length := a7.length
          refine ⟨acc7, e10, Nat.lt_of_lt_of_le (show acc7.length < 100000 by omega) (by decide), ⟨_, ys7 ++ [d], upd_same, (a11.append (.cons a10 .nil)).keep (fun _ _ n => n) (fun a o n e => by rw [upd_ne (fun z => n (by rw [z]; exact .inl (.inr rfl)))]; exact e), T.wp_mono (fun zs z => by rw [List.append_assoc]; exact z) pd⟩,
            (S7.mono gx).turn (.inr rfl) hpD h0D hmD, (S7'.mono gx).turn (.inr rfl) hpD h0D hmD1, (g7.trans gx).chg (H1 := H1) hD hp1, fun b o n e => by rw [upd_ne (fun z => n (by rw [z]; exact .inr rfl))]; exact gx.ext b o (fun z => n (.inl (S.wf.sub b z))) (k7 b o n e)⟩
        | false =>
          rw [if_neg Bool.false_ne_true] at ec2 ⊢
          have gx := g8.trans g9
          have ec2 : (lcGo (f1 ds') (us.drop (j + 1))).wp p fun zs => PR (ys7 ++ ([] ++ zs)) := ec2
          exact ⟨⟨acc7, ys7, gx.ext _ _ hpD e7, a7.mono S7.hsub gx, ec2⟩, S7.mono gx, S7'.mono gx, g7.trans gx, fun b o n e => gx.ext b o (fun z => n (.inl (S.wf.sub b z))) (k7 b o n e)⟩
      · have ejn : j = us.length := by omega
        subst ejn
        rw [List.drop_length] at p7
        have p7 : PR (ys7 ++ []) := p7
        rw [List.append_nil] at p7
        exact .inl ⟨wkj.2 rfl, ⟨acc7, ys7, e7, a7, p7⟩, S7, g7⟩
    | false =>
      rw [if_neg Bool.false_ne_true] at ec ⊢
      have e4 : H4 DD = some (.lst acc) := (g3.trans g4).ext _ _ hpD e
      have ec : PR (ys ++ []) := ec
      rw [List.append_nil] at ec
      exact ⟨⟨acc, ys, e4, aa.mono S2.hsub (g3.trans g4), ec⟩, S5, (g2.trans g3).trans g4⟩
  · have ei : i = xs.length := by omega
    subst ei
    rw [List.drop_length] at pp
    have pp : (ys ++ []).length ≤ 100000 ∧ P (ys ++ []) := pp
    rw [List.append_nil] at pp
    exact .inl ⟨wki.2 rfl, q DD H' acc ys pp.2 (g1'.trans g2) (fresh_of S.wf g1' hD) e (aa.less fun a z => z.elim (fun z => z.elim (fun z => .inl (.inl z)) .inr) fun z => .inl (.inr z))⟩
end
end Lk

namespace Lk
open PySem PySem.Spec PyProof.Rows L2

/-! ### truth -/
def truthT : D → T Bool
  | .non => .ret false
  | .bl b => .ret b
  | .int i => .ret (i != 0)
  | .str y => if y.length ≤ 1000000 then .ret ((y.length : Int) != 0) else .bad
  | .lst xs => .ret (!xs.isEmpty)
  | .tup xs => .ret (!xs.isEmpty)
  | .dk ks _ => .ret (!ks.isEmpty)
  | _ => .bad
def mTruth (m : ME) : MB := fun ds => (m ds).bind truthT
section
variable {cls : Cl} {K : PySem.W.Frag} {te : TE} {m : ME}
theorem emp_eq {cls : Cl} {N : Addr → Prop} {H : Hp} {vs : List V} {xs : List D} (h : AtAll cls N H vs xs) : (!xs.isEmpty) = !vs.isEmpty := by
  cases h <;> rfl
theorem jb_truth (h : JS cls te m) : JB cls (fun σ H Q => te σ H fun x H' => ∃ k, TruV K x H' k ∧ Q k H') (mTruth m) := fun p ds P w pn N H0 ad σ H S Q q =>
  h p ds _ (T.wp_bind.mp w) pn N H0 ad σ H S _ fun v H1 d pd g a => by
    cases d with
    | non => cases a.at (fun _ e => nomatch e); exact ⟨false, rfl, q _ H1 pd g⟩
    | bl b => have e := a.bl; subst e; exact ⟨b, rfl, q _ H1 pd g⟩
    | int i => have e := a.int; subst e; exact ⟨_, rfl, q _ H1 pd g⟩
    | str y =>
      have e := a.str; subst e
      obtain ⟨hl, pd⟩ := ite_wp (show (if y.length ≤ 1000000 then T.ret ((y.length : Int) != 0) else .bad).wp p P from pd)
      exact ⟨_, ⟨Nat.le_trans hl (by decide), rfl⟩, q _ H1 pd g⟩
    | lst xs =>
      obtain ⟨l, vs, rfl, e, aa⟩ := a.lst
      refine ⟨_, .inl ⟨vs, .inl (.inl e), rfl⟩, q _ H1 ?_ g⟩
      rw [← emp_eq aa]; exact pd
    | tup xs =>
      obtain ⟨l, vs, rfl, n, e, aa⟩ := a.tup
      refine ⟨_, .inr (.inl ⟨vs, .inl (.inl e), rfl⟩), q _ H1 ?_ g⟩
      rw [← emp_eq aa]; exact pd
    | dk ks xs =>
      cases a.at (fun _ e => nomatch e) with
      | @dk l _ vs _ n e hl aa =>
        refine ⟨_, .inr (.inr ⟨_, e, rfl⟩), q _ H1 ?_ g⟩
        have : (!(ks.zip vs).isEmpty) = !ks.isEmpty := by
          cases ks with
          | nil => rfl
          | cons k ks => cases vs with
            | nil => cases hl
            | cons _ _ => rfl
        rw [this]; exact pd
    | _ => exact pd.elim
end

/-! ### statements -/
/-- what is said of a value that is returned -/
abbrev RM := (p N : Addr → Prop) → (H0 H' : Hp) → V → D → Prop
def RDeep (cls : Cl) : RM := fun p N H0 H' v d => Go p H0 H' ∧ At cls N H' v d
def RFresh (cls : Cl) : RM := fun p N H0 H' v d => Go p H0 H' ∧ ∃ l vs xs, v = .ref l ∧ d = .lst xs ∧ H0 l = none ∧ H' l = some (.lst vs) ∧ AtAll cls (fun a => N a ∨ a = l) H' vs xs
def SvG (cls : Cl) (R : RM) (p : Addr → Prop) (t : TS) (ds : Sts) (Φ : Fl → Prop) : Prop := ∀ (pn : List (V × D)) (N : Addr → Prop) (H0 : Hp) (ad : Nat → Addr) (σ : L2.St) (H : Hp), Sta cls p pn N H0 ad H σ ds →
  ∀ Dn : Ends, (∀ ad' σ' H' ds', Φ (.nx ds') → Sta cls p pn N H0 ad' H' σ' ds' → Dn.nx σ' H') → (∀ v H' d, Φ (.rt d) → R p N H0 H' v d → Dn.rt v H') →
    (∀ ad' σ' H' ds', Φ (.bk ds') → Sta cls p pn N H0 ad' H' σ' ds' → Dn.bk σ' H') → (∀ ad' σ' H' ds', Φ (.ct ds') → Sta cls p pn N H0 ad' H' σ' ds' → Dn.ct σ' H') → t Dn σ H
def JX (cls : Cl) (R : RM) (t : TS) (m : MS) : Prop := ∀ (p : Addr → Prop) (ds : Sts) (Φ : Fl → Prop), (m ds).wp p Φ → SvG cls R p t ds Φ
section
variable {cls : Cl} {R : RM} {ts tu : TS} {ms mu : MS} {te ta tb : TE} {tt : TT} {me ma mb : ME} {mt : MB} {mf mg' : MA} {t : TA} {mr : MA}
theorem SvG.of {p : Addr → Prop} {ds : Sts} {Φ : Fl → Prop} (h : Sv cls p ts ds (fun d => Φ (.nx d)) (fun _ => False) noSt noSt) : SvG cls R p ts ds Φ := fun pn N H0 ad σ H S Dn q1 _ _ _ =>
  h pn N H0 ad σ H S Dn q1 (fun _ _ _ z => z.elim) (fun _ _ _ _ z => z.elim) (fun _ _ _ _ z => z.elim)
def mSeqS (a b : MS) : MS := fun ds => (a ds).bind fun
  | .nx ds' => b ds'
  | f => .ret f
theorem jx_seq (h : JX cls R ts ms) (k : JX cls R tu mu) : JX cls R (tSeq ts tu) (mSeqS ms mu) := fun p ds Φ w pn N H0 ad σ H S Dn q1 q2 q3 q4 =>
  h p ds _ (T.wp_bind.mp w) pn N H0 ad σ H S { Dn with nx := tu Dn } (fun ad' σ' H' ds' z S' => k p ds' Φ z pn N H0 ad' σ' H' S' Dn q1 q2 q3 q4) (fun v H' d z => q2 v H' d z) (fun a s h d z => q3 a s h d z) (fun a s h d z => q4 a s h d z)
def mNext : MS := fun ds => .ret (.nx ds)
theorem jx_next : JX cls R tNext mNext := fun p ds Φ w pn N H0 ad σ H S Dn q1 _ _ _ => q1 ad σ H ds w S
def mBreak : MS := fun ds => .ret (.bk ds)
theorem jx_break : JX cls R tBreak mBreak := fun p ds Φ w pn N H0 ad σ H S Dn _ _ q3 _ => q3 ad σ H ds w S
def mCont : MS := fun ds => .ret (.ct ds)
theorem jx_cont : JX cls R tCont mCont := fun p ds Φ w pn N H0 ad σ H S Dn _ _ _ q4 => q4 ad σ H ds w S
def mNever : MS := fun _ => .bad
theorem jx_never : JX cls R ts mNever := fun p ds Φ w => w.elim
def mIfS (mt : MB) (a b : MS) : MS := fun ds => (mt ds).bind fun b' => if b' = true then a ds else b ds
theorem jx_if (ht : JB cls tt mt) (h : JX cls R ts ms) (k : JX cls R tu mu) : JX cls R (tIfS tt ts tu) (mIfS mt ms mu) := fun p ds Φ w pn N H0 ad σ H S Dn q1 q2 q3 q4 =>
  ht p ds _ (T.wp_bind.mp w) pn N H0 ad σ H S _ fun b H1 pb g1 => by
    cases b with
    | true => exact h p ds Φ pb pn N H0 ad σ H1 (S.mono g1) Dn q1 q2 q3 q4
    | false => exact k p ds Φ pb pn N H0 ad σ H1 (S.mono g1) Dn q1 q2 q3 q4
def mRet (me : ME) : MS := fun ds => (me ds).bind fun d => .ret (.rt d)
theorem jx_ret (h : JE cls te me) : JX cls (RDeep cls) (tRet te) (mRet me) := fun p ds Φ w pn N H0 ad σ H S Dn _ q2 _ _ =>
  h p ds _ (T.wp_bind.mp w) pn N H0 ad σ H S _ fun v H1 d pd g1 a => q2 v H1 d pd ⟨S.go.trans g1, a.less fun _ z => .inl z⟩
def mRetF (mf : MA) : MS := fun ds => (mf ds).bind fun xs => .ret (.rt (.lst xs))
theorem jx_retF (h : JF cls te mf) : JX cls (RFresh cls) (tRet te) (mRetF mf) := fun p ds Φ w pn N H0 ad σ H S Dn _ q2 _ _ =>
  h p ds _ (T.wp_bind.mp w) pn N H0 ad σ H S _ fun l H1 vs xs px g1 hl e a => q2 (.ref l) H1 _ px ⟨S.go.trans g1, l, vs, xs, rfl, rfl, old_none S hl, e, a.less fun b z => z.elim (fun z => .inl (.inl z)) .inr⟩
/-- a list of the def's own is returned -/
def mRetOwn (i : Nat) : MS := fun ds => match ds[i]? with
  | some (some (.own xs)) => .ret (.rt (.lst xs))
  | _ => .bad
theorem jx_retOwn (i : Nat) : JX cls (RFresh cls) (tRet (tVar i)) (mRetOwn i) := fun p ds Φ w pn N H0 ad σ H S Dn _ q2 _ _ => by
  unfold mRetOwn at w
  split at w
  · rename_i xs e
    obtain ⟨h1, h2, h3, vs, h4, h5⟩ := S.own i xs e
    refine ⟨_, h1, q2 _ H _ w ⟨S.go, ad i, vs, xs, rfl, rfl, h3, h4, h5.less fun b z => z.elim (fun z => .inl z) fun z => ?_⟩⟩
    rw [z]
    exact .inr ⟨i, xs, e, rfl⟩
  · exact w.elim
theorem jx_retOwnD (i : Nat) : JX cls (RDeep cls) (tRet (tVar i)) (mRetOwn i) := fun p ds Φ w pn N H0 ad σ H S Dn _ q2 _ _ => by
  unfold mRetOwn at w
  split at w
  · rename_i xs e
    obtain ⟨h1, h2, h3, vs, h4, h5⟩ := S.own i xs e
    exact ⟨_, h1, q2 _ H _ w ⟨S.go, .lst h2 h4 (h5.less fun b z => .inl z)⟩⟩
  · exact w.elim
def mRetN : MS := fun _ => .ret (.rt .non)
theorem jx_retN : JX cls (RDeep cls) tRetN mRetN := fun p ds Φ w pn N H0 ad σ H S Dn _ q2 _ _ => q2 .non H .non w ⟨S.go, .non⟩
def mDrop (me : ME) : MS := fun ds => (me ds).bind fun _ => .ret (.nx ds)
theorem jx_expr (h : JS cls te me) : JX cls R (tDrop te) (mDrop me) := fun p ds Φ w pn N H0 ad σ H S Dn q1 _ _ _ =>
  h p ds _ (T.wp_bind.mp w) pn N H0 ad σ H S _ fun v H1 d pd g1 a => q1 ad σ H1 ds pd (S.mono g1)
def mAsg (me : ME) (tg : Tg) : MS := fun ds => (me ds).bind fun d => optP (tg.put d ds) fun ds' => .ret (.nx ds')
theorem jx_asg {g : TG} {tg : Tg} (h : JE cls te me) (hg : JG cls g tg) : JX cls R (tAsg te g) (mAsg me tg) := fun p ds Φ w => SvG.of (sv_asg (h p ds _ (T.wp_bind.mp w)) fun d pd => by
  obtain ⟨ds', e, z⟩ := optP_wp pd
  exact ⟨ds', hg p d ds ds' e, z⟩)
/-- a list of the def's own begins -/
def mNew (i : Nat) (mf : MA) : MS := fun ds => (mf ds).bind fun xs => if i < ds.length then .ret (.nx (ds.set i (some (.own xs)))) else .bad
theorem jx_new {i : Nat} (h : JF cls te mf) : JX cls R (tAsg te (gName i)) (mNew i mf) := fun p ds Φ w => by
  have h1 := h p ds _ (T.wp_bind.mp w)
  by_cases hi : i < ds.length
  · exact SvG.of (sv_setF hi h1 fun xs z => by rw [if_pos hi] at z; exact z)
  · intro pn N H0 ad σ H S Dn q1 _ _ _
    exact h1 pn N H0 ad σ H S _ fun l H' vs xs px g hl e a => absurd (ite_wp px).1 hi
/-- a, b = e, e' -/
def mPar (i j : Nat) (mr : MA) : MS := fun ds => (mr ds).bind fun
  | [a, b] => .ret (.nx ((ds.set i (some (.dat a))).set j (some (.dat b))))
  | _ => .bad
theorem jx_par {i j : Nat} (h : JA cls t mr) : JX cls R (tPar i j t) (mPar i j mr) := fun p ds Φ w => SvG.of (sv_par (h p ds _ (T.wp_bind.mp w)) fun xs z => by
  split at z
  · exact ⟨_, _, rfl, z⟩
  · exact z.elim)
def mPar3 (i j l : Nat) (mr : MA) : MS := fun ds => (mr ds).bind fun
  | [a, b, c] => .ret (.nx (((ds.set i (some (.dat a))).set j (some (.dat b))).set l (some (.dat c))))
  | _ => .bad
theorem jx_par3 {i j l : Nat} (h : JA cls t mr) : JX cls R (tPar3 i j l t) (mPar3 i j l mr) := fun p ds Φ w => SvG.of (sv_par3 (h p ds _ (T.wp_bind.mp w)) fun xs z => by
  split at z
  · exact ⟨_, _, _, rfl, z⟩
  · exact z.elim)
/-- a new own list and data side by side -/
def mParFE (i j : Nat) (mf : MA) (mb : ME) : MS := fun ds => (mf ds).bind fun xs => (mb ds).bind fun d => if i < ds.length then .ret (.nx ((ds.set i (some (.own xs))).set j (some (.dat d)))) else .bad
theorem jx_parFE {i j : Nat} (h : JF cls ta mf) (k : JE cls tb mb) : JX cls R (tPar i j (tCons ta (tCons tb tNil))) (mParFE i j mf mb) := fun p ds Φ w pn N H0 ad σ H S Dn q1 _ _ _ =>
  h p ds _ (T.wp_bind.mp w) pn N H0 ad σ H S _ fun l H1 vs xs px g1 hl e a => by
    have S1 : Sta cls p pn (fun b => N b ∨ b = l) H0 ad H1 σ ds := S.hide g1 hl e
    refine k p ds _ (T.wp_bind.mp px) pn _ H0 ad σ H1 S1 _ fun v H2 d pd g2 a2 => ⟨_, _, rfl, ?_⟩
    obtain ⟨hi, pd⟩ := ite_wp pd
    have np : ¬ p l := fun z => S.wf.dom l (S.wf.sub l z) hl
    have e2 : H2 l = some (.lst vs) := g2.ext _ _ np e
    have hh : ∀ b, hid (fun b => N b ∨ b = l) ad ds b ↔ hid N ad ds b ∨ b = l := fun b => ⟨fun z => z.elim (fun z => z.elim (fun z => .inl (.inl z)) .inr) fun z => .inl (.inr z), fun z => z.elim (fun z => z.elim (fun z => .inl (.inl z)) .inr) fun z => .inl (.inr z)⟩
    have S2 := S.adopt (g1.trans g2) hl e2 ((a.less (N' := hid (fun b => N b ∨ b = l) ad ds) fun b z => (hh b).mp z).mono S1.hsub g2 |>.less fun b z => (hh b).mpr z) hi
    refine q1 _ _ H2 _ pd (S2.put (a2.less fun b z => (hh b).mpr ?_))
    rcases z with z | ⟨m, ys, ez, q⟩
    · exact .inl (.inl z)
    · rcases get_set ez with ⟨z, _, _⟩ | ⟨ne, ez⟩
      · right; rw [← q, z]; simp only [if_true]
      · left; refine .inr ⟨m, ys, ez, ?_⟩; simpa only [if_neg (Ne.symm ne)] using q
def mParEF (i j : Nat) (ma : ME) (mf : MA) : MS := fun ds => (ma ds).bind fun d => (mf ds).bind fun xs => if j < ds.length ∧ i ≠ j then .ret (.nx ((ds.set i (some (.dat d))).set j (some (.own xs)))) else .bad
theorem jx_parEF {i j : Nat} (k : JE cls ta ma) (h : JF cls tb mf) : JX cls R (tPar i j (tCons ta (tCons tb tNil))) (mParEF i j ma mf) := fun p ds Φ w pn N H0 ad σ H S Dn q1 _ _ _ =>
  k p ds _ (T.wp_bind.mp w) pn N H0 ad σ H S _ fun v H1 d pd g1 a1 => by
    refine h p ds _ (T.wp_bind.mp pd) pn N H0 ad σ H1 (S.mono g1) _ fun l H2 vs xs px g2 hl e a => ⟨_, _, rfl, ?_⟩
    obtain ⟨⟨hj, hij⟩, px⟩ := ite_wp px
    have S1 := ((S.mono g1).put (i := i) a1)
    have hh : ∀ b, hid N ad (ds.set i (some (Slot.dat d))) b → hid N ad ds b := hid_set
    exact q1 _ _ H2 _ px (S1.adopt g2 hl e (a.less fun b z => z.elim (fun z => .inl (hh b z)) .inr) (by rw [List.length_set]; exact hj))
def mParFF (i j : Nat) (ma mf : MA) : MS := fun ds => (ma ds).bind fun ys => (mf ds).bind fun xs => if i < ds.length ∧ j < ds.length ∧ i ≠ j then .ret (.nx ((ds.set i (some (.own ys))).set j (some (.own xs)))) else .bad
theorem jx_parFF {i j : Nat} {ma : MA} (k : JF cls ta ma) (h : JF cls tb mf) : JX cls R (tPar i j (tCons ta (tCons tb tNil))) (mParFF i j ma mf) := fun p ds Φ w pn N H0 ad σ H S Dn q1 _ _ _ =>
  k p ds _ (T.wp_bind.mp w) pn N H0 ad σ H S _ fun l H1 vs xs px g1 hl e a => by
    have S1 : Sta cls p pn (fun b => N b ∨ b = l) H0 ad H1 σ ds := S.hide g1 hl e
    refine h p ds _ (T.wp_bind.mp px) pn _ H0 ad σ H1 S1 _ fun l2 H2 vs2 xs2 px2 g2 hl2 e2 a2 => ⟨_, _, rfl, ?_⟩
    obtain ⟨⟨hi, hj, hij⟩, px2⟩ := ite_wp px2
    have np : ¬ p l := fun z => S.wf.dom l (S.wf.sub l z) hl
    have el : H2 l = some (.lst vs) := g2.ext _ _ np e
    have hh : ∀ b, hid (fun b => N b ∨ b = l) ad ds b ↔ hid N ad ds b ∨ b = l := fun b => ⟨fun z => z.elim (fun z => z.elim (fun z => .inl (.inl z)) .inr) fun z => .inl (.inr z), fun z => z.elim (fun z => z.elim (fun z => .inl (.inl z)) .inr) fun z => .inl (.inr z)⟩
    have A1 := S.adopt (i := i) g1 hl e a hi
    have nl : l2 ≠ l := fun z => by rw [z, e] at hl2; cases hl2
    refine q1 _ _ H2 _ px2 (A1.adopt g2 hl2 e2 (a2.less fun b z => ?_) (by rw [List.length_set]; exact hj))
    rcases z with z | z
    · left
      refine (hh b).mpr ?_
      rcases z with z | ⟨m, ys, ez, q⟩
      · exact .inl (.inl z)
      · rcases get_set ez with ⟨z, _, _⟩ | ⟨ne, ez⟩
        · right; rw [← q, z]; simp only [if_true]
        · left; refine .inr ⟨m, ys, ez, ?_⟩; simpa only [if_neg (Ne.symm ne)] using q
    · exact .inr z
/-! lists of the def's own are changed -/
def ownT (ds : Sts) (i : Nat) (f : List D → T α) : T α := match ds[i]? with
  | some (some (.own xs)) => f xs
  | _ => .bad
theorem ownT_wp {α : Type} {p : Addr → Prop} {ds : Sts} {i : Nat} {f : List D → T α} {P : α → Prop} (h : (ownT ds i f).wp p P) : ∃ xs, ds[i]? = some (some (.own xs)) ∧ (f xs).wp p P := by
  unfold ownT at h
  split at h
  · exact ⟨_, by assumption, h⟩
  · exact h.elim
def mApp (i : Nat) (me : ME) : MS := fun ds => ownT ds i fun xs => if xs.length < 100000 then (me ds).bind fun d => .ret (.nx (ds.set i (some (.own (xs ++ [d]))))) else .bad
theorem jx_app {K : PySem.W.Frag} {i : Nat} (h : JE cls te me) : JX cls R (tDrop (tBM K "list" rAppend (tVar i) (tCons te tNil))) (mApp i me) := fun p ds Φ w => by
  obtain ⟨xs, e, w⟩ := ownT_wp w
  obtain ⟨hl, w⟩ := ite_wp w
  exact SvG.of (sv_app e (h p ds _ (T.wp_bind.mp w)) hl fun d pd => pd)
def mExt (i : Nat) (me : ME) : MS := fun ds => ownT ds i fun xs => (me ds).bind fun d => (unL d).bind fun ys => if xs.length + ys.length ≤ 100000 then .ret (.nx (ds.set i (some (.own (xs ++ ys))))) else .bad
theorem jx_ext {K : PySem.W.Frag} {i : Nat} (h : JE cls te me) : JX cls R (tDrop (tBM K "list" rExtend (tVar i) (tCons te tNil))) (mExt i me) := fun p ds Φ w => by
  obtain ⟨xs, e, w⟩ := ownT_wp w
  refine SvG.of (sv_ext (PI := fun ys => xs.length + ys.length ≤ 100000 ∧ Φ (.nx (ds.set i (some (.own (xs ++ ys)))))) e ((h p ds _ (T.wp_bind.mp w)).mono fun d z => ?_) (fun ys z => z.1) fun ys z => z.2)
  obtain ⟨ys, e, z⟩ := unL_wp.mp (T.wp_bind.mp z)
  exact ⟨ys, ite_wp z, e⟩
def mItem (i : Nat) (mk me : ME) : MS := fun ds => ownT ds i fun xs => (me ds).bind fun d => (mk ds).bind fun k => (unI k).bind fun k => match ixN xs.length k with
  | some j => .ret (.nx (ds.set i (some (.own (xs.set j d)))))
  | none => .bad
theorem jx_item {i : Nat} {mk : ME} (h : JE cls te me) (hk : JE cls ta mk) : JX cls R (tAsg te (gSub (tVar i) ta rSetL)) (mItem i mk me) := fun p ds Φ w pn N H0 ad σ H S Dn q1 _ _ _ => by
  obtain ⟨xs, e, w⟩ := ownT_wp w
  refine h p ds _ (T.wp_bind.mp w) pn N H0 ad σ H S _ fun v H1 d pd g1 a => ?_
  have S1 := S.mono g1
  obtain ⟨h1, h2, h3, vs, h4, h5⟩ := S1.own i xs e
  refine ⟨.ref (ad i), h1, hk p ds _ (T.wp_bind.mp pd) pn N H0 ad σ H1 S1 _ fun w H2 dj pj g2 b => ?_⟩
  have S2 := S1.mono g2
  obtain ⟨z, rfl, pk⟩ := unI_wp.mp (T.wp_bind.mp pj)
  cases b
  have e4 : H2 (ad i) = some (.lst vs) := g2.ext _ _ (fun y => h2 (S1.wf.sub _ y)) h4
  split at pk
  · rename_i j ej
    exact ⟨ad i, vs, z, j, rfl, rfl, e4, by rw [h5.length]; exact ej, q1 ad σ _ _ pk (S2.change e ((h5.mono S.hsub g2).set (a.mono S.hsub g2)))⟩
  · exact pk.elim
/-- x += e, whole numbers -/
def mAug (f : Int → Int → Int) (i : Nat) (me : ME) : MS := fun ds => match ds[i]? with
  | some (some (.dat (.int x))) => (me ds).bind fun d => (unI d).bind fun y => .ret (.nx (ds.set i (some (.dat (.int (f x y))))))
  | _ => .bad
theorem jx_aug {f : Int → Int → Int} {i : Nat} (h : JE cls te me) : JX cls R (tAug i te (ipI f)) (mAug f i me) := fun p ds Φ w => by
  unfold mAug at w
  split at w
  · rename_i x e
    refine SvG.of (sv_augI (P := fun d => ∃ y, d = .int y ∧ Φ (.nx (ds.set i (some (.dat (.int (f x y))))))) e ((h p ds _ (T.wp_bind.mp w)).mono fun d z => unI_wp.mp (T.wp_bind.mp z)) (fun d ⟨y, e, _⟩ => ⟨y, e⟩) fun y ⟨y', e, z⟩ => by cases e; exact z)
  · exact w.elim
/-- names that are not read any more -/
def killD (ds : Sts) : List Nat → Sts
  | [] => ds
  | v :: vs => (killD ds vs).set v none
def Fl.kill (vs : List Nat) : Fl → Fl
  | .nx ds => .nx (killD ds vs)
  | .ct ds => .ct (killD ds vs)
  | f => f
theorem Sta.forget {cls : Cl} {p : Addr → Prop} {pn : List (V × D)} {N : Addr → Prop} {H0 H : Hp} {ad : Nat → Addr} {σ : L2.St} {ds : Sts} (E : Sta cls p pn N H0 ad H σ ds) : ∀ vs : List Nat, Sta cls p pn N H0 ad H σ (killD ds vs)
  | [] => E
  | v :: vs => by
    have E1 := E.forget vs
    by_cases hv : v < σ.length
    · have := E1.wipe1 (i := v) (o := σ[v])
      rw [List.set_getElem_self hv] at this
      exact this
    · show Sta cls p pn N H0 ad H σ ((killD ds vs).set v none)
      rw [List.set_eq_of_length_le (by rw [← E1.len]; omega)]
      exact E1
def mKill (vs : List Nat) (ms : MS) : MS := fun ds => (ms ds).bind fun f => .ret (f.kill vs)
theorem jx_kill {vs : List Nat} (h : JX cls R ts ms) : JX cls R ts (mKill vs ms) := fun p ds Φ w pn N H0 ad σ H S Dn q1 q2 q3 q4 =>
  h p ds _ (T.wp_bind.mp w) pn N H0 ad σ H S Dn (fun a s h d z S' => q1 a s h _ z (S'.forget vs)) (fun v H' d z => q2 v H' d z) (fun a s h d z S' => q3 a s h d z S') (fun a s h d z S' => q4 a s h _ z (S'.forget vs))
/-- lists of the def's own become data -/
def frzD (ds : Sts) : List Nat → Sts
  | [] => ds
  | v :: vs => match (frzD ds vs)[v]? with
    | some (some (.own xs)) => (frzD ds vs).set v (some (.dat (.lst xs)))
    | _ => frzD ds vs
theorem Sta.frz {cls : Cl} {p : Addr → Prop} {pn : List (V × D)} {N : Addr → Prop} {H0 H : Hp} {ad : Nat → Addr} {σ : L2.St} {ds : Sts} (E : Sta cls p pn N H0 ad H σ ds) : ∀ vs : List Nat, Sta cls p pn N H0 ad H σ (frzD ds vs)
  | [] => E
  | v :: vs => by
    have E1 := E.frz vs
    unfold frzD
    split
    · exact E1.freeze (by assumption)
    · exact E1
def mFrz (vs : List Nat) (ms : MS) : MS := fun ds => ms (frzD ds vs)
theorem jx_frz {vs : List Nat} (h : JX cls R ts ms) : JX cls R ts (mFrz vs ms) := fun p ds Φ w pn N H0 ad σ H S => h p _ Φ w pn N H0 ad σ H (S.frz vs)
/-- .. for a moment: the value is no list nor anything with one in it -/
def atomD : D → Bool
  | .non => true
  | .bl _ => true
  | .int _ => true
  | .str _ => true
  | _ => false
def mView (vs : List Nat) (me : ME) : ME := fun ds => (me (frzD ds vs)).bind fun d => if atomD d = true then .ret d else .bad
theorem j_view {vs : List Nat} (h : JE cls te me) : JE cls te (mView vs me) := fun p ds P w pn N H0 ad σ H S Q q =>
  h p _ _ (T.wp_bind.mp w) pn N H0 ad σ H (S.frz vs) Q fun v H' d pd g a => by
    obtain ⟨hd, pd⟩ := ite_wp pd
    refine q v H' d pd g ?_
    cases a <;> first | exact .non | exact .bl _ | exact .int _ | exact .str _ | exact absurd hd Bool.false_ne_true
/-! loops -/
def forGo (f : D → Sts → T Fl) : List D → Sts → T Fl
  | [], ds => .ret (.nx ds)
  | x :: xs, ds => (f x ds).bind fun
    | .nx ds' => forGo f xs ds'
    | .ct ds' => forGo f xs ds'
    | .bk ds' => .ret (.nx ds')
    | .rt d => .ret (.rt d)
def mFor (mi : MA) (tg : Tg) (ms : MS) : MS := fun ds => (mi ds).bind fun xs => forGo (fun x ds => optP (tg.put x ds) ms) xs ds
theorem jx_for {wi : TI} {g : TG} {mi : MA} {tg : Tg} (hi : JI cls wi mi) (hg : JG cls g tg) (h : JX cls R ts ms) : JX cls R (tFor wi g ts) (mFor mi tg ms) := by
  intro p ds Φ w pn N H0 ad σ H S Dn q1 q2 _ _
  refine hi p ds _ (T.wp_bind.mp w) pn N H0 ad σ H S _ fun J H1 xs qs px g1 hq wk => ?_
  let f : D → Sts → T Fl := fun x ds => optP (tg.put x ds) ms
  refine ⟨fun i m σ H => m = xs.length - i ∧ i ≤ xs.length ∧ ∃ ad' ds1, (forGo f (xs.drop i) ds1).wp p Φ ∧ Sta cls p (qs ++ pn) N H0 ad' H σ ds1, ⟨xs.length, by rw [Nat.sub_zero], Nat.zero_le _, ad, ds, px, (S.mono g1).pins hq⟩, ?_⟩
  rintro i m σ1 H2 ⟨rfl, hi2, ad', ds1, jv, S1⟩
  have wki := wk _ H2 S1.hwf (fun x hx => S1.pin x (List.mem_append_left _ hx)) i
  by_cases hlt : i < xs.length
  · obtain ⟨k1, k2⟩ := wki.1 _ (List.getElem?_eq_getElem hlt)
    refine .inr ⟨k1, fun σ' H' => ∃ ad' ds2, (forGo f (xs.drop (i + 1)) ds2).wp p Φ ∧ Sta cls p (qs ++ pn) N H0 ad' H' σ' ds2, fun σ' H' ⟨a, b, c, d⟩ => ⟨xs.length - (i + 1), by omega, rfl, hlt, a, b, c, d⟩, fun x H3 y => ?_⟩
    obtain ⟨g3, a3⟩ := k2 x H3 y
    rw [List.drop_eq_getElem_cons hlt] at jv
    have jv : ((f xs[i] ds1).bind fun
      | .nx ds' => forGo f (xs.drop (i + 1)) ds'
      | .ct ds' => forGo f (xs.drop (i + 1)) ds'
      | .bk ds' => .ret (.nx ds')
      | .rt d => .ret (.rt d)).wp p Φ := jv
    obtain ⟨ds2, ep, pp⟩ := optP_wp (show (optP (tg.put xs[i] ds1) ms).wp p _ from T.wp_bind.mp jv)
    refine hg p _ _ _ ep _ N H0 ad' σ1 H3 (S1.mono g3) x a3 _ fun σ' S4 _ => ?_
    exact h p ds2 _ pp _ N H0 ad' σ' H3 S4 _ (fun a s h d z S => ⟨a, d, z, S⟩) (fun v H' d z => q2 v H' d z) (fun a s h d z S => q1 a s h d z S.unpin) (fun a s h d z S => ⟨a, d, z, S⟩)
  · have ei : i = xs.length := by omega
    subst ei
    rw [List.drop_length] at jv
    exact .inl ⟨wki.2 rfl, q1 ad' σ1 H2 ds1 jv S1.unpin⟩
def whileGo (mt : MB) (ms : MS) : Nat → Sts → T Fl
  | 0, _ => .bad
  | n + 1, ds => (mt ds).bind fun b => if b = true then (ms ds).bind fun
      | .nx ds' => whileGo mt ms n ds'
      | .ct ds' => whileGo mt ms n ds'
      | .bk ds' => .ret (.nx ds')
      | .rt d => .ret (.rt d)
    else .ret (.nx ds)
def mWhile (n : Nat) (mt : MB) (ms : MS) : MS := fun ds => whileGo mt ms n ds
theorem jx_while {n : Nat} (ht : JB cls tt mt) (h : JX cls R ts ms) : JX cls R (tWhile tt ts) (mWhile n mt ms) := by
  intro p ds Φ w pn N H0 ad σ H S Dn q1 q2 _ _
  refine ⟨fun m σ H => ∃ ad ds, (whileGo mt ms m ds).wp p Φ ∧ Sta cls p pn N H0 ad H σ ds, ⟨n, ad, ds, w, S⟩, ?_⟩
  rintro m σ H ⟨ad, ds, pv, S⟩
  cases m with
  | zero => exact pv.elim
  | succ m =>
    refine ht p ds _ (T.wp_bind.mp pv) pn N H0 ad σ H S _ fun b H1 pb g => ?_
    cases b with
    | true =>
      refine ⟨fun σ' H' => ∃ ad ds, (whileGo mt ms m ds).wp p Φ ∧ Sta cls p pn N H0 ad H' σ' ds, fun _ _ z => ⟨m, Nat.lt_succ_self m, z⟩, ?_⟩
      exact h p ds _ (T.wp_bind.mp pb) pn N H0 ad σ H1 (S.mono g) _ (fun a s h d z S => ⟨a, d, z, S⟩) (fun v H' d z => q2 v H' d z) (fun a s h d z S => q1 a s h d z S) (fun a s h d z S => ⟨a, d, z, S⟩)
    | false => exact q1 ad σ H1 ds pb (S.mono g)
end

/-! ### defs -/
def runD (ms : MS) (k : Nat) (xs : List D) : T D := (ms (entry k xs)).bind fun
  | .rt d => .ret d
  | .nx _ => .ret .non
  | _ => .bad
section
variable {P : Program} {w : World} {K : PySem.W.Frag} {mg : Str → Option Value} {base : Heap} {k : Nat} {f : Addr} {fd : FuncData} {ps Nm : List Str} {cls : Cl} {n m : Nat} {x qual : Str} {st : Stmt} {ms : MS}
theorem gok_t (F : Fun K x qual st f fd) (S : FnScope Nm ps (defScope st)) (hn : ps.length = n) (hm : Nm.length - n = m)
    (hb : ∀ (cdv : Value) (A : Around) (out : List Env) (s : Shared) (H : Hp) (E : XK), A.guards = some [] → Room k (A.deeper (envOfC qual (defScope st) s.heap.objs.size f cdv)) →
      ∃ t, PSs (cxOf CX0 P w K mg base Nm qual (defScope st) f cdv A out s H E).nox (defBody st) t ∧ JX cls (RDeep cls) t ms) :
    GOk P w K mg base (k + 1) f fd ps (spT cls n (runD ms m)) := by
  refine gok_of F S (fun vs H Q E ⟨p, N, xs, _, _, a, l, _⟩ => by rw [a.length, l, hn]) fun cdv A out s H vs Q E hg hr hs => ?_
  obtain ⟨t, ht, hv⟩ := hb cdv A out s H E hg hr
  obtain ⟨p, N, xs, PP, W, a, l, hw, q⟩ := hs
  refine ⟨t, ht, ?_⟩
  have S0 := sta_entry (Nm := Nm) W a
  rw [a.length, l, hm] at S0
  exact hv p _ _ (T.wp_bind.mp hw) [] N H _ _ H S0 _ (fun ad' σ' H' ds' z S' => q .non H' .non z S'.go .non) (fun v H' d z ⟨g, b⟩ => q v H' d z g b) (fun _ _ _ _ z => z.elim) (fun _ _ _ _ z => z.elim)
theorem fok_t (F : Fun K x qual st f fd) (S : FnScope Nm ps (defScope st)) (hn : ps.length = n) (hm : Nm.length - n = m)
    (hb : ∀ (cdv : Value) (A : Around) (out : List Env) (s : Shared) (H : Hp) (E : XK), Room k (A.deeper (envOfC qual (defScope st) s.heap.objs.size f cdv)) →
      ∃ t, PSs (cxOf CX0 P w K mg base Nm qual (defScope st) f cdv A out s H E).nox (defBody st) t ∧ JX cls (RDeep cls) t ms) :
    FnOk P w K mg base CX0 (k + 1) f fd ps (spT cls n (runD ms m)) := by
  refine F.ok S (fun vs H Q E ⟨p, N, xs, _, _, a, l, _⟩ => by rw [a.length, l, hn]) fun cdv A out s H vs Q E hr hs => ?_
  obtain ⟨t, ht, hv⟩ := hb cdv A out s H E hr
  obtain ⟨p, N, xs, PP, W, a, l, hw, q⟩ := hs
  refine ⟨t, ht, ?_⟩
  have S0 := sta_entry (Nm := Nm) W a
  rw [a.length, l, hm] at S0
  exact hv p _ _ (T.wp_bind.mp hw) [] N H _ _ H S0 _ (fun ad' σ' H' ds' z S' => q .non H' .non z S'.go .non) (fun v H' d z ⟨g, b⟩ => q v H' d z g b) (fun _ _ _ _ z => z.elim) (fun _ _ _ _ z => z.elim)
def runF (ms : MS) (k : Nat) (xs : List D) : T D := (ms (entry k xs)).bind fun
  | .rt d => .ret d
  | _ => .bad
theorem gok_tf (F : Fun K x qual st f fd) (S : FnScope Nm ps (defScope st)) (hn : ps.length = n) (hm : Nm.length - n = m)
    (hb : ∀ (cdv : Value) (A : Around) (out : List Env) (s : Shared) (H : Hp) (E : XK), A.guards = some [] → Room k (A.deeper (envOfC qual (defScope st) s.heap.objs.size f cdv)) →
      ∃ t, PSs (cxOf CX0 P w K mg base Nm qual (defScope st) f cdv A out s H E).nox (defBody st) t ∧ JX cls (RFresh cls) t ms) :
    GOk P w K mg base (k + 1) f fd ps (spTF cls n (runF ms m)) := by
  refine gok_of F S (fun vs H Q E ⟨p, N, xs, _, _, a, l, _⟩ => by rw [a.length, l, hn]) fun cdv A out s H vs Q E hg hr hs => ?_
  obtain ⟨t, ht, hv⟩ := hb cdv A out s H E hg hr
  obtain ⟨p, N, xs, PP, W, a, l, hw, q⟩ := hs
  refine ⟨t, ht, ?_⟩
  have S0 := sta_entry (Nm := Nm) W a
  rw [a.length, l, hm] at S0
  exact hv p _ _ (T.wp_bind.mp hw) [] N H _ _ H S0 _ (fun _ _ _ _ z => z.elim) (fun v H' d z ⟨g, l, ws, ys, e1, e2, hl, e, b⟩ => by subst e1 e2; exact q l H' ws ys z g hl e b) (fun _ _ _ _ z => z.elim) (fun _ _ _ _ z => z.elim)
end
end Lk

namespace Lk
open PySem PySem.Spec PyProof.Rows L2

/-! ### from one way of promising to the other -/
section
variable {P : Program} {w : World} {K : PySem.W.Frag} {mg : Str → Option Value} {base : Heap} {k : Nat} {f : Addr} {fd : FuncData} {ps : List Str} {cls : Cl} {n : Nat}
theorem gok_conv {sp sp' : Sp} (F : GOk P w K mg base k f fd ps sp) (h : ∀ vs H Q E, sp' vs H Q E → sp vs H Q E) : GOk P w K mg base k f fd ps sp' :=
  ⟨fun vs H Q E z => F.len vs H Q E (h vs H Q E z), fun A out s H ar us vs Q E g r e b v z => F.go A out s H ar us vs Q E g r e b v (h vs H Q E z)⟩
/-- a tree's promise as one of a relation -/
theorem gok_TG {g : List D → T D} {pre : (Addr → Prop) → List D → Prop} {FF : List D → D → Prop} (F : GOk P w K mg base k f fd ps (spT cls n g)) (h : ∀ p xs, pre p xs → (g xs).wp p (FF xs)) : GOk P w K mg base k f fd ps (spG cls n pre FF) :=
  gok_conv F fun vs H Q E ⟨p, N, xs, W, a, l, hp, q⟩ => ⟨p, N, xs, FF xs, W, a, l, h p xs hp, q⟩
theorem gok_GT {g : List D → T D} {pre : (Addr → Prop) → List D → Prop} {FF : List D → D → Prop} (F : GOk P w K mg base k f fd ps (spG cls n pre FF)) (h : ∀ p xs PP, (g xs).wp p PP → pre p xs ∧ ∀ d, FF xs d → PP d) : GOk P w K mg base k f fd ps (spT cls n g) :=
  gok_conv F fun vs H Q E ⟨p, N, xs, PP, W, a, l, hp, q⟩ => ⟨p, N, xs, W, a, l, (h p xs PP hp).1, fun v H' d hd g at_ => q v H' d ((h p xs PP hp).2 d hd) g at_⟩
/-- a new list is a value, too -/
theorem gok_FT {g : List D → T D} (F : GOk P w K mg base k f fd ps (spTF cls n g)) : GOk P w K mg base k f fd ps (spT cls n g) :=
  gok_conv F fun vs H Q E ⟨p, N, xs, PP, W, a, l, hp, q⟩ => ⟨p, N, xs, PP, W, a, l, hp, fun r H' ws ys hd g hl e at_ => q _ H' _ hd g (.lst (fun z => W.dom r z hl) e (at_.less fun b z => .inl z))⟩
end
/-- a draw, as a tree -/
def m_drawT : List D → T D
  | [.adr a, .int n] => .draw a n fun i => .ret (.int i)
  | _ => .bad
theorem draw_conv (p : Addr → Prop) (xs : List D) (PP : D → Prop) (h : (m_drawT xs).wp p PP) : preDraw p xs ∧ ∀ d, isDraw xs d → PP d := by
  unfold m_drawT at h
  split at h
  · rename_i a n
    obtain ⟨h1, h2, h3, h4⟩ := h
    exact ⟨⟨a, n, rfl, h1, h2, h3⟩, fun d ⟨a', n', i, e, h0, h1, ed⟩ => by cases e; rw [ed]; exact h4 i h0 h1⟩
  · exact h.elim
theorem gok_bad {P : Program} {w : World} {K : PySem.W.Frag} {mg : Str → Option Value} {base : Heap} {k : Nat} {f : Addr} {fd : FuncData} {ps : List Str} {cls : Cl} {n : Nat} {g : List D → T D} (hn : ps.length = n) (h : ∀ xs, g xs = .bad) : GOk P w K mg base k f fd ps (spT cls n g) :=
  ⟨fun vs H Q E ⟨p, N, xs, _, _, a, l, _⟩ => by rw [a.length, l, hn], fun A out s H ar us vs Q E _ _ _ _ _ ⟨p, N, xs, PP, _, _, _, z, _⟩ => by rw [h] at z; exact z.elim⟩
theorem gok_badF {P : Program} {w : World} {K : PySem.W.Frag} {mg : Str → Option Value} {base : Heap} {k : Nat} {f : Addr} {fd : FuncData} {ps : List Str} {cls : Cl} {n : Nat} {g : List D → T D} (hn : ps.length = n) (h : ∀ xs, g xs = .bad) : GOk P w K mg base k f fd ps (spTF cls n g) :=
  ⟨fun vs H Q E ⟨p, N, xs, _, _, a, l, _⟩ => by rw [a.length, l, hn], fun A out s H ar us vs Q E _ _ _ _ _ ⟨p, N, xs, PP, _, _, _, z, _⟩ => by rw [h] at z; exact z.elim⟩
/-- the law's def -/
def preR (p : Addr → Prop) (xs : List D) : Prop := ∃ a, xs = [.adr a] ∧ p a

/-! ### own lists get shorter -/
/-- an expression that changes lists of the def's own on the way -/
def EvM (cls : Cl) (p : Addr → Prop) (te : TE) (ds : Sts) (P : D × Sts → Prop) : Prop := ∀ (pn : List (V × D)) (N : Addr → Prop) (H0 : Hp) (ad : Nat → Addr) (σ : L2.St) (H : Hp), Sta cls p pn N H0 ad H σ ds →
  ∀ Q : VK, (∀ v H' d ds', P (d, ds') → Sta cls p pn N H0 ad H' σ ds' → (∀ b, hid N ad ds' b ↔ hid N ad ds b) → (∀ b o, ¬ hid N ad ds b → H b = some o → H' b = some o) → At cls (hid N ad ds) H' v d → Q v H') → te σ H Q
def JM (cls : Cl) (te : TE) (m : Sts → T (D × Sts)) : Prop := ∀ (p : Addr → Prop) (ds : Sts) (P : D × Sts → Prop), (m ds).wp p P → EvM cls p te ds P
theorem hid_change {N : Addr → Prop} {ad : Nat → Addr} {ds : Sts} {j : Nat} {ys zs : List D} (ej : ds[j]? = some (some (Slot.own ys))) : ∀ b, hid N ad (ds.set j (some (Slot.own zs))) b ↔ hid N ad ds b := fun b => ⟨fun z => z.elim .inl fun ⟨q, us, e, r⟩ => by
    rcases get_set e with ⟨rfl, _, _⟩ | ⟨ne, e⟩
    · exact .inr ⟨_, ys, ej, r⟩
    · exact .inr ⟨q, us, e, r⟩, fun z => z.elim .inl fun ⟨q, us, e, r⟩ => by
    by_cases w : q = j
    · subst w
      exact .inr ⟨q, _, List.getElem?_set_self (List.getElem?_eq_some_iff.mp ej).1, r⟩
    · exact .inr ⟨q, us, by rw [List.getElem?_set_ne (Ne.symm w)]; exact e, r⟩⟩
theorem AtAll.eraseIdx {cls : Cl} {N : Addr → Prop} {H : Hp} : ∀ {ys : List D} {ws : List V}, AtAll cls N H ws ys → ∀ m : Nat, AtAll cls N H (ws.eraseIdx m) (ys.eraseIdx m)
  | [], _, .nil, _ => .nil
  | _ :: _, _, .cons _ b, 0 => b
  | _ :: _, _, .cons a b, m + 1 => .cons a (AtAll.eraseIdx b m)
theorem AtAll.dropLast {cls : Cl} {N : Addr → Prop} {H : Hp} : ∀ {ys : List D} {ws : List V}, AtAll cls N H ws ys → AtAll cls N H ws.dropLast ys.dropLast
  | [], _, .nil => .nil
  | [_], _, .cons _ .nil => .nil
  | _ :: _ :: _, _, .cons a (.cons b t) => .cons a (AtAll.dropLast (.cons b t))
def mPop (j : Nat) : Sts → T (D × Sts) := fun ds => ownT ds j fun ys => match ys[ys.length - 1]? with
  | some y => .ret (y, ds.set j (some (.own ys.dropLast)))
  | none => .bad
def mPopAt (j : Nat) (me : ME) : Sts → T (D × Sts) := fun ds => ownT ds j fun ys => (me ds).bind fun d => (unI d).bind fun z => if -(2 ^ 63) ≤ z ∧ z < 2 ^ 63 then match seqIndex? z ys.length with
  | some m => match ys[m]? with
    | some y => .ret (y, ds.set j (some (.own (ys.eraseIdx m))))
    | none => .bad
  | none => .bad else .bad
section
variable {cls : Cl} {R : RM} {K : PySem.W.Frag} {te : TE} {me : ME} {mp : Sts → T (D × Sts)}
theorem pop_ok {p : Addr → Prop} {pn : List (V × D)} {N : Addr → Prop} {H0 H : Hp} {ad : Nat → Addr} {σ : L2.St} {ds : Sts} {j : Nat} {ys zs : List D} {ws us : List V} {y : D} {v : V} {Q : VK} {P : D × Sts → Prop} (S : Sta cls p pn N H0 ad H σ ds) (ej : ds[j]? = some (some (Slot.own ys))) (e4 : H (ad j) = some (.lst ws))
    (az : AtAll cls (hid N ad ds) H us zs) (ay : At cls (hid N ad ds) H v y) (hP : P (y, ds.set j (some (.own zs))))
    (q : ∀ v H' d ds', P (d, ds') → Sta cls p pn N H0 ad H' σ ds' → (∀ b, hid N ad ds' b ↔ hid N ad ds b) → (∀ b o, ¬ hid N ad ds b → H b = some o → H' b = some o) → At cls (hid N ad ds) H' v d → Q v H') : Q v (upd H (ad j) (.lst us)) := by
  have hin : hid N ad ds (ad j) := .inr ⟨j, ys, ej, rfl⟩
  have up : ∀ b o, ¬ hid N ad ds b → H b = some o → (upd H (ad j) (.lst us)) b = some o := fun b o n e => by
    rw [upd_ne (fun z => n (by rw [z]; exact hin))]; exact e
  exact q v _ y _ hP (S.change ej az) (hid_change ej) up (ay.keep (fun _ _ n => n) up)
theorem jm_pop {j : Nat} : JM cls (tBM0 K "list" rPop (tVar j)) (mPop j) := fun p ds P w pn N H0 ad σ H S Q q => by
  obtain ⟨ys, ej, w⟩ := ownT_wp w
  obtain ⟨h1, h2, h3, ws, h4, h5⟩ := S.own j ys ej
  cases ey : ys[ys.length - 1]? with
  | none => rw [ey] at w; exact w.elim
  | some y =>
    rw [ey] at w
    obtain ⟨v, hv, av⟩ := h5.get ey
    exact ⟨_, h1, .inl ⟨rfl, _, .inl (.inl h4)⟩, ad j, ws, v, rfl, rfl, h4, by rw [h5.length]; exact hv, pop_ok S ej h4 h5.dropLast av w q⟩
theorem jm_popAt {j : Nat} (h : JE cls te me) : JM cls (tBM K "list" rPopAt (tVar j) (tCons te tNil)) (mPopAt j me) := fun p ds P w pn N H0 ad σ H S Q q => by
  obtain ⟨ys, ej, w⟩ := ownT_wp w
  obtain ⟨h1, h2, h3, ws, h4, h5⟩ := S.own j ys ej
  refine ⟨_, h1, .inl ⟨rfl, _, .inl (.inl h4)⟩, h p ds _ (T.wp_bind.mp w) pn N H0 ad σ H S _ fun v H1 d pd g a => ?_⟩
  obtain ⟨z, e, pd⟩ := unI_wp.mp (T.wp_bind.mp pd)
  subst e
  cases a
  obtain ⟨⟨z0, z1⟩, pd⟩ := ite_wp pd
  have S1 := S.mono g
  have e4 : H1 (ad j) = some (.lst ws) := g.ext _ _ (fun z => h2 (S.wf.sub _ z)) h4
  have c5 := h5.mono S.hsub g
  cases em : seqIndex? z ys.length with
  | none => rw [em] at pd; exact pd.elim
  | some m =>
    rw [em] at pd
    cases ey : ys[m]? with
    | none =>
      have pd : (match ys[m]? with
        | some y => T.ret (y, ds.set j (some (.own (ys.eraseIdx m))))
        | none => .bad).wp p P := pd
      rw [ey] at pd; exact pd.elim
    | some y =>
      have pd : (match ys[m]? with
        | some y => T.ret (y, ds.set j (some (.own (ys.eraseIdx m))))
        | none => .bad).wp p P := pd
      rw [ey] at pd
      obtain ⟨v, hv, av⟩ := c5.get ey
      refine ⟨ad j, ws, z, m, v, rfl, rfl, e4, z0, z1, by rw [c5.length]; exact em, hv, pop_ok S1 ej e4 (c5.eraseIdx m) av pd fun v H' d ds' hP S' hh up a => q v H' d ds' hP S' hh (fun b o n e => up b o n (g.ext b o (fun z => n (S.hsub b z)) e)) a⟩
/-- x = own.pop(..) -/
def mSetPop (i : Nat) (mp : Sts → T (D × Sts)) : MS := fun ds => (mp ds).bind fun q => .ret (.nx (q.2.set i (some (.dat q.1))))
theorem jx_setPop {i : Nat} (h : JM cls te mp) : JX cls R (tAsg te (gName i)) (mSetPop i mp) := fun p ds Φ w pn N H0 ad σ H S Dn q1 _ _ _ =>
  h p ds _ (T.wp_bind.mp w) pn N H0 ad σ H S _ fun v H1 d ds' pd S' hh _ a => q1 ad _ H1 _ pd (S'.put (a.less fun b z => (hh b).mp z))
/-- own.append(other.pop(..)) -/
def mAppPop (i : Nat) (mp : Sts → T (D × Sts)) : MS := fun ds => ownT ds i fun xs => if xs.length < 100000 then (mp ds).bind fun q => ownT q.2 i fun xs => if xs.length < 100000 then .ret (.nx (q.2.set i (some (.own (xs ++ [q.1]))))) else .bad else .bad
theorem jx_appPop {i : Nat} (h : JM cls te mp) : JX cls R (tDrop (tBM K "list" rAppend (tVar i) (tCons te tNil))) (mAppPop i mp) := fun p ds Φ w pn N H0 ad σ H S Dn q1 _ _ _ => by
  obtain ⟨xs, ei, w⟩ := ownT_wp w
  obtain ⟨_, w⟩ := ite_wp w
  obtain ⟨h1, h2, h3, vs, h4, h5⟩ := S.own i xs ei
  refine ⟨.ref (ad i), h1, .inl ⟨rfl, _, .inl (.inl h4)⟩, h p ds _ (T.wp_bind.mp w) pn N H0 ad σ H S _ fun v H1 d ds' pd S' hh _ a => ?_⟩
  obtain ⟨xs', ei', pd⟩ := ownT_wp pd
  obtain ⟨hl, pd⟩ := ite_wp pd
  obtain ⟨k1, k2, k3, us, k4, k5⟩ := S'.own i xs' ei'
  exact ⟨ad i, us, v, rfl, rfl, k4, by rw [k5.length]; exact Nat.lt_of_lt_of_le hl (by decide), q1 ad σ _ _ pd (S'.change ei' (k5.append (.cons (a.less fun b z => (hh b).mp z) .nil)))⟩
/-! list(range(..)) -/
def mLRg1 (me : ME) : MA := fun ds => (me ds).bind fun d => (unI d).bind fun n => if -100000 ≤ n ∧ n ≤ 100000 then .ret (irng 0 n.toNat) else .bad
def mLRg2 (ma mb : ME) : MA := fun ds => (ma ds).bind fun d => (unI d).bind fun a => (mb ds).bind fun d => (unI d).bind fun b => if -100000 ≤ a ∧ a ≤ 100000 ∧ -100000 ≤ b ∧ b ≤ 100000 then .ret (irng a (b - a).toNat) else .bad
theorem rg_all {N : Addr → Prop} {H : Hp} (a b : Int) : AtAll cls N H (rgV a b) (irng a (b - a).toNat) := by
  have gen : ∀ (xs : List Nat), AtAll cls N H (xs.map fun i => V.int (a + (i : Nat))) (xs.map fun i => D.int (a + (i : Nat))) := by
    intro xs
    induction xs with
    | nil => exact .nil
    | cons x xs ih => exact .cons (.int _) ih
  exact gen _
theorem jf_lrg1 (h : JE cls te me) : JF cls (tLstRg (tRg1 te)) (mLRg1 me) := fun p ds P w pn N H0 ad σ H S Q q =>
  h p ds _ (T.wp_bind.mp w) pn N H0 ad σ H S _ fun v H1 d pd g a => by
    obtain ⟨n, e, pd⟩ := unI_wp.mp (T.wp_bind.mp pd)
    subst e
    cases a
    obtain ⟨⟨h0, h1⟩, pd⟩ := ite_wp pd
    refine ⟨n, rfl, ?_, fun l e => q l _ _ _ pd (g.trans (Go.new e)) (fresh_of S.wf g e) upd_same ?_⟩
    · exact ⟨by omega, by omega, by omega, by omega, by omega⟩
    · have := rg_all (cls := cls) (N := fun b => hid N ad ds b ∨ b = l) (H := upd H1 l (.lst (rgV 0 n))) 0 n
      rw [show n - 0 = n by omega] at this
      exact this
theorem jf_lrg2 {ta tb : TE} {ma mb : ME} (h : JE cls ta ma) (k : JE cls tb mb) : JF cls (tLstRg (tRg2 ta tb)) (mLRg2 ma mb) := fun p ds P w pn N H0 ad σ H S Q q => by
  refine h p ds _ (T.wp_bind.mp w) pn N H0 ad σ H S _ fun v H1 d pd g a => ?_
  obtain ⟨n, e, pd⟩ := unI_wp.mp (T.wp_bind.mp pd)
  subst e
  cases a
  refine k p ds _ (T.wp_bind.mp pd) pn N H0 ad σ H1 (S.mono g) _ fun v H2 d pd g2 a => ?_
  obtain ⟨m, e, pd⟩ := unI_wp.mp (T.wp_bind.mp pd)
  subst e
  cases a
  obtain ⟨⟨h0, h1, h2, h3⟩, pd⟩ := ite_wp pd
  refine ⟨n, m, rfl, rfl, ?_, fun l e => q l _ _ _ pd ((g.trans g2).trans (Go.new e)) (fresh_of S.wf (g.trans g2) e) upd_same (rg_all n m)⟩
  exact ⟨by omega, by omega, by omega, by omega, by omega⟩
theorem j_dk : JE cls tDNewK (mC (.dk [] [])) := fun p ds P w => ev_dk.mono fun d e => by rw [e]; exact w
end
/-! ### shifts, gcd -/
def shlT : D → D → T D
  | .int i, .int j => if 0 ≤ j ∧ (Builtin.Int.intBits i : Int) + j ≤ 2 ^ 27 then .ret (.int (i * 2 ^ j.toNat)) else .bad
  | _, _ => .bad
def shrT : D → D → T D
  | .int i, .int j => if 0 ≤ j then .ret (.int (i / 2 ^ j.toNat)) else .bad
  | _, _ => .bad
def gcdT : List D → T D
  | [.int i, .int j] => .ret (.int (Nat.gcd i.natAbs j.natAbs : Nat))
  | _ => .bad
section
variable {cls : Cl}
theorem rv_shl : RV cls (rI CShl fun i j => .int (i * 2 ^ j.toNat)) shlT := fun p q0 N H x y dx dy W ax ay P w Q q => by
  unfold shlT at w
  split at w
  · obtain ⟨hl, w⟩ := ite_wp w
    have e1 := ax.int; have e2 := ay.int
    subst e1 e2
    exact ⟨_, _, rfl, rfl, hl, q _ H _ w (Go.refl H) (.int _)⟩
  · exact w.elim
theorem rv_shr : RV cls (rI (fun _ j => 0 ≤ j) fun i j => .int (i / 2 ^ j.toNat)) shrT := fun p q0 N H x y dx dy W ax ay P w Q q => by
  unfold shrT at w
  split at w
  · obtain ⟨hl, w⟩ := ite_wp w
    have e1 := ax.int; have e2 := ay.int
    subst e1 e2
    exact ⟨_, _, rfl, rfl, hl, q _ H _ w (Go.refl H) (.int _)⟩
  · exact w.elim
theorem rc_gcdX : RC cls rGcd gcdT := fun p q0 N H vs xs W a P w Q q => by
  unfold gcdT at w
  split at w
  · obtain ⟨v, u, rfl, b, b2⟩ := s2 a
    have e := b.int
    have e' := b2.int
    subst e e'
    exact ⟨_, _, rfl, q _ H _ w (Go.refl H) (.int _)⟩
  · exact w.elim
end
end Lk

namespace Lk
open PySem PySem.Spec PyProof.Rows L2

/-! ### how trees are reckoned -/
@[simp] theorem built_int (i : Int) : builtD (.int i) = true := id rfl
@[simp] theorem built_bl (b : Bool) : builtD (.bl b) = true := id rfl
@[simp] theorem built_str (x : Str) : builtD (.str x) = true := id rfl
@[simp] theorem built_non : builtD .non = true := id rfl
@[simp] theorem built_lst (xs : List D) : builtD (.lst xs) = true := id rfl
@[simp] theorem built_tup (xs : List D) : builtD (.tup xs) = true := id rfl
@[simp] theorem built_dk (ks : List Key) (xs : List D) : builtD (.dk ks xs) = true := id rfl
@[simp] theorem built_sq (k : Bool) (xs : List D) : builtD (sq k xs) = true := by cases k <;> rfl
@[simp] theorem built_row (k : Bool) (a : List Int) : builtD (row k a) = true := built_sq k _
@[simp] theorem isInt_int (i : Int) : isInt (.int i) = true := id rfl
@[simp] theorem isBl_int (i : Int) : isBl (.int i) = false := id rfl
@[simp] theorem isLst_lst (xs : List D) : isLst (.lst xs) = true := id rfl
@[simp] theorem isTup_tup (xs : List D) : isTup (.tup xs) = true := id rfl
@[simp] theorem isSeq_sq (k : Bool) (xs : List D) : (isLst (sq k xs) || isTup (sq k xs)) = true := by cases k <;> rfl
@[simp] theorem isSeq_row (k : Bool) (a : List Int) : (isLst (row k a) || isTup (row k a)) = true := isSeq_sq k _
@[simp] theorem seqT_lst (xs : List D) : seqT (.lst xs) = .ret xs := rfl
@[simp] theorem seqT_tup (xs : List D) : seqT (.tup xs) = .ret xs := rfl
@[simp] theorem seqT_sq (k : Bool) (xs : List D) : seqT (sq k xs) = .ret xs := by cases k <;> rfl
@[simp] theorem seqT_row (k : Bool) (a : List Int) : seqT (row k a) = .ret (a.map D.int) := seqT_sq k _
@[simp] theorem truth_bl (b : Bool) : truthT (.bl b) = .ret b := rfl
@[simp] theorem truth_sq (k : Bool) (xs : List D) : truthT (sq k xs) = .ret (!xs.isEmpty) := by cases k <;> rfl
@[simp] theorem truth_lst (xs : List D) : truthT (.lst xs) = .ret (!xs.isEmpty) := rfl
@[simp] theorem truth_tup (xs : List D) : truthT (.tup xs) = .ret (!xs.isEmpty) := rfl
@[simp] theorem truth_int (i : Int) : truthT (.int i) = .ret (i != 0) := rfl
@[simp] theorem len_sq (k : Bool) (xs : List D) : lenT [sq k xs] = .ret (.int xs.length) := by cases k <;> rfl
@[simp] theorem len_lst (xs : List D) : lenT [.lst xs] = .ret (.int xs.length) := rfl
@[simp] theorem len_tup (xs : List D) : lenT [.tup xs] = .ret (.int xs.length) := rfl
@[simp] theorem tuple_sq (k : Bool) (xs : List D) : tupleT [sq k xs] = .ret (.tup xs) := by cases k <;> rfl
@[simp] theorem tuple_lst (xs : List D) : tupleT [.lst xs] = .ret (.tup xs) := rfl
@[simp] theorem list_sq (k : Bool) (xs : List D) : listT [sq k xs] = .ret xs := by cases k <;> rfl
@[simp] theorem list_tup (xs : List D) : listT [.tup xs] = .ret xs := rfl
@[simp] theorem list_lst (xs : List D) : listT [.lst xs] = .ret xs := rfl
@[simp] theorem ix_sq (k : Bool) (xs : List D) (i : Int) : ixT (sq k xs) (.int i) = optT (atI xs i) := by cases k <;> rfl
@[simp] theorem ix_lst (xs : List D) (i : Int) : ixT (.lst xs) (.int i) = optT (atI xs i) := rfl
@[simp] theorem ix_tup' (xs : List D) (i : Int) : ixT (.tup xs) (.int i) = optT (atI xs i) := rfl
@[simp] theorem len_row (k : Bool) (a : List Int) : lenT [row k a] = .ret (.int a.length) := by unfold row; rw [len_sq, List.length_map]
@[simp] theorem tuple_row (k : Bool) (a : List Int) : tupleT [row k a] = .ret (row false a) := by unfold row; rw [tuple_sq]; rfl
@[simp] theorem list_row (k : Bool) (a : List Int) : listT [row k a] = .ret (a.map D.int) := by unfold row; rw [list_sq]
@[simp] theorem ix_row (k : Bool) (a : List Int) (i : Int) : ixT (row k a) (.int i) = optT ((atI a i).map D.int) := by unfold row; rw [ix_sq, atI_map]
@[simp] theorem truth_row (k : Bool) (a : List Int) : truthT (row k a) = .ret (!a.isEmpty) := by unfold row; rw [truth_sq, List.isEmpty_map]
@[simp] theorem opt_some (d : D) : optT (some d) = .ret d := rfl
@[simp] theorem zip_sq (k l : Bool) (xs ys : List D) : zipT [sq k xs, sq l ys] = .ret (zips xs ys) := by unfold zipT; simp [-List.map_map, -List.getD_eq_getElem?_getD]
@[simp] theorem zip_lst (xs ys : List D) : zipT [.lst xs, .lst ys] = .ret (zips xs ys) := rfl
@[simp] theorem enum_sq (k : Bool) (xs : List D) : enumT [sq k xs] = .ret (enums 0 xs) := by unfold enumT; simp [-List.map_map, -List.getD_eq_getElem?_getD]
@[simp] theorem enum_lst (xs : List D) : enumT [.lst xs] = .ret (enums 0 xs) := rfl
@[simp] theorem addT_int (i j : Int) : addT (.int i) (.int j) = .ret (.int (i + j)) := rfl
@[simp] theorem subT_int (i j : Int) : subT (.int i) (.int j) = .ret (.int (i - j)) := rfl
@[simp] theorem cmpT_int (f : Int → Int → Bool) (i j : Int) : cmpT f (.int i) (.int j) = .ret (.bl (f i j)) := rfl
@[simp] theorem intOp_int (f : Int → Int → Int) (i j : Int) : intOp f (.int i) (.int j) = .ret (.int (f i j)) := rfl
@[simp] theorem abs_int (i : Int) : absT [.int i] = .ret (.int (if i < 0 then -i else i)) := rfl
@[simp] theorem int_int (i : Int) : intT [.int i] = .ret (.int i) := rfl
@[simp] theorem max_int (i j : Int) : maxT [.int i, .int j] = .ret (.int (if j > i then j else i)) := rfl
@[simp] theorem min_int (i j : Int) : minT [.int i, .int j] = .ret (.int (if j < i then j else i)) := rfl
@[simp] theorem gcd_int (i j : Int) : gcdT [.int i, .int j] = .ret (.int (Nat.gcd i.natAbs j.natAbs : Nat)) := rfl
@[simp] theorem is_non (d : D) : isT d .non = .ret (.bl (isNon d)) := by cases d <;> rfl
@[simp] theorem isNot_non (d : D) : isNotT d .non = .ret (.bl (!isNon d)) := by cases d <;> rfl
@[simp] theorem is_bl (a b : Bool) : isT (.bl a) (.bl b) = .ret (.bl (decide (a = b))) := rfl
@[simp] theorem isNot_bl (a b : Bool) : isNotT (.bl a) (.bl b) = .ret (.bl (!decide (a = b))) := rfl
theorem all_bls (bs : List Bool) : allT [.lst (bs.map D.bl)] = .ret (.bl (bs.all id)) := by unfold allT; simp [-List.map_map, -List.getD_eq_getElem?_getD]
theorem any_bls (bs : List Bool) : anyT [.lst (bs.map D.bl)] = .ret (.bl (bs.any id)) := by unfold anyT; simp [-List.map_map, -List.getD_eq_getElem?_getD]
theorem sum_ints (is : List Int) : sumT [.lst (is.map D.int)] = .ret (.int is.sum) := by unfold sumT; simp [-List.map_map, -List.getD_eq_getElem?_getD]
@[simp] theorem all_map {α : Type} (b : α → Bool) (xs : List α) : allT [.lst (xs.map fun x => D.bl (b x))] = .ret (.bl (xs.all b)) := by
  have := all_bls (xs.map b)
  rw [List.map_map, List.all_map] at this
  exact this
@[simp] theorem any_map {α : Type} (b : α → Bool) (xs : List α) : anyT [.lst (xs.map fun x => D.bl (b x))] = .ret (.bl (xs.any b)) := by
  have := any_bls (xs.map b)
  rw [List.map_map, List.any_map] at this
  exact this
@[simp] theorem sum_map {α : Type} (b : α → Int) (xs : List α) : sumT [.lst (xs.map fun x => D.int (b x))] = .ret (.int (xs.map b).sum) := by
  have := sum_ints (xs.map b)
  rw [List.map_map] at this
  exact this
theorem eqT_D {x y : D} (hx : okD 60 x = true) (hy : okD 60 y = true) (h : ∀ a b, ¬ (x = .str a ∧ y = .str b)) : eqT x y = .ret (.bl ((py x).eqv (py y))) := by
  unfold eqT
  split
  · exact absurd ⟨rfl, rfl⟩ (h _ _)
  · exact if_pos ⟨hx, hy⟩
theorem neT_D {x y : D} (hx : okD 60 x = true) (hy : okD 60 y = true) (h : ∀ a b, ¬ (x = .str a ∧ y = .str b)) : neT x y = .ret (.bl (!(py x).eqv (py y))) := by
  unfold neT
  split
  · exact absurd ⟨rfl, rfl⟩ (h _ _)
  · exact if_pos ⟨hx, hy⟩
@[simp] theorem eqT_int (i j : Int) : eqT (.int i) (.int j) = .ret (.bl (decide (i = j))) := by
  rw [eqT_D rfl rfl fun a b h => D.noConfusion h.1]
  congr 2
@[simp] theorem neT_int (i j : Int) : neT (.int i) (.int j) = .ret (.bl (!decide (i = j))) := by
  rw [neT_D rfl rfl fun a b h => D.noConfusion h.1]
  congr 3
@[simp] theorem eqT_str (a b : Str) : eqT (.str a) (.str b) = .ret (.bl (decide (a = b))) := rfl
@[simp] theorem neT_str (a b : Str) : neT (.str a) (.str b) = .ret (.bl (!decide (a = b))) := rfl
theorem mulT_ok {i j : Int} (hi : i.natAbs < 2 ^ 400000) (hj : j.natAbs < 2 ^ 400000) : mulT (.int i) (.int j) = .ret (.int (i * j)) := if_pos (mulW hi hj)
@[simp] theorem rng1_ok {n : Int} (h0 : -(2 ^ 62) ≤ n) (h1 : n < 2 ^ 62) : rng1T [.int n] = .ret (irng 0 n.toNat) := if_pos ⟨h0, h1⟩
theorem rng2_ok {m n : Int} (h0 : -(2 ^ 62) ≤ m) (h1 : m < 2 ^ 62) (h2 : -(2 ^ 62) ≤ n) (h3 : n < 2 ^ 62) : rng2T [.int m, .int n] = .ret (irng m (n - m).toNat) := if_pos ⟨h0, h1, h2, h3⟩
theorem lcGo_map {f : D → T (List D)} {g : D → D} : ∀ {xs : List D}, (∀ x ∈ xs, f x = .ret [g x]) → lcGo f xs = .ret (xs.map g)
  | [], _ => rfl
  | x :: xs, h => by
    show (f x).bind _ = _
    rw [h x (List.mem_cons_self ..)]
    show (lcGo f xs).bind _ = _
    rw [lcGo_map fun y hy => h y (List.mem_cons_of_mem _ hy)]
    rfl
theorem lcGo_flat {f : D → T (List D)} {g : D → List D} : ∀ {xs : List D}, (∀ x ∈ xs, f x = .ret (g x)) → lcGo f xs = .ret (xs.flatMap g)
  | [], _ => rfl
  | x :: xs, h => by
    show (f x).bind _ = _
    rw [h x (List.mem_cons_self ..)]
    show (lcGo f xs).bind _ = _
    rw [lcGo_flat fun y hy => h y (List.mem_cons_of_mem _ hy)]
    rfl
theorem cap_ok {xs : List D} (h : xs.length ≤ 100000) : capT xs = .ret xs := if_pos h
section
variable {vs vs1 : List Nat} {mi mi1 : MA} {tg tg1 : Tg} {mt mt1 : MB} {me : ME} {ds : Sts} {xs : List D}
/-- [g(x) for x in xs] -/
theorem lc_eq (g : D → D) (hn : noOwnAt ds vs = true) (hi : mi ds = .ret xs) (hl : xs.length ≤ 100000) (h : ∀ x ∈ xs, ∃ ds1, tg.put x (wipeD ds vs) = some ds1 ∧ mt ds1 = .ret true ∧ me ds1 = .ret (g x)) : mLc vs mi tg mt me ds = .ret (xs.map g) := by
  unfold mLc
  rw [if_pos hn, hi, T.bind_ret, lcGo_map (g := g), T.bind_ret, cap_ok (by rw [List.length_map]; exact hl)]
  intro x hx
  obtain ⟨ds1, e, h1, h2⟩ := h x hx
  rw [e]
  show (mt ds1).bind _ = _
  rw [h1]
  show (me ds1).bind _ = _
  rw [h2]
  rfl
/-- [g(x) for x in xs if b(x)] -/
theorem lc_if (b : D → Bool) (g : D → D) (hn : noOwnAt ds vs = true) (hi : mi ds = .ret xs) (hl : (xs.filter b).length ≤ 100000) (h : ∀ x ∈ xs, ∃ ds1, tg.put x (wipeD ds vs) = some ds1 ∧ mt ds1 = .ret (b x) ∧ (b x = true → me ds1 = .ret (g x))) : mLc vs mi tg mt me ds = .ret ((xs.filter b).map g) := by
  unfold mLc
  rw [if_pos hn, hi, T.bind_ret, lcGo_flat (g := fun x => if b x = true then [g x] else []), T.bind_ret]
  · have e : xs.flatMap (fun x => if b x = true then [g x] else []) = (xs.filter b).map g := by
      clear h hi hl
      induction xs with
      | nil => rfl
      | cons x xs ih =>
        rw [List.flatMap_cons, ih, List.filter_cons]
        cases b x <;> rfl
    rw [e, cap_ok (by rw [List.length_map]; exact hl)]
  · intro x hx
    obtain ⟨ds1, e, h1, h2⟩ := h x hx
    rw [e]
    show (mt ds1).bind _ = _
    rw [h1]
    cases hb : b x with
    | true =>
      show (me ds1).bind _ = _
      rw [h2 hb]
      rfl
    | false => rfl
/-- [g(x, y) for x in xs if b(x) for y in ys(x) if c(x, y)] -/
theorem lc2_eq (b : D → Bool) (ys : D → List D) (c : D → D → Bool) (g : D → D → D) (hn : noOwnAt ds vs = true) (hn1 : noOwnAt ds vs1 = true) (hi : mi ds = .ret xs) (hl : ((xs.filter b).flatMap fun x => ((ys x).filter (c x)).map (g x)).length ≤ 100000)
    (h : ∀ x ∈ xs, ∃ ds1, tg.put x (wipeD ds vs) = some ds1 ∧ mt ds1 = .ret (b x) ∧ (b x = true → mi1 ds1 = .ret (ys x) ∧ ∀ y ∈ ys x, ∃ ds2, tg1.put y (wipeD ds1 vs1) = some ds2 ∧ mt1 ds2 = .ret (c x y) ∧ (c x y = true → me ds2 = .ret (g x y)))) :
    mLc2 vs vs1 mi tg mt mi1 tg1 mt1 me ds = .ret ((xs.filter b).flatMap fun x => ((ys x).filter (c x)).map (g x)) := by
  unfold mLc2
  rw [if_pos ⟨hn, hn1⟩, hi, T.bind_ret, lcGo_flat (g := fun x => if b x = true then ((ys x).filter (c x)).map (g x) else []), T.bind_ret]
  · have e : xs.flatMap (fun x => if b x = true then ((ys x).filter (c x)).map (g x) else []) = (xs.filter b).flatMap fun x => ((ys x).filter (c x)).map (g x) := by
      clear h hi hl
      induction xs with
      | nil => rfl
      | cons x xs ih =>
        rw [List.flatMap_cons, ih, List.filter_cons]
        cases b x <;> rfl
    rw [e, cap_ok hl]
  · intro x hx
    obtain ⟨ds1, e, h1, h2⟩ := h x hx
    rw [e]
    show (mt ds1).bind _ = _
    rw [h1]
    cases hb : b x with
    | false => rfl
    | true =>
      obtain ⟨h3, h4⟩ := h2 hb
      show (mi1 ds1).bind _ = _
      rw [h3, T.bind_ret, if_pos rfl, lcGo_flat (g := fun y => if c x y = true then [g x y] else [])]
      · congr 1
        clear h3 h4
        induction ys x with
        | nil => rfl
        | cons y l ih =>
          rw [List.flatMap_cons, ih, List.filter_cons]
          cases c x y <;> rfl
      · intro y hy
        obtain ⟨ds2, e2, h5, h6⟩ := h4 y hy
        rw [e2]
        show (mt1 ds2).bind _ = _
        rw [h5]
        cases hc : c x y with
        | true =>
          show (me ds2).bind _ = _
          rw [h6 hc]
          rfl
        | false => rfl
end
/-- a loop whose turns go on, over states of one shape -/
theorem for_fold {S : Type} {f : D → Sts → T Fl} {E : S → Sts} {g : S → D → S} : ∀ {xs : List D} {s : S}, (∀ (pre : List D) (x : D) (post : List D), xs = pre ++ x :: post → f x (E (pre.foldl g s)) = .ret (.nx (E (g (pre.foldl g s) x)))) → forGo f xs (E s) = .ret (.nx (E (xs.foldl g s)))
  | [], s, _ => rfl
  | x :: xs, s, h => by
    show (f x (E s)).bind _ = _
    have h1 : f x (E s) = .ret (.nx (E (g s x))) := h [] x xs rfl
    rw [h1]
    show forGo f xs (E (g s x)) = _
    exact for_fold fun pre y post e => by
      have := h (x :: pre) y post (by rw [e]; rfl)
      exact this
theorem for_inv {S : Type} {f : D → Sts → T Fl} {E : S → Sts} {g : S → D → S} (I : S → Prop) : ∀ {xs : List D} {s : S}, I s → (∀ x ∈ xs, ∀ s, I s → f x (E s) = .ret (.nx (E (g s x))) ∧ I (g s x)) → forGo f xs (E s) = .ret (.nx (E (xs.foldl g s))) ∧ I (xs.foldl g s)
  | [], s, i, _ => ⟨rfl, i⟩
  | x :: xs, s, i, h => by
    obtain ⟨h1, h2⟩ := h x (List.mem_cons_self ..) s i
    have ih := for_inv I (xs := xs) h2 fun y hy => h y (List.mem_cons_of_mem _ hy)
    refine ⟨?_, ih.2⟩
    show (f x (E s)).bind _ = _
    rw [h1]
    exact ih.1
theorem for_cnt_aux {f : D → Sts → T Fl} {E : Nat → Sts} : ∀ {xs : List D} {m : Nat}, (∀ i x, xs[i]? = some x → f x (E (m + i)) = .ret (.nx (E (m + i + 1)))) → forGo f xs (E m) = .ret (.nx (E (m + xs.length)))
  | [], m, _ => rfl
  | x :: xs, m, h => by
    show (f x (E m)).bind _ = _
    have h1 : f x (E m) = .ret (.nx (E (m + 1))) := h 0 x rfl
    rw [h1]
    show forGo f xs (E (m + 1)) = _
    rw [for_cnt_aux (m := m + 1) fun i y hi => by
      have := h (i + 1) y hi
      rw [show m + 1 + i = m + (i + 1) from by omega]
      exact this, List.length_cons, show m + 1 + xs.length = m + (xs.length + 1) from by omega]
/-- a loop whose turns are counted -/
theorem for_cnt {f : D → Sts → T Fl} {xs : List D} (E : Nat → Sts) (h : ∀ i x, xs[i]? = some x → f x (E i) = .ret (.nx (E (i + 1)))) : forGo f xs (E 0) = .ret (.nx (E xs.length)) := by
  have := for_cnt_aux (f := f) (E := E) (xs := xs) (m := 0) fun i x hi => by rw [Nat.zero_add]; exact h i x hi
  rw [Nat.zero_add] at this
  exact this
@[simp] theorem enums_length : ∀ (xs : List D) (n : Nat), (enums n xs).length = xs.length
  | [], _ => rfl
  | x :: xs, n => by rw [enums, List.length_cons, enums_length xs, List.length_cons]
@[simp] theorem irng_length (lo : Int) (n : Nat) : (irng lo n).length = n := by unfold irng; simp [-List.map_map, -List.getD_eq_getElem?_getD]
theorem irng_get {lo : Int} {n i : Nat} {d : D} (h : (irng lo n)[i]? = some d) : i < n ∧ d = .int (lo + i) := by
  unfold irng at h
  rw [List.getElem?_map, Option.map_eq_some_iff] at h
  obtain ⟨j, e, rfl⟩ := h
  obtain ⟨h1, e⟩ := List.getElem?_eq_some_iff.mp e
  rw [List.length_range] at h1
  rw [List.getElem_range] at e
  exact ⟨h1, by rw [e]⟩
@[simp] theorem sl_lst (xs : List D) (lo hi : Option Int) : slT (.lst xs) lo hi = .ret (.lst (cut xs lo hi)) := rfl
@[simp] theorem sl_tup (xs : List D) (lo hi : Option Int) : slT (.tup xs) lo hi = .ret (.tup (cut xs lo hi)) := rfl
@[simp] theorem sl_sq (k : Bool) (xs : List D) (lo hi : Option Int) : slT (sq k xs) lo hi = .ret (sq k (cut xs lo hi)) := by cases k <;> rfl
@[simp] theorem rev_lst (xs : List D) : revT (.lst xs) none none (some (-1)) = .ret xs.reverse := rfl
@[simp] theorem addT_lst {xs ys : List D} (h : xs.length + ys.length ≤ 100000) : addT (.lst xs) (.lst ys) = .ret (.lst (xs ++ ys)) := if_pos h
@[simp] theorem addT_tup {xs ys : List D} (h : xs.length + ys.length ≤ 100000) : addT (.tup xs) (.tup ys) = .ret (.tup (xs ++ ys)) := if_pos h
theorem atI_nat {α : Type} (xs : List α) (i : Nat) (h : i < xs.length) : atI xs (i : Int) = some xs[i] := by
  unfold atI ixN
  rw [if_pos (Int.natCast_nonneg i), if_pos (by omega)]
  exact List.getElem?_eq_getElem h
theorem atI_last {α : Type} (xs : List α) (x : α) : atI (xs ++ [x]) (-1) = some x := by
  unfold atI ixN
  have e : (xs ++ [x]).length = xs.length + 1 := by rw [List.length_append]; rfl
  rw [e, if_neg (by omega), if_pos (by omega), show (-1 + ((xs.length + 1 : Nat) : Int)).toNat = xs.length from by omega]
  show (xs ++ [x])[xs.length]? = _
  rw [List.getElem?_append_right (Nat.le_refl _), Nat.sub_self]
  rfl
/-- rows, lists and tuples -/
def tab (k : Bool) (ps : List (Bool × List Int)) : D := sq k (ps.map fun p => row p.1 p.2)
/-- rows that are lists -/
def mat (rows : List (List Int)) : D := .lst (rows.map (row true))
theorem mat_tab (rows : List (List Int)) : mat rows = tab true (rows.map fun a => (true, a)) := by unfold mat tab; rw [List.map_map]; rfl
section
variable (k : Bool) (ps : List (Bool × List Int)) (rows : List (List Int))
@[simp] theorem built_tab : builtD (tab k ps) = true := built_sq k _
@[simp] theorem isSeq_tab : (isLst (tab k ps) || isTup (tab k ps)) = true := isSeq_sq k _
@[simp] theorem len_tab : lenT [tab k ps] = .ret (.int ps.length) := by unfold tab; rw [len_sq, List.length_map]
@[simp] theorem truth_tab : truthT (tab k ps) = .ret (!ps.isEmpty) := by unfold tab; rw [truth_sq, List.isEmpty_map]
@[simp] theorem seqT_tab : seqT (tab k ps) = .ret (ps.map fun p => row p.1 p.2) := seqT_sq k _
@[simp] theorem ix_tab (i : Int) : ixT (tab k ps) (.int i) = optT ((L2.atI ps i).map fun p => row p.1 p.2) := by unfold tab; rw [ix_sq, atI_map]
@[simp] theorem tuple_tab : tupleT [tab k ps] = .ret (tab false ps) := tuple_sq k _
@[simp] theorem list_tab : listT [tab k ps] = .ret (ps.map fun p => row p.1 p.2) := list_sq k _
@[simp] theorem sl_tab (lo hi : Option Int) : slT (tab k ps) lo hi = .ret (tab k ((ps.drop (HT.sIx ps.length 0 lo)).take (HT.sIx ps.length ps.length hi - HT.sIx ps.length 0 lo))) := by
  unfold tab
  rw [sl_sq]
  unfold cut
  rw [List.length_map, List.map_take, List.map_drop]
@[simp] theorem built_mat : builtD (mat rows) = true := id rfl
@[simp] theorem isLst_mat : isLst (mat rows) = true := id rfl
@[simp] theorem len_mat : lenT [mat rows] = .ret (.int rows.length) := by unfold mat; rw [len_lst, List.length_map]
@[simp] theorem truth_mat : truthT (mat rows) = .ret (!rows.isEmpty) := by unfold mat; rw [truth_lst, List.isEmpty_map]
@[simp] theorem seqT_mat : seqT (mat rows) = .ret (rows.map (row true)) := rfl
@[simp] theorem ix_mat (i : Int) : ixT (mat rows) (.int i) = optT ((L2.atI rows i).map (row true)) := by unfold mat; rw [ix_lst, atI_map]
@[simp] theorem tuple_mat : tupleT [mat rows] = .ret (tab false (rows.map fun a => (true, a))) := by rw [mat_tab, tuple_tab]
end
theorem row_cut (k : Bool) (a : List Int) (lo hi : Option Int) : slT (row k a) lo hi = .ret (row k ((a.drop (HT.sIx a.length 0 lo)).take (HT.sIx a.length a.length hi - HT.sIx a.length 0 lo))) := by
  unfold row
  rw [sl_sq]
  unfold cut
  rw [List.length_map, List.map_take, List.map_drop]
theorem sl_to {α : Type} {xs : List α} {i : Int} (h0 : 0 ≤ i) : (xs.drop (HT.sIx xs.length 0 none)).take (HT.sIx xs.length xs.length (some i) - HT.sIx xs.length 0 none) = xs.take i.toNat := by
  obtain ⟨n, rfl⟩ : ∃ n : Nat, i = n := ⟨i.toNat, by omega⟩
  rw [HT.sIx_none, HT.sIx_nat, List.drop_zero, Nat.sub_zero, Int.toNat_natCast]
  by_cases z : n ≤ xs.length
  · rw [Nat.min_eq_left z]
  · rw [Nat.min_eq_right (by omega), List.take_length, List.take_of_length_le (by omega)]
theorem sl_from {α : Type} {xs : List α} {i : Int} (h0 : 0 ≤ i) : (xs.drop (HT.sIx xs.length 0 (some i))).take (HT.sIx xs.length xs.length none - HT.sIx xs.length 0 (some i)) = xs.drop i.toNat := by
  obtain ⟨n, rfl⟩ : ∃ n : Nat, i = n := ⟨i.toNat, by omega⟩
  rw [HT.sIx_none, HT.sIx_nat, Int.toNat_natCast]
  by_cases z : n ≤ xs.length
  · rw [Nat.min_eq_left z, List.take_of_length_le (by rw [List.length_drop]; exact Nat.le_refl _)]
  · rw [Nat.min_eq_right (by omega), List.drop_length, List.drop_eq_nil_of_le (by omega), List.take_nil]
@[simp] theorem atI_cons0 {α : Type} (x : α) (xs : List α) : L2.atI (x :: xs) 0 = some x := atI_zero
theorem for_cnt' {mi : MA} {tg : Tg} {ms : MS} {ds : Sts} (xs : List D) (E : Nat → Sts) (hE : ds = E 0) (hi : mi ds = .ret xs) (h : ∀ i x, xs[i]? = some x → ∃ ds1, tg.put x (E i) = some ds1 ∧ ms ds1 = .ret (.nx (E (i + 1)))) : mFor mi tg ms ds = .ret (.nx (E xs.length)) := by
  unfold mFor
  rw [hi, T.bind_ret, hE]
  refine for_cnt E fun i x e => ?_
  obtain ⟨ds1, h1, h2⟩ := h i x e
  rw [h1]
  exact h2
section
variable {α : Type} {vs vs1 : List Nat} {mi mi1 : MA} {tg tg1 : Tg} {mt mt1 : MB} {me : ME} {ds : Sts}
theorem lcGo_maps {f : D → T (List D)} (k : α → D) (g : α → List D) : ∀ {xs : List α}, (∀ x ∈ xs, f (k x) = .ret (g x)) → lcGo f (xs.map k) = .ret (xs.flatMap g)
  | [], _ => rfl
  | x :: xs, h => by
    show (f (k x)).bind _ = _
    rw [h x (List.mem_cons_self ..)]
    show (lcGo f (xs.map k)).bind _ = _
    rw [lcGo_maps k g fun y hy => h y (List.mem_cons_of_mem _ hy)]
    rfl
theorem flat_one (g : α → D) : ∀ xs : List α, xs.flatMap (fun x => [g x]) = xs.map g
  | [] => rfl
  | x :: xs => by rw [List.flatMap_cons, flat_one g xs]; rfl
/-- [g(x) for x in xs], the things walked being the k(x) -/
theorem lc_map (k g : α → D) (xs : List α) (hn : noOwnAt ds vs = true) (hi : mi ds = .ret (xs.map k)) (hl : xs.length ≤ 100000) (h : ∀ x ∈ xs, ∃ ds1, tg.put (k x) (wipeD ds vs) = some ds1 ∧ mt ds1 = .ret true ∧ me ds1 = .ret (g x)) : mLc vs mi tg mt me ds = .ret (xs.map g) := by
  unfold mLc
  rw [if_pos hn, hi, T.bind_ret, lcGo_maps k (fun x => [g x]), T.bind_ret, flat_one, cap_ok (by rw [List.length_map]; exact hl)]
  intro x hx
  obtain ⟨ds1, e, h1, h2⟩ := h x hx
  rw [e]
  show (mt ds1).bind _ = _
  rw [h1]
  show (me ds1).bind _ = _
  rw [h2]
  rfl
theorem flat_if (b : α → Bool) (g : α → D) : ∀ xs : List α, xs.flatMap (fun x => if b x = true then [g x] else []) = (xs.filter b).map g
  | [] => rfl
  | x :: xs => by
    rw [List.flatMap_cons, flat_if b g xs, List.filter_cons]
    cases b x <;> rfl
theorem lc_mapIf (k g : α → D) (b : α → Bool) (xs : List α) (hn : noOwnAt ds vs = true) (hi : mi ds = .ret (xs.map k)) (hl : (xs.filter b).length ≤ 100000) (h : ∀ x ∈ xs, ∃ ds1, tg.put (k x) (wipeD ds vs) = some ds1 ∧ mt ds1 = .ret (b x) ∧ (b x = true → me ds1 = .ret (g x))) : mLc vs mi tg mt me ds = .ret ((xs.filter b).map g) := by
  unfold mLc
  rw [if_pos hn, hi, T.bind_ret, lcGo_maps k (fun x => if b x = true then [g x] else []), T.bind_ret, flat_if, cap_ok (by rw [List.length_map]; exact hl)]
  intro x hx
  obtain ⟨ds1, e, h1, h2⟩ := h x hx
  rw [e]
  show (mt ds1).bind _ = _
  rw [h1]
  cases hb : b x with
  | true =>
    show (me ds1).bind _ = _
    rw [h2 hb]
    rfl
  | false => rfl
theorem lc2_map {β : Type} (k : α → D) (k1 : β → D) (ys : α → List β) (c : α → β → Bool) (g : α → β → D) (xs : List α) (hn : noOwnAt ds vs = true) (hn1 : noOwnAt ds vs1 = true) (hi : mi ds = .ret (xs.map k)) (hl : (xs.flatMap fun x => ((ys x).filter (c x)).map (g x)).length ≤ 100000)
    (h : ∀ x ∈ xs, ∃ ds1, tg.put (k x) (wipeD ds vs) = some ds1 ∧ mt ds1 = .ret true ∧ mi1 ds1 = .ret ((ys x).map k1) ∧ ∀ y ∈ ys x, ∃ ds2, tg1.put (k1 y) (wipeD ds1 vs1) = some ds2 ∧ mt1 ds2 = .ret (c x y) ∧ (c x y = true → me ds2 = .ret (g x y))) :
    mLc2 vs vs1 mi tg mt mi1 tg1 mt1 me ds = .ret (xs.flatMap fun x => ((ys x).filter (c x)).map (g x)) := by
  unfold mLc2
  rw [if_pos ⟨hn, hn1⟩, hi, T.bind_ret, lcGo_maps k (fun x => ((ys x).filter (c x)).map (g x)), T.bind_ret, cap_ok hl]
  intro x hx
  obtain ⟨ds1, e, h1, h3, h4⟩ := h x hx
  rw [e]
  show (mt ds1).bind _ = _
  rw [h1]
  show (mi1 ds1).bind _ = _
  rw [h3, T.bind_ret, lcGo_maps k1 (fun y => if c x y = true then [g x y] else []), flat_if]
  intro y hy
  obtain ⟨ds2, e2, h5, h6⟩ := h4 y hy
  rw [e2]
  show (mt1 ds2).bind _ = _
  rw [h5]
  cases hc : c x y with
  | true =>
    show (me ds2).bind _ = _
    rw [h6 hc]
    rfl
  | false => rfl
end
@[simp] theorem neg_int (i : Int) : negT (.int i) = .ret (.int (-i)) := rfl
@[simp] theorem mat_from (rows : List (List Int)) {i : Int} (h : 0 ≤ i) : slT (mat rows) (some i) none = .ret (mat (rows.drop i.toNat)) := by
  unfold mat
  rw [sl_lst, cut_drop h, List.map_drop]
@[simp] theorem mat_to (rows : List (List Int)) {i : Int} (h : 0 ≤ i) : slT (mat rows) none (some i) = .ret (mat (rows.take i.toNat)) := by
  unfold mat
  rw [sl_lst, cut_take h, List.map_take]
@[simp] theorem row_from (k : Bool) (a : List Int) {i : Int} (h : 0 ≤ i) : slT (row k a) (some i) none = .ret (row k (a.drop i.toNat)) := by
  rw [row_cut, sl_from h]
@[simp] theorem row_to (k : Bool) (a : List Int) {i : Int} (h : 0 ≤ i) : slT (row k a) none (some i) = .ret (row k (a.take i.toNat)) := by
  rw [row_cut, sl_to h]
theorem addT_row {k : Bool} {a b : List Int} (h : a.length + b.length ≤ 100000) : addT (row k a) (row k b) = .ret (row k (a ++ b)) := by
  cases k with
  | true =>
    show addT (.lst _) (.lst _) = .ret (.lst _)
    rw [addT_lst (by rw [List.length_map, List.length_map]; exact h), List.map_append]
  | false =>
    show addT (.tup _) (.tup _) = .ret (.tup _)
    rw [addT_tup (by rw [List.length_map, List.length_map]; exact h), List.map_append]
/-- a loop whose turns go on: a fold over the xs, the things walked being the k(x) -/
theorem for_map {α S : Type} {mi : MA} {tg : Tg} {ms : MS} {ds : Sts} (k : α → D) (E : S → Sts) (g : S → α → S) (I : S → Prop) (xs : List α) (s : S) (hE : ds = E s) (hI : I s) (hi : mi ds = .ret (xs.map k)) (h : ∀ x ∈ xs, ∀ s, I s → I (g s x) ∧ ∃ ds1, tg.put (k x) (E s) = some ds1 ∧ ms ds1 = .ret (.nx (E (g s x)))) : mFor mi tg ms ds = .ret (.nx (E (xs.foldl g s))) := by
  unfold mFor
  rw [hi, T.bind_ret, hE]
  clear hE hi
  induction xs generalizing s with
  | nil => rfl
  | cons x xs ih =>
    obtain ⟨h1, ds1, h2, h3⟩ := h x (List.mem_cons_self ..) s hI
    show (optP (tg.put (k x) (E s)) ms).bind _ = _
    rw [h2]
    show (ms ds1).bind _ = _
    rw [h3]
    exact ih (g s x) h1 fun y hy => h y (List.mem_cons_of_mem _ hy)
theorem rng1_nat {k : Nat} (h : k ≤ 1000000) : rng1T [.int (k : Int)] = .ret ((List.range k).map fun i : Nat => D.int (i : Int)) := by
  have e : irng 0 k = (List.range k).map fun i : Nat => D.int (i : Int) := by
    unfold irng
    congr 1
    funext i
    rw [Int.zero_add]
  rw [rng1_ok (by omega) (by omega), Int.toNat_natCast, e]
theorem ok_row1 (k : Bool) (a : List Int) (n : Nat) : okD (n + 1) (row k a) = true := by
  have h : (a.map D.int).all (okD n) = true := List.all_eq_true.mpr fun d hd => by
    obtain ⟨i, _, rfl⟩ := List.mem_map.mp hd
    cases n <;> rfl
  cases k <;> exact h
theorem ok_mat (rows : List (List Int)) (n : Nat) : okD (n + 2) (mat rows) = true :=
  List.all_eq_true.mpr fun d hd => by
    obtain ⟨a, _, rfl⟩ := List.mem_map.mp hd
    exact ok_row1 true a n
theorem eqT_mat_nil (rows : List (List Int)) : eqT (mat rows) (.lst []) = .ret (.bl rows.isEmpty) := by
  rw [eqT_D (ok_mat rows 58) rfl fun a b h => D.noConfusion h.2]
  cases rows with
  | nil => rfl
  | cons r rs => rfl
theorem rng1_int {z : Int} (h0 : -1000000 ≤ z) (h1 : z ≤ 1000000) : rng1T [.int z] = .ret ((List.range z.toNat).map fun i : Nat => D.int (i : Int)) := by
  have e : irng 0 z.toNat = (List.range z.toNat).map fun i : Nat => D.int (i : Int) := by
    unfold irng
    congr 1
    funext i
    rw [Int.zero_add]
  rw [rng1_ok (by omega) (by omega), e]
theorem flat_len {α β : Type} (f : α → List β) (K : Nat) : ∀ xs : List α, (∀ x ∈ xs, (f x).length ≤ K) → (xs.flatMap f).length ≤ xs.length * K
  | [], _ => Nat.zero_le _
  | x :: xs, h => by
    rw [List.flatMap_cons, List.length_append, List.length_cons, Nat.add_mul]
    have := flat_len f K xs fun y hy => h y (List.mem_cons_of_mem _ hy)
    have := h x (List.mem_cons_self ..)
    omega
@[simp] theorem mod_int {i j : Int} (h : 0 < j) : modT (.int i) (.int j) = .ret (.int (i % j)) := if_pos h
theorem flat_ext {α β : Type} {xs : List α} {f g : α → List β} (h : ∀ x ∈ xs, f x = g x) : xs.flatMap f = xs.flatMap g := by
  induction xs with
  | nil => rfl
  | cons x xs ih => rw [List.flatMap_cons, List.flatMap_cons, h x (List.mem_cons_self ..), ih fun y hy => h y (List.mem_cons_of_mem _ hy)]
/-! ### what is shown -/
theorem repr_gd {B : Nat} {d : D} (h : gd 20 B d) (hB : B ≤ 10000000) : reprT [d] = .ret (.str (py d).shown) := by
  refine if_pos ?_
  unfold okRepr
  rw [h.1, h.2.2, decide_eq_true (Nat.le_trans h.2.1 hB)]
  rfl
/-- the same, not looked through -/
@[irreducible] def T.wq {α : Type} (p : Addr → Prop) (t : T α) (P : α → Prop) : Prop := t.wp p P
theorem T.wq_iff {α : Type} {p : Addr → Prop} {t : T α} {P : α → Prop} : t.wq p P ↔ t.wp p P := by unfold T.wq; exact Iff.rfl
@[simp] theorem T.wq_ret {α : Type} (p : Addr → Prop) (a : α) (P : α → Prop) : (T.ret a).wq p P = P a := by unfold T.wq; rfl
@[simp] theorem T.wq_draw {α : Type} (p : Addr → Prop) (a : Addr) (n : Int) (k : Int → T α) (P : α → Prop) : (T.draw a n k).wq p P = (p a ∧ 0 < n ∧ n < 1073741824 ∧ ∀ i, 0 ≤ i → i < n → (k i).wq p P) := by unfold T.wq; rfl
theorem T.wq_bad {α : Type} {p : Addr → Prop} {P : α → Prop} : (T.bad : T α).wq p P = False := by unfold T.wq; rfl
theorem T.wq_bind {α β : Type} {p : Addr → Prop} {f : α → T β} {P : β → Prop} {t : T α} : (t.bind f).wq p P ↔ t.wq p fun a => (f a).wq p P := by
  unfold T.wq
  exact T.wp_bind
theorem T.wq_mono {α : Type} {p : Addr → Prop} {P Q : α → Prop} {t : T α} (h : ∀ a, P a → Q a) (w : t.wq p P) : t.wq p Q := T.wq_iff.mpr (T.wp_mono h (T.wq_iff.mp w))
/-! ### with draws -/
inductive All2 {α β : Type} (R : α → β → Prop) : List α → List β → Prop where
  | nil : All2 R [] []
  | cons {x y xs ys} : R x y → All2 R xs ys → All2 R (x :: xs) (y :: ys)
theorem All2.len {α β : Type} {R : α → β → Prop} : ∀ {xs : List α} {ys : List β}, All2 R xs ys → ys.length = xs.length
  | _, _, .nil => rfl
  | _, _, .cons _ t => by rw [List.length_cons, List.length_cons, All2.len t]
theorem All2.right {α β : Type} {R : α → β → Prop} {Q : β → Prop} (h : ∀ x y, R x y → Q y) : ∀ {xs : List α} {ys : List β}, All2 R xs ys → ∀ y ∈ ys, Q y
  | _, _, .nil, _, hy => nomatch hy
  | _, _, .cons r t, y, hy => (List.mem_cons.mp hy).elim (fun e => by rw [e]; exact h _ _ r) (All2.right h t y)
theorem All2.map_eq {α β γ : Type} {f : α → γ} {g : β → γ} : ∀ {xs : List α} {ys : List β}, All2 (fun x y => g y = f x) xs ys → ys.map g = xs.map f
  | _, _, .nil => rfl
  | _, _, .cons r t => by rw [List.map_cons, List.map_cons, r, All2.map_eq t]
theorem lcGo_wp {α β : Type} {p : Addr → Prop} {f : D → T (List D)} (k : α → D) (u : β → D) (R : α → β → Prop) : ∀ {xs : List α} {P : List D → Prop}, (∀ x ∈ xs, (f (k x)).wp p fun l => ∃ b, l = [u b] ∧ R x b) → (∀ bs, All2 R xs bs → P (bs.map u)) → (lcGo f (xs.map k)).wp p P
  | [], P, _, q => q [] .nil
  | x :: xs, P, h, q => by
    show ((f (k x)).bind _).wp p P
    refine T.wp_bind.mpr ((T.wp_mono fun l => ?_) (h x (List.mem_cons_self ..)))
    rintro ⟨b, rfl, r⟩
    refine T.wp_bind.mpr (lcGo_wp k u R (fun y hy => h y (List.mem_cons_of_mem _ hy)) fun bs hb => ?_)
    exact q (b :: bs) (.cons r hb)
/-- [g(x) for x in xs], the g drawing -/
theorem lc_wp0 {α β : Type} {p : Addr → Prop} {vs : List Nat} {mi : MA} {tg : Tg} {mt : MB} {me : ME} {ds : Sts} {P : List D → Prop} (k : α → D) (u : β → D) (R : α → β → Prop) (xs : List α) (hn : noOwnAt ds vs = true) (hi : mi ds = .ret (xs.map k)) (hl : xs.length ≤ 100000)
    (h : ∀ x ∈ xs, ∃ ds1, tg.put (k x) (wipeD ds vs) = some ds1 ∧ mt ds1 = .ret true ∧ (me ds1).wp p fun d => ∃ b, d = u b ∧ R x b) (q : ∀ bs, All2 R xs bs → P (bs.map u)) : (mLc vs mi tg mt me ds).wp p P := by
  unfold mLc
  rw [if_pos hn, hi, T.bind_ret]
  refine T.wp_bind.mpr (lcGo_wp k u R (fun x hx => ?_) fun bs hb => ?_)
  · obtain ⟨ds1, e, h1, h2⟩ := h x hx
    rw [e]
    show T.wp p ((mt ds1).bind _) _
    rw [h1]
    show T.wp p ((me ds1).bind _) _
    refine T.wp_bind.mpr ((T.wp_mono fun d => ?_) h2)
    rintro ⟨b, rfl, r⟩
    exact ⟨b, rfl, r⟩
  · rw [cap_ok (by rw [List.length_map, hb.len]; exact hl)]
    exact q bs hb
@[simp] theorem draw_int (a : Addr) (n : Int) : m_drawT [.adr a, .int n] = .draw a n fun i => .ret (.int i) := rfl
theorem zips_int : ∀ (a b : List Int), zips (a.map D.int) (b.map D.int) = (a.zip b).map fun q => D.tup [.int q.1, .int q.2]
  | [], _ => rfl
  | _ :: _, [] => rfl
  | x :: a, y :: b => by
    show D.tup [.int x, .int y] :: zips (a.map D.int) (b.map D.int) = _
    rw [zips_int a b]
    rfl
@[simp] theorem zip_row (k l : Bool) (a b : List Int) : zipT [row k a, row l b] = .ret ((a.zip b).map fun q => D.tup [.int q.1, .int q.2]) := by
  rw [← zips_int]
  exact zip_sq k l _ _
theorem lst_row (a : List Int) : D.lst (a.map D.int) = row true a := rfl
theorem lst_mat (rows : List (List Int)) : D.lst (rows.map (row true)) = mat rows := rfl
theorem ixN_0 {n : Nat} (h : 0 < n) : L2.ixN n 0 = some 0 := by
  unfold ixN
  rw [if_pos (Int.le_refl 0), if_pos (by omega)]
  rfl
theorem ixN_last {n : Nat} (h : 0 < n) : L2.ixN n (-1) = some (n - 1) := by
  unfold ixN
  rw [if_neg (by omega), if_pos (by omega)]
  congr 1
  omega
theorem atI_ex {α : Type} {xs : List α} {i : Int} (h0 : -(xs.length : Int) ≤ i) (h1 : i < xs.length) : ∃ x, L2.atI xs i = some x ∧ x ∈ xs := by
  have key : ∀ j : Nat, j < xs.length → ixN xs.length i = some j → ∃ x, L2.atI xs i = some x ∧ x ∈ xs := fun j hj e => by
    refine ⟨xs[j], ?_, List.getElem_mem hj⟩
    unfold atI
    rw [e]
    exact List.getElem?_eq_getElem hj
  by_cases h : 0 ≤ i
  · exact key i.toNat (by omega) (by unfold ixN; rw [if_pos h, if_pos h1])
  · exact key (i + xs.length).toNat (by omega) (by unfold ixN; rw [if_neg h, if_pos h0])
/-! ways of simp that look at what is done first alone -/
theorem bind_fst {α β : Type} {t t' : T α} {f : α → T β} (h : t = t') : t.bind f = t'.bind f := by rw [h]
theorem ite_fst {α : Sort u} {c c' : Prop} [Decidable c] [Decidable c'] {a b : α} (h : c = c') : ite c a b = ite c' a b := by
  subst h
  congr
theorem enums_zip {α : Type} (f : α → D) : ∀ (xs : List α) (n : Nat), enums n (xs.map f) = (xs.zipIdx n).map fun q => D.tup [.int (q.2 : Nat), f q.1]
  | [], _ => rfl
  | x :: xs, n => by
    rw [List.map_cons, List.zipIdx_cons, List.map_cons, enums, enums_zip f xs (n + 1)]
theorem zip_same {α : Type} (g : α → α) : ∀ (xs : List α) (i j : Nat), j < i ∨ i + xs.length ≤ j → ((xs.zipIdx i).map fun q => if q.2 = j then g q.1 else q.1) = xs
  | [], _, _, _ => rfl
  | x :: xs, i, j, h => by
    rw [List.length_cons] at h
    rw [List.zipIdx_cons, List.map_cons, zip_same g xs (i + 1) j (by omega)]
    show (if i = j then g x else x) :: xs = _
    rw [if_neg (by omega)]
theorem zip_upd {α : Type} (g : α → α) (r : α) (post : List α) : ∀ (pre : List α) (i : Nat), (((pre ++ r :: post).zipIdx i).map fun q => if q.2 = i + pre.length then g q.1 else q.1) = pre ++ g r :: post
  | [], i => by
    rw [List.nil_append, List.zipIdx_cons, List.map_cons, zip_same g post (i + 1) (i + ([] : List α).length) (by rw [List.length_nil]; omega)]
    show (if i = i + 0 then g r else r) :: post = _
    rw [if_pos (by omega)]
    rfl
  | x :: pre, i => by
    have ih := zip_upd g r post pre (i + 1)
    rw [show i + 1 + pre.length = i + (x :: pre).length from by rw [List.length_cons]; omega] at ih
    rw [List.cons_append, List.zipIdx_cons, List.map_cons, ih]
    show (if i = i + (x :: pre).length then g x else x) :: _ = _
    rw [if_neg (by rw [List.length_cons]; omega)]
    rfl
@[simp] theorem rev_mat (rows : List (List Int)) : revT (mat rows) none none (some (-1)) = .ret (rows.reverse.map (row true)) := by
  unfold mat
  rw [rev_lst, List.map_reverse]
@[simp] theorem rev_row (a : List Int) : revT (row true a) none none (some (-1)) = .ret (a.reverse.map D.int) := by
  show revT (.lst _) none none (some (-1)) = _
  rw [rev_lst, List.map_reverse]
@[simp] theorem enum_mat (rows : List (List Int)) : enumT [mat rows] = .ret (rows.zipIdx.map fun q => D.tup [.int (q.2 : Nat), row true q.1]) := by
  unfold mat
  rw [enum_lst, enums_zip]
theorem addT_mat {a b : List (List Int)} (h : a.length + b.length ≤ 100000) : addT (mat a) (mat b) = .ret (mat (a ++ b)) := by
  unfold mat
  rw [addT_lst (by rw [List.length_map, List.length_map]; exact h), List.map_append]
theorem split_at {α : Type} {xs : List α} {j : Nat} (h : j < xs.length) : ∃ pre r post, xs = pre ++ r :: post ∧ pre.length = j := by
  refine ⟨xs.take j, xs[j], xs.drop (j + 1), ?_, by rw [List.length_take]; omega⟩
  rw [← List.drop_eq_getElem_cons h, List.take_append_drop]
theorem atI_mid {α : Type} (pre : List α) (s : α) (post : List α) : L2.atI (pre ++ s :: post) (pre.length : Int) = some s := by
  rw [atI_nat _ pre.length (by simp [-List.map_map, -List.getD_eq_getElem?_getD])]
  simp [-List.map_map, -List.getD_eq_getElem?_getD]
/-- a loop whose turns draw and go on, over states of one kind -/
theorem for_wp0 {p : Addr → Prop} {mi : MA} {tg : Tg} {ms : MS} {ds : Sts} {P : Fl → Prop} (xs : List D) (I : Sts → Prop) (hi : mi ds = .ret xs) (h0 : I ds) (h : ∀ x ∈ xs, ∀ ds, I ds → ∃ ds1, tg.put x ds = some ds1 ∧ (ms ds1).wp p fun f => ∃ ds2, f = .nx ds2 ∧ I ds2) (q : ∀ ds, I ds → P (.nx ds)) : (mFor mi tg ms ds).wp p P := by
  unfold mFor
  rw [hi, T.bind_ret]
  clear hi
  induction xs generalizing ds with
  | nil => exact q ds h0
  | cons x xs ih =>
    obtain ⟨ds1, e, w⟩ := h x (List.mem_cons_self ..) ds h0
    show T.wp p ((optP (tg.put x ds) ms).bind _) P
    rw [e]
    refine T.wp_bind.mpr ((T.wp_mono fun f => ?_) w)
    rintro ⟨ds2, rfl, i2⟩
    exact ih i2 fun y hy => h y (List.mem_cons_of_mem _ hy)
theorem lc_wp {α β : Type} {p : Addr → Prop} {vs : List Nat} {mi : MA} {tg : Tg} {mt : MB} {me : ME} {ds : Sts} {P : List D → Prop} (k : α → D) (u : β → D) (R : α → β → Prop) (xs : List α) (hn : noOwnAt ds vs = true) (hi : mi ds = .ret (xs.map k)) (hl : xs.length ≤ 100000)
    (h : ∀ x ∈ xs, ∃ ds1, tg.put (k x) (wipeD ds vs) = some ds1 ∧ mt ds1 = .ret true ∧ (me ds1).wq p fun d => ∃ b, d = u b ∧ R x b) (q : ∀ bs, All2 R xs bs → P (bs.map u)) : (mLc vs mi tg mt me ds).wq p P :=
  T.wq_iff.mpr (lc_wp0 k u R xs hn hi hl (fun x hx => by
    obtain ⟨ds1, e1, e2, e3⟩ := h x hx
    exact ⟨ds1, e1, e2, T.wq_iff.mp e3⟩) q)
theorem for_wp {p : Addr → Prop} {mi : MA} {tg : Tg} {ms : MS} {ds : Sts} {P : Fl → Prop} (xs : List D) (I : Sts → Prop) (hi : mi ds = .ret xs) (h0 : I ds) (h : ∀ x ∈ xs, ∀ ds, I ds → ∃ ds1, tg.put x ds = some ds1 ∧ (ms ds1).wq p fun f => ∃ ds2, f = .nx ds2 ∧ I ds2) (q : ∀ ds, I ds → P (.nx ds)) : (mFor mi tg ms ds).wq p P :=
  T.wq_iff.mpr (for_wp0 xs I hi h0 (fun x hx ds i => by
    obtain ⟨ds1, e1, e2⟩ := h x hx ds i
    exact ⟨ds1, e1, T.wq_iff.mp e2⟩) q)
end Lk

namespace Lk
open PySem PySem.Spec PyProof.Rows L2
theorem runD_ap (ms : MS) (k : Nat) (xs : List D) : runD ms k xs = (ms (entry k xs)).bind fun
  | .rt d => .ret d
  | .nx _ => .ret .non
  | _ => .bad := rfl
theorem runF_ap (ms : MS) (k : Nat) (xs : List D) : runF ms k xs = (ms (entry k xs)).bind fun
  | .rt d => .ret d
  | _ => .bad := rfl
theorem mRet_ap (me : ME) (ds : Sts) : mRet me ds = (me ds).bind fun d => .ret (.rt d) := rfl
theorem mRetF_ap (mf : MA) (ds : Sts) : mRetF mf ds = (mf ds).bind fun xs => .ret (.rt (.lst xs)) := rfl
theorem mRetOwn_ap (i : Nat) (ds : Sts) : mRetOwn i ds = match ds[i]? with
  | some (some (.own xs)) => .ret (.rt (.lst xs))
  | _ => .bad := rfl
theorem mRetN_ap  (ds : Sts) : mRetN  ds = .ret (.rt .non) := rfl
theorem mSeqS_ap (a b : MS) (ds : Sts) : mSeqS a b ds = (a ds).bind fun
  | .nx ds' => b ds'
  | f => .ret f := rfl
theorem mNext_ap  (ds : Sts) : mNext  ds = .ret (.nx ds) := rfl
theorem mBreak_ap  (ds : Sts) : mBreak  ds = .ret (.bk ds) := rfl
theorem mCont_ap  (ds : Sts) : mCont  ds = .ret (.ct ds) := rfl
theorem mIfS_ap (mt : MB) (a b : MS) (ds : Sts) : mIfS mt a b ds = (mt ds).bind fun b' => if b' = true then a ds else b ds := rfl
theorem mDrop_ap (me : ME) (ds : Sts) : mDrop me ds = (me ds).bind fun _ => .ret (.nx ds) := rfl
theorem mAsg_ap (me : ME) (tg : Tg) (ds : Sts) : mAsg me tg ds = (me ds).bind fun d => optP (tg.put d ds) fun ds' => .ret (.nx ds') := rfl
theorem mNew_ap (i : Nat) (mf : MA) (ds : Sts) : mNew i mf ds = (mf ds).bind fun xs => if i < ds.length then .ret (.nx (ds.set i (some (.own xs)))) else .bad := rfl
theorem mPar_ap (i j : Nat) (mr : MA) (ds : Sts) : mPar i j mr ds = (mr ds).bind fun
  | [a, b] => .ret (.nx ((ds.set i (some (.dat a))).set j (some (.dat b))))
  | _ => .bad := rfl
theorem mPar3_ap (i j l : Nat) (mr : MA) (ds : Sts) : mPar3 i j l mr ds = (mr ds).bind fun
  | [a, b, c] => .ret (.nx (((ds.set i (some (.dat a))).set j (some (.dat b))).set l (some (.dat c))))
  | _ => .bad := rfl
theorem mParFE_ap (i j : Nat) (mf : MA) (mb : ME) (ds : Sts) : mParFE i j mf mb ds = (mf ds).bind fun xs => (mb ds).bind fun d => if i < ds.length then .ret (.nx ((ds.set i (some (.own xs))).set j (some (.dat d)))) else .bad := rfl
theorem mParEF_ap (i j : Nat) (ma : ME) (mf : MA) (ds : Sts) : mParEF i j ma mf ds = (ma ds).bind fun d => (mf ds).bind fun xs => if j < ds.length ∧ i ≠ j then .ret (.nx ((ds.set i (some (.dat d))).set j (some (.own xs)))) else .bad := rfl
theorem mParFF_ap (i j : Nat) (ma mf : MA) (ds : Sts) : mParFF i j ma mf ds = (ma ds).bind fun ys => (mf ds).bind fun xs => if i < ds.length ∧ j < ds.length ∧ i ≠ j then .ret (.nx ((ds.set i (some (.own ys))).set j (some (.own xs)))) else .bad := rfl
theorem mApp_ap (i : Nat) (me : ME) (ds : Sts) : mApp i me ds = ownT ds i fun xs => if xs.length < 100000 then (me ds).bind fun d => .ret (.nx (ds.set i (some (.own (xs ++ [d]))))) else .bad := rfl
theorem mExt_ap (i : Nat) (me : ME) (ds : Sts) : mExt i me ds = ownT ds i fun xs => (me ds).bind fun d => (unL d).bind fun ys => if xs.length + ys.length ≤ 100000 then .ret (.nx (ds.set i (some (.own (xs ++ ys))))) else .bad := rfl
theorem mItem_ap (i : Nat) (mk me : ME) (ds : Sts) : mItem i mk me ds = ownT ds i fun xs => (me ds).bind fun d => (mk ds).bind fun k => (unI k).bind fun k => match ixN xs.length k with
  | some j => .ret (.nx (ds.set i (some (.own (xs.set j d)))))
  | none => .bad := rfl
theorem mAug_ap (f : Int → Int → Int) (i : Nat) (me : ME) (ds : Sts) : mAug f i me ds = match ds[i]? with
  | some (some (.dat (.int x))) => (me ds).bind fun d => (unI d).bind fun y => .ret (.nx (ds.set i (some (.dat (.int (f x y))))))
  | _ => .bad := rfl
theorem mKill_ap (vs : List Nat) (ms : MS) (ds : Sts) : mKill vs ms ds = (ms ds).bind fun f => .ret (f.kill vs) := rfl
theorem mFrz_ap (vs : List Nat) (ms : MS) (ds : Sts) : mFrz vs ms ds = ms (frzD ds vs) := rfl
theorem mView_ap (vs : List Nat) (me : ME) (ds : Sts) : mView vs me ds = (me (frzD ds vs)).bind fun d => if atomD d = true then .ret d else .bad := rfl
theorem mVar_ap (i : Nat) (ds : Sts) : mVar i ds = match ds[i]? with
  | some (some (.dat d)) => .ret d
  | _ => .bad := rfl
theorem mVarS_ap (i : Nat) (ds : Sts) : mVarS i ds = match ds[i]? with
  | some (some (.dat d)) => .ret d
  | some (some (.own xs)) => .ret (.lst xs)
  | _ => .bad := rfl
theorem mC_ap (d : D) (ds : Sts) : mC d ds = .ret d := rfl
theorem mOp_ap (o : D → D → T D) (ma mb : ME) (ds : Sts) : mOp o ma mb ds = (ma ds).bind fun x => (mb ds).bind fun y => o x y := rfl
theorem mOpF_ap (o : D → D → T (List D)) (ma mb : ME) (ds : Sts) : mOpF o ma mb ds = (ma ds).bind fun x => (mb ds).bind fun y => o x y := rfl
theorem mLst_ap (m : MA) (ds : Sts) : mLst m ds = (m ds).bind fun xs => .ret (.lst xs) := rfl
theorem mNil_ap  (ds : Sts) : mNil  ds = .ret [] := rfl
theorem mCons_ap (ma : ME) (mr : MA) (ds : Sts) : mCons ma mr ds = (ma ds).bind fun x => (mr ds).bind fun xs => .ret (x :: xs) := rfl
theorem mTup_ap (m : MA) (ds : Sts) : mTup m ds = (m ds).bind fun xs => if xs.length ≤ 100000 then .ret (.tup xs) else .bad := rfl
theorem mList_ap (m : MA) (ds : Sts) : mList m ds = (m ds).bind fun xs => if xs.length ≤ 100000 then .ret xs else .bad := rfl
theorem mCB_ap (b : List D → T D) (m : MA) (ds : Sts) : mCB b m ds = (m ds).bind b := rfl
theorem mCBF_ap (b : List D → T (List D)) (m : MA) (ds : Sts) : mCBF b m ds = (m ds).bind b := rfl
theorem mCall_ap (n : Nat) (f : List D → T D) (m : MA) (ds : Sts) : mCall n f m ds = (m ds).bind fun xs => if xs.length = n then f xs else .bad := rfl
theorem mKey_ap (n k : Nat) (is : List Nat) (f : List D → T D) (m : MA) (ds : Sts) : mKey n k is f m ds = (m ds).bind fun xs => if xs.length = k ∧ (perm is xs).length = n then f (perm is xs) else .bad := rfl
theorem mUnL_ap (m : ME) (ds : Sts) : mUnL m ds = (m ds).bind unL := rfl
theorem mTest_ap (m : ME) (ds : Sts) : mTest m ds = (m ds).bind unB := rfl
theorem mNot_ap (m : MB) (ds : Sts) : mNot m ds = (m ds).bind fun b => .ret (!b) := rfl
theorem mAnd_ap (m n : MB) (ds : Sts) : mAnd m n ds = (m ds).bind fun b => if b = true then n ds else .ret false := rfl
theorem mOr_ap (m n : MB) (ds : Sts) : mOr m n ds = (m ds).bind fun b => if b = true then .ret true else n ds := rfl
theorem mYes_ap  (ds : Sts) : mYes  ds = .ret true := rfl
theorem mAndV_ap (ma mb : ME) (ds : Sts) : mAndV ma mb ds = (ma ds).bind fun d => (unB d).bind fun b => if b = true then mb ds else .ret (.bl false) := rfl
theorem mOrV_ap (ma mb : ME) (ds : Sts) : mOrV ma mb ds = (ma ds).bind fun d => (unB d).bind fun b => if b = true then .ret (.bl true) else mb ds := rfl
theorem mNotV_ap (ma : ME) (ds : Sts) : mNotV ma ds = (ma ds).bind fun d => (unB d).bind fun b => .ret (.bl (!b)) := rfl
theorem mIf_ap (mt : MB) (ma mb : ME) (ds : Sts) : mIf mt ma mb ds = (mt ds).bind fun b => if b = true then ma ds else mb ds := rfl
theorem mIfF_ap (mt : MB) (ma mb : MA) (ds : Sts) : mIfF mt ma mb ds = (mt ds).bind fun b => if b = true then ma ds else mb ds := rfl
theorem mChain_ap (o o' : D → D → T D) (ma mb mc : ME) (ds : Sts) : mChain o o' ma mb mc ds = (ma ds).bind fun x => (mb ds).bind fun y => (o x y).bind fun z => (unB z).bind fun b => if b = true then (mc ds).bind fun u => o' y u else .ret (.bl false) := rfl
theorem mNeg_ap (ma : ME) (ds : Sts) : mNeg ma ds = (ma ds).bind negT := rfl
theorem mNoPart_ap  (ds : Sts) : mNoPart  ds = .ret none := rfl
theorem mPart_ap (ma : ME) (ds : Sts) : mPart ma ds = (ma ds).bind fun d => (unI d).bind fun i => .ret (some i) := rfl
theorem mSl_ap (ma : ME) (ml mh : MO) (ds : Sts) : mSl ma ml mh ds = (ma ds).bind fun x => (ml ds).bind fun lo => (mh ds).bind fun hi => slT x lo hi := rfl
theorem mSlF_ap (ma : ME) (ml mh : MO) (ds : Sts) : mSlF ma ml mh ds = (ma ds).bind fun x => (ml ds).bind fun lo => (mh ds).bind fun hi => slFT x lo hi := rfl
theorem mRev_ap (ma : ME) (ml mh ms : MO) (ds : Sts) : mRev ma ml mh ms ds = (ma ds).bind fun x => (ml ds).bind fun lo => (mh ds).bind fun hi => (ms ds).bind fun st => revT x lo hi st := rfl
theorem mIsi_ap (ts : List Ty) (m : ME) (ds : Sts) : mIsi ts m ds = (m ds).bind (isiT ts) := rfl
theorem mIso_ap (c : Nat) (m : ME) (ds : Sts) : mIso c m ds = (m ds).bind (isoT c) := rfl
theorem mTruth_ap (m : ME) (ds : Sts) : mTruth m ds = (m ds).bind truthT := rfl
theorem mSeq_ap (m : ME) (ds : Sts) : mSeq m ds = (m ds).bind seqT := rfl
theorem mB_ap (b : List D → T (List D)) (m : MA) (ds : Sts) : mB b m ds = (m ds).bind b := rfl
theorem mLRg1_ap (me : ME) (ds : Sts) : mLRg1 me ds = (me ds).bind fun d => (unI d).bind fun n => if -100000 ≤ n ∧ n ≤ 100000 then .ret (irng 0 n.toNat) else .bad := rfl
theorem mLRg2_ap (ma mb : ME) (ds : Sts) : mLRg2 ma mb ds = (ma ds).bind fun d => (unI d).bind fun a => (mb ds).bind fun d => (unI d).bind fun b => if -100000 ≤ a ∧ a ≤ 100000 ∧ -100000 ≤ b ∧ b ≤ 100000 then .ret (irng a (b - a).toNat) else .bad := rfl
theorem mPop_ap (j : Nat) (ds : Sts) : mPop j ds = ownT ds j fun ys => match ys[ys.length - 1]? with
  | some y => .ret (y, ds.set j (some (.own ys.dropLast)))
  | none => .bad := rfl
theorem mPopAt_ap (j : Nat) (me : ME) (ds : Sts) : mPopAt j me ds = ownT ds j fun ys => (me ds).bind fun d => (unI d).bind fun z => if -(2 ^ 63) ≤ z ∧ z < 2 ^ 63 then match seqIndex? z ys.length with
  | some m => match ys[m]? with
    | some y => .ret (y, ds.set j (some (.own (ys.eraseIdx m))))
    | none => .bad
  | none => .bad else .bad := rfl
theorem mSetPop_ap (i : Nat) (mp : Sts → T (D × Sts)) (ds : Sts) : mSetPop i mp ds = (mp ds).bind fun q => .ret (.nx (q.2.set i (some (.dat q.1)))) := rfl
theorem mAppPop_ap (i : Nat) (mp : Sts → T (D × Sts)) (ds : Sts) : mAppPop i mp ds = ownT ds i fun xs => if xs.length < 100000 then (mp ds).bind fun q => ownT q.2 i fun xs => if xs.length < 100000 then .ret (.nx (q.2.set i (some (.own (xs ++ [q.1]))))) else .bad else .bad := rfl
theorem mNever_ap  (ds : Sts) : mNever  ds = .bad := rfl

theorem put_nm (i : Nat) (d : D) (ds : Sts) : (Tg.nm i).put d ds = some (ds.set i (some (.dat d))) := id rfl
theorem put_tp (ts : List Tg) (xs : List D) (ds : Sts) : (Tg.tp ts).put (.tup xs) ds = Tg.putAll ts xs ds := id rfl
theorem putAll_nil (ds : Sts) : Tg.putAll [] [] ds = some ds := id rfl
theorem putAll_cons (t : Tg) (ts : List Tg) (x : D) (xs : List D) (ds : Sts) : Tg.putAll (t :: ts) (x :: xs) ds = match t.put x ds with
    | some ds1 => Tg.putAll ts xs ds1
    | none => none := id rfl
theorem optP_some {α : Type} (ds : Sts) (f : Sts → T α) : optP (some ds) f = f ds := id rfl
/-! statements, one after the other -/
section
variable {p : Addr → Prop} {P : Fl → Prop} {Q : D → Prop}
def kRun (Q : D → Prop) : Fl → Prop
  | .rt d => Q d
  | .nx _ => Q .non
  | _ => False
def kRunF (Q : D → Prop) : Fl → Prop
  | .rt d => Q d
  | _ => False
def kSeq (p : Addr → Prop) (b : MS) (P : Fl → Prop) : Fl → Prop
  | .nx ds => T.wq p (b ds) P
  | f => P f
theorem seq_w {a b : MS} {ds : Sts} : T.wq p (mSeqS a b ds) P = T.wq p (a ds) (kSeq p b P) := by
  refine propext (T.wq_bind.trans ?_)
  constructor
  · refine fun h => T.wq_mono (fun f z => ?_) h
    cases f <;> first | exact z | simpa [kSeq, kRun, kRunF, T.wq_bad] using z
  · refine fun h => T.wq_mono (fun f z => ?_) h
    cases f <;> first | exact z | simpa [kSeq, kRun, kRunF, T.wq_bad] using z
theorem kSeq_nx {b : MS} {ds : Sts} : kSeq p b P (.nx ds) = T.wq p (b ds) P := rfl
theorem kSeq_rt {b : MS} {d : D} : kSeq p b P (.rt d) = P (.rt d) := rfl
theorem kSeq_bk {b : MS} {ds : Sts} : kSeq p b P (.bk ds) = P (.bk ds) := rfl
theorem kSeq_ct {b : MS} {ds : Sts} : kSeq p b P (.ct ds) = P (.ct ds) := rfl
def kIf (p : Addr → Prop) (a b : MS) (ds : Sts) (P : Fl → Prop) (c : Bool) : Prop := if c = true then T.wq p (a ds) P else T.wq p (b ds) P
theorem if_w {mt : MB} {a b : MS} {ds : Sts} : T.wq p (mIfS mt a b ds) P = T.wq p (mt ds) (kIf p a b ds P) := by
  refine propext (T.wq_bind.trans ?_)
  constructor
  · refine fun h => T.wq_mono (fun c => ?_) h
    cases c <;> exact id
  · refine fun h => T.wq_mono (fun c => ?_) h
    cases c <;> exact id
theorem kIf_t {a b : MS} {ds : Sts} : kIf p a b ds P true = T.wq p (a ds) P := rfl
theorem kIf_f {a b : MS} {ds : Sts} : kIf p a b ds P false = T.wq p (b ds) P := rfl
theorem kIf_d {a b : MS} {ds : Sts} {c : Prop} [Decidable c] : kIf p a b ds P (decide c) = if c then T.wq p (a ds) P else T.wq p (b ds) P := by
  by_cases h : c
  · rw [decide_eq_true h, if_pos h]; rfl
  · rw [decide_eq_false h, if_neg h]; rfl
def kKill (vs : List Nat) (P : Fl → Prop) (f : Fl) : Prop := P (f.kill vs)
theorem kill_w {vs : List Nat} {a : MS} {ds : Sts} : T.wq p (mKill vs a ds) P = T.wq p (a ds) (kKill vs P) := by
  refine propext (T.wq_bind.trans ?_)
  constructor
  · exact fun h => T.wq_mono (fun f z => by simpa [kKill] using z) h
  · exact fun h => T.wq_mono (fun f z => by simpa [kKill] using z) h
theorem kKill_nx {vs : List Nat} {ds : Sts} : kKill vs P (.nx ds) = P (.nx (killD ds vs)) := rfl
theorem kKill_ct {vs : List Nat} {ds : Sts} : kKill vs P (.ct ds) = P (.ct (killD ds vs)) := rfl
theorem kKill_rt {vs : List Nat} {d : D} : kKill vs P (.rt d) = P (.rt d) := rfl
theorem kKill_bk {vs : List Nat} {ds : Sts} : kKill vs P (.bk ds) = P (.bk ds) := rfl
theorem run_w {ms : MS} {k : Nat} {xs : List D} : T.wq p (runD ms k xs) Q = T.wq p (ms (entry k xs)) (kRun Q) := by
  refine propext (T.wq_bind.trans ?_)
  constructor
  · refine fun h => T.wq_mono (fun f z => ?_) h
    cases f <;> first | exact z | simpa [kSeq, kRun, kRunF, T.wq_bad] using z
  · refine fun h => T.wq_mono (fun f z => ?_) h
    cases f <;> first | exact z | simpa [kSeq, kRun, kRunF, T.wq_bad] using z
theorem kRun_rt {d : D} : kRun Q (.rt d) = Q d := rfl
theorem kRun_nx {ds : Sts} : kRun Q (.nx ds) = Q .non := rfl
theorem runF_w {ms : MS} {k : Nat} {xs : List D} : T.wq p (runF ms k xs) Q = T.wq p (ms (entry k xs)) (kRunF Q) := by
  refine propext (T.wq_bind.trans ?_)
  constructor
  · refine fun h => T.wq_mono (fun f z => ?_) h
    cases f <;> first | exact z | simpa [kSeq, kRun, kRunF, T.wq_bad] using z
  · refine fun h => T.wq_mono (fun f z => ?_) h
    cases f <;> first | exact z | simpa [kSeq, kRun, kRunF, T.wq_bad] using z
theorem kRunF_rt {d : D} : kRunF Q (.rt d) = Q d := rfl
end

end Lk

namespace K16
open PySem PySem.Spec PyProof.Rows L2 Lk
/-! ### the text -/
def topS (i : Nat) : Stmt := PySem.Challenge.pw_likestreets_k16_whole_divisors_of_minors.main.body.getD i (.Pass ⟨0, 0, 0, 0⟩)
abbrev s_is_integer : Stmt := topS 2
theorem sc_is_integer : FnScope ["value"] ["value"] (defScope s_is_integer) := ⟨rfl, rfl, rfl, by decide +kernel, rfl, by decide +kernel, by decide +kernel⟩
abbrev s_is_list : Stmt := topS 3
theorem sc_is_list : FnScope ["value"] ["value"] (defScope s_is_list) := ⟨rfl, rfl, rfl, by decide +kernel, rfl, by decide +kernel, by decide +kernel⟩
abbrev s_is_row : Stmt := topS 9
theorem sc_is_row : FnScope ["value", "number"] ["value"] (defScope s_is_row) := ⟨rfl, rfl, rfl, by decide +kernel, rfl, by decide +kernel, by decide +kernel⟩
abbrev s_determinant : Stmt := topS 11
theorem sc_determinant : FnScope ["rows", "total", "sign", "place", "entry", "row"] ["rows"] (defScope s_determinant) := ⟨rfl, rfl, rfl, by decide +kernel, rfl, by decide +kernel, by decide +kernel⟩
abbrev s_taken : Stmt := topS 12
theorem sc_taken : FnScope ["rows", "places", "row", "place"] ["rows", "places"] (defScope s_taken) := ⟨rfl, rfl, rfl, by decide +kernel, rfl, by decide +kernel, by decide +kernel⟩
abbrev s_places_among : Stmt := topS 13
theorem sc_places_among : FnScope ["columns", "many", "found", "_", "places", "place"] ["columns", "many"] (defScope s_places_among) := ⟨rfl, rfl, rfl, by decide +kernel, rfl, by decide +kernel, by decide +kernel⟩
abbrev s_divisor_of : Stmt := topS 14
theorem sc_divisor_of : FnScope ["rows", "found", "places"] ["rows"] (defScope s_divisor_of) := ⟨rfl, rfl, rfl, by decide +kernel, rfl, by decide +kernel, by decide +kernel⟩
abbrev s_divisor : Stmt := topS 16
theorem sc_divisor : FnScope ["rows"] ["rows"] (defScope s_divisor) := ⟨rfl, rfl, rfl, by decide +kernel, rfl, by decide +kernel, by decide +kernel⟩
abbrev s_are_rows : Stmt := topS 17
theorem sc_are_rows : FnScope ["value", "row"] ["value"] (defScope s_are_rows) := ⟨rfl, rfl, rfl, by decide +kernel, rfl, by decide +kernel, by decide +kernel⟩
abbrev s_pot_ : Stmt := topS 19
theorem sc_pot_ : FnScope ["_law_script", "_law_k", "_law_cell"] ["_law_script", "_law_k"] (defScope s_pot_) := ⟨rfl, rfl, rfl, by decide +kernel, rfl, by decide +kernel, by decide +kernel⟩
abbrev s_draw_ : Stmt := topS 20
theorem sc_draw_ : FnScope ["_law_pot_here", "_law_size", "_law_digit"] ["_law_pot_here", "_law_size"] (defScope s_draw_) := ⟨rfl, rfl, rfl, by decide +kernel, rfl, by decide +kernel, by decide +kernel⟩
abbrev s_pick_ : Stmt := topS 21
theorem sc_pick_ : FnScope ["_law_pot_here", "_law_some"] ["_law_pot_here", "_law_some"] (defScope s_pick_) := ⟨rfl, rfl, rfl, by decide +kernel, rfl, by decide +kernel, by decide +kernel⟩
abbrev s_passed_ : Stmt := topS 22
theorem sc_passed_ : FnScope ["_law_pot_here", "_law_row"] ["_law_pot_here", "_law_row"] (defScope s_passed_) := ⟨rfl, rfl, rfl, by decide +kernel, rfl, by decide +kernel, by decide +kernel⟩
abbrev s_minor_ : Stmt := topS 23
theorem sc_minor_ : FnScope ["_law_rows_here", "_law_places", "_law_total", "_law_sign", "_law_at"] ["_law_rows_here", "_law_places"] (defScope s_minor_) := ⟨rfl, rfl, rfl, by decide +kernel, rfl, by decide +kernel, by decide +kernel⟩
abbrev s_choices_ : Stmt := topS 24
theorem sc_choices_ : FnScope ["_law_some", "_law_many", "_law_found", "_law_at", "_law_rest"] ["_law_some", "_law_many"] (defScope s_choices_) := ⟨rfl, rfl, rfl, by decide +kernel, rfl, by decide +kernel, by decide +kernel⟩
abbrev s_common_ : Stmt := topS 25
theorem sc_common_ : FnScope ["_law_one", "_law_other"] ["_law_one", "_law_other"] (defScope s_common_) := ⟨rfl, rfl, rfl, by decide +kernel, rfl, by decide +kernel, by decide +kernel⟩
abbrev s_divisor_ : Stmt := topS 26
theorem sc_divisor_ : FnScope ["_law_rows_here", "_law_found", "_law_places"] ["_law_rows_here"] (defScope s_divisor_) := ⟨rfl, rfl, rfl, by decide +kernel, rfl, by decide +kernel, by decide +kernel⟩
abbrev s_rows_ : Stmt := topS 27
theorem sc_rows_ : FnScope ["_law_pot_here", "_law_many", "_law_wide", "_law_rows_here", "_law_way", "_law_turn", "_law_place", "_law_number", "_law_one", "_law_two"] ["_law_pot_here", "_law_many", "_law_wide"] (defScope s_rows_) := ⟨rfl, rfl, rfl, by decide +kernel, rfl, by decide +kernel, by decide +kernel⟩
abbrev s_one_right_ : Stmt := topS 28
theorem sc_one_right_ : FnScope ["_law_pot_here", "_law_rows_here", "_law_due", "_law_given", "_law_shown", "_law_at", "_law_number", "_law_scaled", "_law_other", "_law_mixed", "_law_row", "_law_place", "_law_one", "_law_two"] ["_law_pot_here", "_law_rows_here"] (defScope s_one_right_) := ⟨rfl, rfl, rfl, by decide +kernel, rfl, by decide +kernel, by decide +kernel⟩
abbrev s_right_ : Stmt := topS 29
theorem sc_right_ : FnScope ["_law_pot_here", "_law_turn", "_law_many", "_law_wide"] ["_law_pot_here"] (defScope s_right_) := ⟨rfl, rfl, rfl, by decide +kernel, rfl, by decide +kernel, by decide +kernel⟩
abbrev s_law : Stmt := topS 30
theorem sc_law : FnScope ["_law_script", "_law_k"] ["_law_script"] (defScope s_law) := ⟨rfl, rfl, rfl, by decide +kernel, rfl, by decide +kernel, by decide +kernel⟩
/-- the numbers and functions that stand at the top -/
structure Gcs (mg : Str → Option Value) : Prop where
  MOST_COLUMNS : ∃ t, mg "MOST_COLUMNS" = some (.int 6 t)
  i_gcd : mg "gcd" = some (.builtin "math.gcd")
end K16

namespace K16
open PySem PySem.Spec PyProof.Rows L2 Lk
def mb_is_integer : MS := (mRet (mAndV (mIsi [.int] (mVar 0)) (mNotV (mIsi [.bool] (mVar 0)))))
def m_is_integer (xs : List D) : T D := runD mb_is_integer 0 xs
def mb_is_list : MS := (mRet (mIsi [.list, .tuple] (mVar 0)))
def m_is_list (xs : List D) : T D := runD mb_is_list 0 xs
def mb_is_row : MS := (mSeqS (mIfS (mOr (mNot (mTruth (mCall 1 m_is_list (mCons (mVar 0) mNil)))) (mNot (mTest (mChain (cmpT fun i j => decide (i ≤ j)) (cmpT fun i j => decide (i ≤ j)) (mC (.int 1)) (mCB lenT (mCons (mVar 0) mNil)) (mC (.int 6)))))) (mRet (mC (.bl false))) mNext)
      (mRet (mCB allT (mCons (mLst (mLc [1] (mSeq (mVar 0)) (.nm 1) mYes (mCall 1 m_is_integer (mCons (mVar 1) mNil)))) mNil))))
def m_is_row (xs : List D) : T D := runD mb_is_row 1 xs
def mb_determinant (self : List D → T D) : MS := (mSeqS (mIfS (mNot (mTruth (mVar 0))) (mRet (mC (.int 1))) mNext)
      (mSeqS (mAsg (mC (.int 0)) (.nm 1))
      (mSeqS (mAsg (mC (.int 1)) (.nm 2))
      (mSeqS (mKill [0, 2, 3, 4] (mFor (mB enumT (mCons (mOp ixT (mVar 0) (mC (.int 0))) mNil)) (.tp ((.nm 3) :: (.nm 4) :: [])) (mSeqS (mKill [3, 4] (mIfS (mTest (mOp neT (mVar 4) (mC (.int 0)))) (mKill [3, 4] (mAug (fun i j => i + j) 1 (mOp mulT (mOp mulT (mVar 2) (mVar 4)) (mCall 1 self (mCons (mLst (mLc [5] (mSeq (mSl (mVar 0) (mPart (mC (.int 1))) mNoPart)) (.nm 5) mYes (mOp addT (mSl (mVar 5) mNoPart (mPart (mVar 3))) (mSl (mVar 5) (mPart (mOp addT (mVar 3) (mC (.int 1)))) mNoPart)))) mNil))))) mNext))
      (mAsg (mNeg (mVar 2)) (.nm 2)))))
      (mRet (mVar 1))))))
def m_determinant : Nat → List D → T D
  | 0, _ => .bad
  | n + 1, xs => runD (mb_determinant (m_determinant n)) 5 xs
def mb_taken : MS := (mRet (mLst (mLc [2] (mSeq (mVar 0)) (.nm 2) mYes (mLst (mLc [3] (mSeq (mVar 1)) (.nm 3) mYes (mOp ixT (mVar 2) (mVar 3)))))))
def m_taken (xs : List D) : T D := runD mb_taken 2 xs
def mb_places_among : MS := (mSeqS (mAsg (mLst (mList (mCons (mTup mNil) mNil))) (.nm 2))
      (mSeqS (mKill [0, 1, 3] (mFor (mB rng1T (mCons (mVar 1) mNil)) (.nm 3) (mAsg (mLst (mLc2 [4, 5] [5] (mSeq (mVar 2)) (.nm 4) mYes (mB rng1T (mCons (mVar 0) mNil)) (.nm 5) (mOr (mTest (mOp eqT (mCB lenT (mCons (mVar 4) mNil)) (mC (.int 0)))) (mTest (mOp (cmpT fun i j => decide (j < i)) (mVar 5) (mOp ixT (mVar 4) (mNeg (mC (.int 1))))))) (mOp addT (mVar 4) (mTup (mCons (mVar 5) mNil))))) (.nm 2))))
      (mRet (mVar 2))))
def m_places_among (xs : List D) : T D := runD mb_places_among 4 xs
def mb_divisor_of : MS := (mSeqS (mAsg (mC (.int 0)) (.nm 1))
      (mSeqS (mKill [0, 2] (mFor (mSeq (mCall 2 m_places_among (mCons (mCB lenT (mCons (mOp ixT (mVar 0) (mC (.int 0))) mNil)) (mCons (mCB lenT (mCons (mVar 0) mNil)) mNil)))) (.nm 2) (mKill [2] (mAsg (mCB gcdT (mCons (mVar 1) (mCons (mCall 1 (m_determinant 40) (mCons (mCall 2 m_taken (mCons (mVar 0) (mCons (mVar 2) mNil))) mNil)) mNil))) (.nm 1)))))
      (mRet (mVar 1))))
def m_divisor_of (xs : List D) : T D := runD mb_divisor_of 2 xs
def mb_are_rows : MS := (mSeqS (mIfS (mOr (mNot (mTruth (mCall 1 m_is_list (mCons (mVar 0) mNil)))) (mNot (mTest (mChain (cmpT fun i j => decide (i ≤ j)) (cmpT fun i j => decide (i ≤ j)) (mC (.int 1)) (mCB lenT (mCons (mVar 0) mNil)) (mC (.int 6)))))) (mRet (mC (.bl false))) mNext)
      (mRet (mAndV (mCB allT (mCons (mLst (mLc [1] (mSeq (mVar 0)) (.nm 1) mYes (mCall 1 m_is_row (mCons (mVar 1) mNil)))) mNil)) (mCB allT (mCons (mLst (mLc [1] (mSeq (mVar 0)) (.nm 1) mYes (mOp eqT (mCB lenT (mCons (mVar 1) mNil)) (mCB lenT (mCons (mOp ixT (mVar 0) (mC (.int 0))) mNil))))) mNil)))))
def m_are_rows (xs : List D) : T D := runD mb_are_rows 1 xs
def mb_divisor : MS := (mSeqS (mIfS (mNot (mTruth (mCall 1 m_are_rows (mCons (mVar 0) mNil)))) mNever mNext)
      (mRet (mCall 1 m_divisor_of (mCons (mVar 0) mNil))))
def m_divisor (xs : List D) : T D := runD mb_divisor 0 xs
def mb_pick_ : MS := (mRet (mOp ixT (mVar 1) (mCall 2 m_drawT (mCons (mVar 0) (mCons (mCB lenT (mCons (mVar 1) mNil)) mNil)))))
def m_pick_ (xs : List D) : T D := runD mb_pick_ 0 xs
def mb_passed_ : MS := (mRet (mIf (mTest (mOp eqT (mCall 2 m_drawT (mCons (mVar 0) (mCons (mC (.int 2)) mNil))) (mC (.int 0)))) (mLst (mCBF listT (mCons (mVar 1) mNil))) (mCB tupleT (mCons (mVar 1) mNil))))
def m_passed_ (xs : List D) : T D := runD mb_passed_ 0 xs
def mb_minor_ (self : List D → T D) : MS := (mSeqS (mIfS (mTest (mOp eqT (mVar 0) (mLst (mList mNil)))) (mRet (mC (.int 1))) mNext)
      (mSeqS (mAsg (mTup (mCons (mC (.int 0)) (mCons (mC (.int 1)) mNil))) (.tp ((.nm 2) :: (.nm 3) :: [])))
      (mSeqS (mKill [0, 1, 3, 4] (mFor (mB rng1T (mCons (mCB lenT (mCons (mVar 1) mNil)) mNil)) (.nm 4) (mSeqS (mKill [4] (mIfS (mTest (mOp neT (mOp ixT (mOp ixT (mVar 0) (mC (.int 0))) (mOp ixT (mVar 1) (mVar 4))) (mC (.int 0)))) (mKill [4] (mAsg (mOp addT (mVar 2) (mOp mulT (mOp mulT (mVar 3) (mOp ixT (mOp ixT (mVar 0) (mC (.int 0))) (mOp ixT (mVar 1) (mVar 4)))) (mCall 2 self (mCons (mSl (mVar 0) (mPart (mC (.int 1))) mNoPart) (mCons (mOp addT (mSl (mVar 1) mNoPart (mPart (mVar 4))) (mSl (mVar 1) (mPart (mOp addT (mVar 4) (mC (.int 1)))) mNoPart)) mNil))))) (.nm 2))) mNext))
      (mAsg (mOp subT (mC (.int 0)) (mVar 3)) (.nm 3)))))
      (mRet (mVar 2)))))
def m_minor_ : Nat → List D → T D
  | 0, _ => .bad
  | n + 1, xs => runD (mb_minor_ (m_minor_ n)) 3 xs
def mb_choices_ (self : List D → T D) : MS := (mSeqS (mIfS (mTest (mOp eqT (mVar 1) (mC (.int 0)))) (mRet (mLst (mList (mCons (mLst (mList mNil)) mNil)))) mNext)
      (mSeqS (mNew 2 (mList mNil))
      (mSeqS (mKill [0, 1, 3] (mFor (mB rng1T (mCons (mOp addT (mOp subT (mCB lenT (mCons (mVar 0) mNil)) (mVar 1)) (mC (.int 1))) mNil)) (.nm 3) (mKill [3] (mExt 2 (mLst (mLc [4] (mSeq (mCall 2 self (mCons (mSl (mVar 0) (mPart (mOp addT (mVar 3) (mC (.int 1)))) mNoPart) (mCons (mOp subT (mVar 1) (mC (.int 1))) mNil)))) (.nm 4) mYes (mOp addT (mLst (mList (mCons (mOp ixT (mVar 0) (mVar 3)) mNil))) (mVar 4))))))))
      (mRetOwn 2))))
def m_choices_ : Nat → List D → T D
  | 0, _ => .bad
  | n + 1, xs => runD (mb_choices_ (m_choices_ n)) 3 xs
def mb_common_ : MS := (mSeqS (mPar 0 1 (mCons (mCB absT (mCons (mVar 0) mNil)) (mCons (mCB absT (mCons (mVar 1) mNil)) mNil)))
      (mSeqS (mKill [1] (mWhile 1000000 (mTest (mOp (cmpT fun i j => decide (j < i)) (mVar 1) (mC (.int 0)))) (mPar 0 1 (mCons (mVar 1) (mCons (mOp modT (mCB intT (mCons (mVar 0) mNil)) (mVar 1)) mNil)))))
      (mRet (mVar 0))))
def m_common_ (xs : List D) : T D := runD mb_common_ 0 xs
def mb_divisor_ : MS := (mSeqS (mAsg (mC (.int 0)) (.nm 1))
      (mSeqS (mKill [0, 2] (mFor (mSeq (mCall 2 (m_choices_ 40) (mCons (mLst (mLRg1 (mCB lenT (mCons (mOp ixT (mVar 0) (mC (.int 0))) mNil)))) (mCons (mCB lenT (mCons (mVar 0) mNil)) mNil)))) (.nm 2) (mKill [2] (mAsg (mCall 2 m_common_ (mCons (mVar 1) (mCons (mCall 2 (m_minor_ 40) (mCons (mVar 0) (mCons (mVar 2) mNil))) mNil))) (.nm 1)))))
      (mRet (mVar 1))))
def m_divisor_ (xs : List D) : T D := runD mb_divisor_ 2 xs
def mb_rows_ : MS := (mSeqS (mKill [2] (mNew 3 (mLc [5] (mB rng1T (mCons (mVar 1) mNil)) (.nm 5) mYes (mLst (mLc [6] (mB rng1T (mCons (mVar 2) mNil)) (.nm 6) mYes (mOp subT (mCall 2 m_drawT (mCons (mVar 0) (mCons (mC (.int 11)) mNil))) (mC (.int 5))))))))
      (mSeqS (mKill [0] (mAsg (mCall 2 m_drawT (mCons (mVar 0) (mCons (mC (.int 5)) mNil))) (.nm 4)))
      (mSeqS (mKill [1, 4] (mIfS (mTest (mOp eqT (mVar 4) (mC (.int 0)))) (mItem 3 (mC (.int 0)) (mLst (mLc [7] (mSeq (mOp ixT (mVarS 3) (mC (.int 0)))) (.nm 7) mYes (mOp mulT (mVar 7) (mC (.int 6)))))) (mKill [1, 4] (mIfS (mAnd (mTest (mOp eqT (mVar 4) (mC (.int 1)))) (mTest (mOp (cmpT fun i j => decide (j < i)) (mVar 1) (mC (.int 1))))) (mItem 3 (mC (.int 0)) (mLst (mLc [8, 9] (mB zipT (mCons (mOp ixT (mVarS 3) (mC (.int 0))) (mCons (mOp ixT (mVarS 3) (mC (.int 1))) mNil))) (.tp ((.nm 8) :: (.nm 9) :: [])) mYes (mOp addT (mVar 8) (mOp mulT (mC (.int 2)) (mVar 9)))))) (mKill [1, 4] (mIfS (mAnd (mTest (mOp eqT (mVar 4) (mC (.int 2)))) (mTest (mOp (cmpT fun i j => decide (j < i)) (mVar 1) (mC (.int 1))))) (mItem 3 (mC (.int 0)) (mLst (mLc [7] (mSeq (mOp ixT (mVarS 3) (mC (.int 1)))) (.nm 7) mYes (mOp mulT (mC (.int 3)) (mVar 7))))) (mKill [4] (mIfS (mTest (mOp eqT (mVar 4) (mC (.int 3)))) (mItem 3 (mNeg (mC (.int 1))) (mLst (mLc [7] (mSeq (mOp ixT (mVarS 3) (mNeg (mC (.int 1))))) (.nm 7) mYes (mOp mulT (mVar 7) (mC (.int 1000003)))))) mNext))))))))
      (mRetOwn 3))))
def m_rows_ (xs : List D) : T D := runD mb_rows_ 7 xs
def mb_one_right_ : MS := (mSeqS (mPar 2 3 (mCons (mCall 1 m_divisor_ (mCons (mVar 1) mNil)) (mCons (mLst (mLc [10] (mSeq (mVar 1)) (.nm 10) mYes (mCall 2 m_passed_ (mCons (mVar 0) (mCons (mVar 10) mNil))))) mNil)))
      (mSeqS (mAsg (mCB reprT (mCons (mVar 3) mNil)) (.nm 4))
      (mSeqS (mKill [3, 4] (mIfS (mOr (mTest (mOp neT (mCB reprT (mCons (mLst (mList (mCons (mCall 1 m_divisor (mCons (mVar 3) mNil)) (mCons (mKey 1 1 [0] m_divisor (mCons (mCB tupleT (mCons (mVar 3) mNil)) mNil)) mNil)))) mNil)) (mCB reprT (mCons (mLst (mList (mCons (mVar 2) (mCons (mVar 2) mNil)))) mNil)))) (mTest (mOp neT (mCB reprT (mCons (mVar 3) mNil)) (mVar 4)))) (mRet (mC (.bl false))) mNext))
      (mSeqS (mKill [0] (mAsg (mTup (mCons (mCall 2 m_drawT (mCons (mVar 0) (mCons (mCB lenT (mCons (mVar 1) mNil)) mNil))) (mCons (mCall 2 m_pick_ (mCons (mVar 0) (mCons (mLst (mList (mCons (mC (.int 2)) (mCons (mNeg (mC (.int 3))) (mCons (mC (.int 0)) (mCons (mNeg (mC (.int 1))) mNil)))))) mNil))) mNil))) (.tp ((.nm 5) :: (.nm 6) :: []))))
      (mSeqS (mAsg (mLst (mLc [11, 10] (mB enumT (mCons (mVar 1) mNil)) (.tp ((.nm 11) :: (.nm 10) :: [])) mYes (mIf (mTest (mOp eqT (mVar 11) (mVar 5))) (mLst (mLc [12] (mSeq (mVar 10)) (.nm 12) mYes (mOp mulT (mVar 6) (mVar 12)))) (mVar 10)))) (.nm 7))
      (mSeqS (mKill [7] (mIfS (mOr (mTest (mOp neT (mCall 1 m_divisor (mCons (mVar 7) mNil)) (mOp mulT (mVar 2) (mCB absT (mCons (mVar 6) mNil))))) (mOr (mTest (mOp neT (mCall 1 m_divisor (mCons (mLst (mRev (mVar 1) mNoPart mNoPart (mPart (mNeg (mC (.int 1)))))) mNil)) (mVar 2))) (mTest (mOp neT (mCall 1 m_divisor (mCons (mLst (mLc [10] (mSeq (mVar 1)) (.nm 10) mYes (mLst (mRev (mVar 10) mNoPart mNoPart (mPart (mNeg (mC (.int 1)))))))) mNil)) (mVar 2))))) (mRet (mC (.bl false))) mNext))
      (mSeqS (mKill [2, 5, 6, 8, 9] (mIfS (mTest (mOp (cmpT fun i j => decide (j < i)) (mCB lenT (mCons (mVar 1) mNil)) (mC (.int 1)))) (mSeqS (mAsg (mOp subT (mVar 5) (mC (.int 1))) (.nm 8))
      (mSeqS (mKill [5, 6, 8] (mAsg (mLst (mLc [11, 10] (mB enumT (mCons (mVar 1) mNil)) (.tp ((.nm 11) :: (.nm 10) :: [])) mYes (mIf (mTest (mOp eqT (mVar 11) (mVar 5))) (mLst (mLc [12, 13] (mB zipT (mCons (mVar 10) (mCons (mOp ixT (mVar 1) (mVar 8)) mNil))) (.tp ((.nm 12) :: (.nm 13) :: [])) mYes (mOp addT (mVar 12) (mOp mulT (mVar 6) (mVar 13))))) (mVar 10)))) (.nm 9)))
      (mKill [2, 9] (mIfS (mTest (mOp neT (mCall 1 m_divisor (mCons (mVar 9) mNil)) (mVar 2))) (mRet (mC (.bl false))) mNext)))) mNext))
      (mRet (mOp eqT (mCall 1 m_divisor (mCons (mOp addT (mVar 1) (mSl (mVar 1) mNoPart (mPart (mC (.int 1))))) mNil)) (mC (.int 0)))))))))))
def m_one_right_ (xs : List D) : T D := runD mb_one_right_ 12 xs
def mb_right_ : MS := (mSeqS (mKill [0, 1, 2, 3] (mFor (mB rng1T (mCons (mC (.int 2)) mNil)) (.nm 1) (mSeqS (mPar 2 3 (mCons (mOp addT (mC (.int 1)) (mCall 2 m_drawT (mCons (mVar 0) (mCons (mC (.int 4)) mNil)))) (mCons (mOp addT (mC (.int 1)) (mCall 2 m_drawT (mCons (mVar 0) (mCons (mC (.int 5)) mNil)))) mNil)))
      (mKill [2, 3] (mIfS (mNot (mTruth (mCall 2 m_one_right_ (mCons (mVar 0) (mCons (mCall 3 m_rows_ (mCons (mVar 0) (mCons (mVar 2) (mCons (mVar 3) mNil)))) mNil))))) (mRet (mC (.bl false))) mNext)))))
      (mRet (mAndV (mOp eqT (mCall 1 m_divisor (mCons (mLst (mList (mCons (mLst (mList (mCons (mC (.int 4)) (mCons (mNeg (mC (.int 6))) (mCons (mC (.int 10)) mNil))))) mNil))) mNil)) (mC (.int 2))) (mAndV (mOp eqT (mCall 1 m_divisor (mCons (mLst (mList (mCons (mLst (mList (mCons (mC (.int 0)) (mCons (mC (.int 0)) mNil)))) mNil))) mNil)) (mC (.int 0))) (mAndV (mOp eqT (mCall 1 m_divisor (mCons (mLst (mList (mCons (mLst (mList (mCons (mC (.int 1)) mNil))) (mCons (mLst (mList (mCons (mC (.int 2)) mNil))) mNil)))) mNil)) (mC (.int 0))) (mOp eqT (mCall 1 m_divisor (mCons (mLst (mList (mCons (mLst (mList (mCons (mC (.int 1)) (mCons (mC (.int 2)) (mCons (mC (.int 3)) mNil))))) (mCons (mLst (mList (mCons (mC (.int 1)) (mCons (mC (.int 0)) (mCons (mC (.int 1)) mNil))))) mNil)))) mNil)) (mC (.int 2))))))))
def m_right_ (xs : List D) : T D := runD mb_right_ 3 xs
end K16

namespace Lk
/-! ### minors of rows -/
/-- the entries of r at the places, signs in turn, each times f of the other places -/
def ED (r : List Int) : List Nat → (List Nat → Int) → Int
  | [], _ => 0
  | p :: ps, f => r.getD p 0 * f ps - ED r ps (fun qs => f (p :: qs))
def minor : List (List Int) → List Nat → Int
  | [], _ => 1
  | r :: rs, ps => ED r ps (minor rs)
theorem ED_congr (r : List Int) : ∀ {ps : List Nat} {f g : List Nat → Int}, (∀ qs, qs.length + 1 = ps.length → (∀ q ∈ qs, q ∈ ps) → f qs = g qs) → ED r ps f = ED r ps g
  | [], _, _, _ => rfl
  | p :: ps, f, g, h => by
    unfold ED
    rw [h ps rfl (fun q hq => List.mem_cons_of_mem _ hq), ED_congr r fun qs hq hm => h (p :: qs) (by rw [List.length_cons, List.length_cons, hq]) fun q hq => (List.mem_cons.mp hq).elim (fun e => by rw [e]; exact List.mem_cons_self ..) fun z => List.mem_cons_of_mem _ (hm q z)]
theorem ED_lin (r : List Int) (a b : Int) : ∀ (ps : List Nat) (f g : List Nat → Int), ED r ps (fun qs => a * f qs + b * g qs) = a * ED r ps f + b * ED r ps g
  | [], _, _ => by unfold ED; omega
  | p :: ps, f, g => by
    unfold ED
    rw [ED_lin r a b ps (fun qs => f (p :: qs)) (fun qs => g (p :: qs)), Int.mul_sub, Int.mul_sub, Int.mul_add, ← Int.mul_assoc, ← Int.mul_assoc, ← Int.mul_assoc, ← Int.mul_assoc, Int.mul_comm (r.getD p 0) a, Int.mul_comm (r.getD p 0) b]
    omega
theorem ED_smul (r : List Int) (a : Int) (ps : List Nat) (f : List Nat → Int) : ED r ps (fun qs => a * f qs) = a * ED r ps f := by
  have := ED_lin r a 0 ps f f
  simp only [Int.zero_mul, Int.add_zero] at this
  exact this
theorem ED_neg (r : List Int) (ps : List Nat) (f : List Nat → Int) : ED r ps (fun qs => - f qs) = - ED r ps f := by
  have := ED_smul r (-1) ps f
  simp only [Int.neg_mul, Int.one_mul] at this
  exact this
theorem ED_zero (r : List Int) (ps : List Nat) : ED r ps (fun _ => 0) = 0 := by
  have := ED_smul r 0 ps (fun _ => 0)
  simp only [Int.zero_mul] at this
  exact this
theorem ED_swap (r s : List Int) : ∀ (ps : List Nat) (f : List Nat → Int), ED r ps (fun qs => ED s qs f) = - ED s ps (fun qs => ED r qs f)
  | [], _ => rfl
  | p :: ps, f => by
    have e1 : ∀ (u v : List Int), ED u (p :: ps) (fun qs => ED v qs f) = u.getD p 0 * ED v ps f - (v.getD p 0 * ED u ps f + (-1) * ED u ps (fun qs => ED v qs fun ts => f (p :: ts))) := fun u v => by
      show u.getD p 0 * ED v ps f - ED u ps (fun qs => ED v (p :: qs) f) = _
      congr 1
      rw [← ED_lin]
      exact ED_congr u fun qs _ _ => by
        show v.getD p 0 * f qs - ED v qs (fun ts => f (p :: ts)) = _
        omega
    rw [e1, e1, ED_swap r s ps]
    omega
/-! rows -/
theorem minor_swap {r s : List Int} {post : List (List Int)} : ∀ (pre : List (List Int)) (ps : List Nat), minor (pre ++ r :: s :: post) ps = - minor (pre ++ s :: r :: post) ps
  | [], ps => ED_swap r s ps (minor post)
  | q :: pre, ps => by
    show ED q ps (minor (pre ++ r :: s :: post)) = - ED q ps (minor (pre ++ s :: r :: post))
    rw [← ED_neg]
    exact ED_congr q fun qs _ _ => minor_swap pre qs
theorem minor_eq0 {r : List Int} {post : List (List Int)} : ∀ (mid pre : List (List Int)) (ps : List Nat), minor (pre ++ r :: (mid ++ r :: post)) ps = 0
  | [], pre, ps => by
    have := minor_swap (r := r) (s := r) (post := post) pre ps
    have e : minor (pre ++ r :: ([] ++ r :: post)) ps = minor (pre ++ r :: r :: post) ps := rfl
    omega
  | m :: mid, pre, ps => by
    have h1 := minor_swap (r := r) (s := m) (post := mid ++ r :: post) pre ps
    have h2 := minor_eq0 (r := r) (post := post) mid (pre ++ [m]) ps
    rw [List.append_assoc] at h2
    have e : minor (pre ++ r :: (m :: mid ++ r :: post)) ps = minor (pre ++ r :: m :: (mid ++ r :: post)) ps := rfl
    have e2 : minor (pre ++ ([m] ++ r :: (mid ++ r :: post))) ps = minor (pre ++ m :: r :: (mid ++ r :: post)) ps := rfl
    omega
theorem minor_perm {rows rows' : List (List Int)} (h : rows.Perm rows') : ∃ s : Int, (s = 1 ∨ s = -1) ∧ ∀ ps, minor rows' ps = s * minor rows ps := by
  induction h with
  | nil => exact ⟨1, .inl rfl, fun ps => by omega⟩
  | cons r _ ih =>
    obtain ⟨s, hs, h⟩ := ih
    refine ⟨s, hs, fun ps => ?_⟩
    show ED r ps (minor _) = s * ED r ps (minor _)
    rw [← ED_smul]
    exact ED_congr r fun qs _ _ => h qs
  | swap x y l => exact ⟨-1, .inr rfl, fun ps => by have := minor_swap (r := x) (s := y) (post := l) [] ps; simp only [List.nil_append] at this; omega⟩
  | trans _ _ ih1 ih2 =>
    obtain ⟨s, hs, h⟩ := ih1
    obtain ⟨t, ht, k⟩ := ih2
    refine ⟨t * s, ?_, fun ps => by rw [k, h, Int.mul_assoc]⟩
    rcases hs with rfl | rfl <;> rcases ht with rfl | rfl <;> decide
theorem getD_zip (f : Int → Int → Int) (h0 : f 0 0 = 0) : ∀ (r s : List Int), r.length = s.length → ∀ p : Nat, (List.zipWith f r s).getD p 0 = f (r.getD p 0) (s.getD p 0)
  | [], [], _, p => by simp [h0]
  | [], _ :: _, h, _ => by cases h
  | _ :: _, [], h, _ => by cases h
  | x :: r, y :: s, h, 0 => rfl
  | x :: r, y :: s, h, p + 1 => getD_zip f h0 r s (Nat.succ.inj h) p
theorem ED_rowlin (c : Int) {r s t : List Int} (h : ∀ p, t.getD p 0 = r.getD p 0 + c * s.getD p 0) : ∀ (ps : List Nat) (f : List Nat → Int), ED t ps f = ED r ps f + c * ED s ps f
  | [], _ => by unfold ED; omega
  | p :: ps, f => by
    unfold ED
    rw [h p, ED_rowlin c h ps, Int.add_mul, Int.mul_sub, Int.mul_assoc]
    omega
theorem minor_rowlin (c : Int) {r s t : List Int} (h : ∀ p, t.getD p 0 = r.getD p 0 + c * s.getD p 0) {post : List (List Int)} : ∀ (pre : List (List Int)) (ps : List Nat), minor (pre ++ t :: post) ps = minor (pre ++ r :: post) ps + c * minor (pre ++ s :: post) ps
  | [], ps => ED_rowlin c h ps (minor post)
  | q :: pre, ps => by
    show ED q ps (minor (pre ++ t :: post)) = ED q ps (minor (pre ++ r :: post)) + c * ED q ps (minor (pre ++ s :: post))
    have := ED_lin q 1 c ps (minor (pre ++ r :: post)) (minor (pre ++ s :: post))
    rw [Int.one_mul] at this
    rw [← this]
    exact ED_congr q fun qs _ _ => by rw [minor_rowlin c h pre qs, Int.one_mul]
theorem ED_rowsmul (c : Int) {r t : List Int} (h : ∀ p, t.getD p 0 = c * r.getD p 0) : ∀ (ps : List Nat) (f : List Nat → Int), ED t ps f = c * ED r ps f
  | [], _ => by unfold ED; omega
  | p :: ps, f => by
    unfold ED
    rw [h p, ED_rowsmul c h ps, Int.mul_sub, Int.mul_assoc]
theorem minor_rowsmul (c : Int) {r t : List Int} (h : ∀ p, t.getD p 0 = c * r.getD p 0) {post : List (List Int)} : ∀ (pre : List (List Int)) (ps : List Nat), minor (pre ++ t :: post) ps = c * minor (pre ++ r :: post) ps
  | [], ps => ED_rowsmul c h ps (minor post)
  | q :: pre, ps => by
    show ED q ps (minor (pre ++ t :: post)) = c * ED q ps (minor (pre ++ r :: post))
    rw [← ED_smul]
    exact ED_congr q fun qs _ _ => minor_rowsmul c h pre qs
/-! columns -/
theorem ED_colswap (r : List Int) (p q : Nat) (l2 : List Nat) : ∀ (l1 : List Nat) (f : List Nat → Int), (∀ a b : List Nat, a.length + b.length + 1 = l1.length + l2.length → f (a ++ p :: q :: b) = - f (a ++ q :: p :: b)) → ED r (l1 ++ p :: q :: l2) f = - ED r (l1 ++ q :: p :: l2) f
  | [], f, h => by
    show r.getD p 0 * f (q :: l2) - (r.getD q 0 * f (p :: l2) - ED r l2 (fun qs => f (p :: q :: qs))) = -(r.getD q 0 * f (p :: l2) - (r.getD p 0 * f (q :: l2) - ED r l2 (fun qs => f (q :: p :: qs))))
    have e : ED r l2 (fun qs => f (p :: q :: qs)) = - ED r l2 (fun qs => f (q :: p :: qs)) := by
      rw [← ED_neg]
      exact ED_congr r fun qs hq _ => h [] qs (by simp; omega)
    omega
  | x :: l1, f, h => by
    show r.getD x 0 * f (l1 ++ p :: q :: l2) - ED r (l1 ++ p :: q :: l2) (fun qs => f (x :: qs)) = -(r.getD x 0 * f (l1 ++ q :: p :: l2) - ED r (l1 ++ q :: p :: l2) (fun qs => f (x :: qs)))
    rw [h l1 l2 (by rw [List.length_cons]; omega), ED_colswap r p q l2 l1 (fun qs => f (x :: qs)) fun a b hab => h (x :: a) b (by rw [List.length_cons, List.length_cons]; omega), Int.mul_neg]
    omega
theorem minor_colswap : ∀ (rows : List (List Int)) (l1 l2 : List Nat) (p q : Nat), l1.length + l2.length + 2 = rows.length → minor rows (l1 ++ p :: q :: l2) = - minor rows (l1 ++ q :: p :: l2)
  | [], _, _, _, _, h => by cases h
  | r :: rs, l1, l2, p, q, h => ED_colswap r p q l2 l1 (minor rs) fun a b hab => minor_colswap rs a b p q (by rw [List.length_cons] at h; omega)
theorem minor_colperm {ps ps' : List Nat} (h : ps.Perm ps') : ∃ s : Int, (s = 1 ∨ s = -1) ∧ ∀ (rows : List (List Int)) (l1 : List Nat), l1.length + ps.length = rows.length → minor rows (l1 ++ ps') = s * minor rows (l1 ++ ps) := by
  induction h with
  | nil => exact ⟨1, .inl rfl, fun _ _ _ => by omega⟩
  | @cons x l l' _ ih =>
    obtain ⟨s, hs, h⟩ := ih
    refine ⟨s, hs, fun rows l1 hl => ?_⟩
    have := h rows (l1 ++ [x]) (by rw [List.length_append, List.length_cons] at *; simp at *; omega)
    rw [List.append_assoc, List.append_assoc] at this
    exact this
  | swap x y l => exact ⟨-1, .inr rfl, fun rows l1 hl => by
      have := minor_colswap rows l1 l x y (by simp at hl; omega)
      omega⟩
  | trans h1 _ ih1 ih2 =>
    obtain ⟨s, hs, h⟩ := ih1
    obtain ⟨t, ht, k⟩ := ih2
    refine ⟨t * s, ?_, fun rows l1 hl => by rw [k rows l1 (by rw [← h1.length_eq]; exact hl), h rows l1 hl, Int.mul_assoc]⟩
    rcases hs with rfl | rfl <;> rcases ht with rfl | rfl <;> decide
theorem ED_map (r r' : List Int) (m : Nat → Nat) : ∀ (ps : List Nat) (f : List Nat → Int), (∀ p ∈ ps, r'.getD p 0 = r.getD (m p) 0) → ED r' ps (fun qs => f (qs.map m)) = ED r (ps.map m) f
  | [], _, _ => rfl
  | p :: ps, f, h => by
    show r'.getD p 0 * f (ps.map m) - ED r' ps (fun qs => f (m p :: qs.map m)) = r.getD (m p) 0 * f (ps.map m) - ED r (ps.map m) (fun qs => f (m p :: qs))
    rw [h p (List.mem_cons_self ..), ED_map r r' m ps (fun qs => f (m p :: qs)) fun q hq => h q (List.mem_cons_of_mem _ hq)]
theorem minor_map (m : Nat → Nat) (T : List Int → List Int) : ∀ (rows : List (List Int)) (ps : List Nat), (∀ r ∈ rows, ∀ p ∈ ps, (T r).getD p 0 = r.getD (m p) 0) → minor (rows.map T) ps = minor rows (ps.map m)
  | [], _, _ => rfl
  | r :: rs, ps, h => by
    show ED (T r) ps (minor (rs.map T)) = ED r (ps.map m) (minor rs)
    rw [← ED_map r (T r) m ps (minor rs) fun p hp => h r (List.mem_cons_self ..) p hp]
    exact ED_congr _ fun qs _ hm => minor_map m T rs qs fun r' hr p hp => h r' (List.mem_cons_of_mem _ hr) p (hm p hp)
/-! sums from the left -/
def sg : Nat → Int
  | 0 => 1
  | n + 1 => - sg n
theorem sg_abs : ∀ n, (sg n).natAbs = 1
  | 0 => rfl
  | n + 1 => by show (- sg n).natAbs = 1; rw [Int.natAbs_neg]; exact sg_abs n
def pt (r : List Int) (f : List Nat → Int) (ps : List Nat) : Nat → Int
  | 0 => 0
  | i + 1 => pt r f ps i + sg i * r.getD (ps.getD i 0) 0 * f (ps.eraseIdx i)
theorem pt_ED (r : List Int) (f : List Nat → Int) : ∀ (rest done : List Nat), pt r f (done ++ rest) (done ++ rest).length = pt r f (done ++ rest) done.length + sg done.length * ED r rest (fun qs => f (done ++ qs))
  | [], done => by
    rw [List.append_nil]
    show _ = _ + sg done.length * 0
    omega
  | p :: rest, done => by
    have ih := pt_ED r f rest (done ++ [p])
    rw [List.append_assoc] at ih
    have e1 : (done ++ [p]).length = done.length + 1 := by rw [List.length_append]; rfl
    rw [e1] at ih
    have e2 : pt r f (done ++ ([p] ++ rest)) (done.length + 1) = pt r f (done ++ p :: rest) done.length + sg done.length * r.getD p 0 * f (done ++ rest) := by
      show pt r f (done ++ p :: rest) done.length + sg done.length * r.getD ((done ++ p :: rest).getD done.length 0) 0 * f ((done ++ p :: rest).eraseIdx done.length) = _
      have g1 : (done ++ p :: rest).getD done.length 0 = p := by simp
      have g2 : (done ++ p :: rest).eraseIdx done.length = done ++ rest := by
        rw [List.eraseIdx_append_of_length_le (Nat.le_refl _), Nat.sub_self]; rfl
      rw [g1, g2]
    have e3 : ED r (p :: rest) (fun qs => f (done ++ qs)) = r.getD p 0 * f (done ++ rest) - ED r rest (fun qs => f ((done ++ [p]) ++ qs)) := by
      show r.getD p 0 * f (done ++ rest) - ED r rest (fun qs => f (done ++ p :: qs)) = _
      congr 2
      funext qs
      rw [List.append_assoc]
      rfl
    have e4 : sg (done.length + 1) = - sg done.length := rfl
    show pt r f (done ++ ([p] ++ rest)) (done ++ ([p] ++ rest)).length = _
    rw [ih, e2, e3, e4, Int.mul_sub, Int.neg_mul, Int.mul_assoc]
    show _ = pt r f (done ++ p :: rest) done.length + _
    omega
theorem pt_all (r : List Int) (f : List Nat → Int) (ps : List Nat) : pt r f ps ps.length = ED r ps f := by
  have := pt_ED r f ps []
  rw [List.nil_append] at this
  rw [this]
  show 0 + 1 * ED r ps f = ED r ps f
  omega
/-! how great they are -/
theorem ED_bound (r : List Int) (B C : Nat) (hr : ∀ p, (r.getD p 0).natAbs ≤ B) : ∀ (ps : List Nat) (f : List Nat → Int), (∀ qs, (f qs).natAbs ≤ C) → (ED r ps f).natAbs ≤ ps.length * (B * C)
  | [], _, _ => by show (0 : Int).natAbs ≤ _; exact Nat.zero_le _
  | p :: ps, f, h => by
    have ih := ED_bound r B C hr ps (fun qs => f (p :: qs)) fun qs => h _
    have h1 : (r.getD p 0 * f ps).natAbs ≤ B * C := by
      rw [Int.natAbs_mul]
      exact Nat.mul_le_mul (hr p) (h ps)
    show (r.getD p 0 * f ps - ED r ps (fun qs => f (p :: qs))).natAbs ≤ (ps.length + 1) * (B * C)
    have h2 := Int.natAbs_sub_le (r.getD p 0 * f ps) (ED r ps (fun qs => f (p :: qs)))
    rw [Nat.add_mul]
    omega
theorem getD_bound {r : List Int} {B : Nat} (h : ∀ x ∈ r, x.natAbs ≤ B) (p : Nat) : (r.getD p 0).natAbs ≤ B := by
  rw [List.getD_eq_getElem?_getD]
  cases e : r[p]? with
  | none => exact Nat.zero_le _
  | some x => exact h x (List.mem_of_getElem? e)
/-- at most n columns, entries of at most B: the minors of k rows are at most (n B) ^ k -/
theorem minor_bound (B n : Nat) : ∀ (rows : List (List Int)) (ps : List Nat), (∀ r ∈ rows, ∀ x ∈ r, x.natAbs ≤ B) → ps.length ≤ n → (minor rows ps).natAbs ≤ (n * B) ^ rows.length
  | [], _, _, _ => by show (1 : Int).natAbs ≤ 1; exact Nat.le_refl 1
  | r :: rs, ps, h, hn => by
    have key : ED r ps (minor rs) = ED r ps (fun qs => if qs.length ≤ n then minor rs qs else 0) := ED_congr r fun qs hq _ => by rw [if_pos (by omega)]
    have h1 := ED_bound r B ((n * B) ^ rs.length) (getD_bound (h r (List.mem_cons_self ..))) ps (fun qs => if qs.length ≤ n then minor rs qs else 0) fun qs => by
      by_cases hq : qs.length ≤ n
      · rw [if_pos hq]; exact minor_bound B n rs qs (fun r' hr => h r' (List.mem_cons_of_mem _ hr)) hq
      · rw [if_neg hq]; exact Nat.zero_le _
    show (ED r ps (minor rs)).natAbs ≤ _
    rw [key]
    refine Nat.le_trans h1 ?_
    rw [List.length_cons, Nat.pow_succ, Nat.mul_comm _ (n * B), Nat.mul_assoc]
    exact Nat.mul_le_mul_right _ hn
/-! ### the divisor of minors -/
structure Inc (n k : Nat) (ps : List Nat) : Prop where
  len : ps.length = k
  up : ps.Pairwise (· < ·)
  lt : ∀ p ∈ ps, p < n
/-- g divides all minors, and so does nothing else that doesn't divide g -/
def isG (n : Nat) (rows : List (List Int)) (g : Nat) : Prop := ∀ d : Nat, d ∣ g ↔ ∀ ps, Inc n rows.length ps → d ∣ (minor rows ps).natAbs
theorem isG.uniq {n : Nat} {rows : List (List Int)} {g h : Nat} (a : isG n rows g) (b : isG n rows h) : g = h :=
  Nat.dvd_antisymm ((b g).mpr ((a g).mp (Nat.dvd_refl g))) ((a h).mpr ((b h).mp (Nat.dvd_refl h)))
theorem isG.of {n : Nat} {rows rows' : List (List Int)} {g : Nat} (a : isG n rows g) (h : ∀ d : Nat, (∀ ps, Inc n rows.length ps → d ∣ (minor rows ps).natAbs) ↔ ∀ ps, Inc n rows'.length ps → d ∣ (minor rows' ps).natAbs) : isG n rows' g := fun d => (a d).trans (h d)
theorem isG.abs {n : Nat} {rows rows' : List (List Int)} {g : Nat} (a : isG n rows g) (hl : rows'.length = rows.length) (h : ∀ ps, Inc n rows.length ps → (minor rows' ps).natAbs = (minor rows ps).natAbs) : isG n rows' g :=
  a.of fun d => by
    rw [hl]
    exact ⟨fun k ps i => by rw [h ps i]; exact k ps i, fun k ps i => by rw [← h ps i]; exact k ps i⟩
theorem natAbs_sign {s x : Int} (h : s = 1 ∨ s = -1) : (s * x).natAbs = x.natAbs := by
  rcases h with rfl | rfl
  · rw [Int.one_mul]
  · rw [Int.neg_mul, Int.one_mul, Int.natAbs_neg]
theorem isG.rev {n : Nat} {rows : List (List Int)} {g : Nat} (a : isG n rows g) : isG n rows.reverse g := by
  obtain ⟨s, hs, h⟩ := minor_perm (List.reverse_perm rows).symm
  exact a.abs List.length_reverse fun ps _ => by rw [h ps, natAbs_sign hs]
theorem isG.mul {n : Nat} {rows rows' : List (List Int)} {g : Nat} {c : Int} (a : isG n rows g) (hl : rows'.length = rows.length) (h : ∀ ps, minor rows' ps = c * minor rows ps) : isG n rows' (g * c.natAbs) := fun d => by
  rw [hl]
  constructor
  · intro hd ps i
    rw [h ps, Int.natAbs_mul, Nat.mul_comm]
    exact Nat.dvd_trans hd (Nat.mul_dvd_mul_right ((a g).mp (Nat.dvd_refl g) ps i) _)
  · intro k
    have e : ∀ ps, Inc n rows.length ps → (minor rows' ps).natAbs = (minor rows ps).natAbs * c.natAbs := fun ps _ => by rw [h ps, Int.natAbs_mul, Nat.mul_comm]
    by_cases hc : c.natAbs = 0
    · rw [hc, Nat.mul_zero]; exact Nat.dvd_zero d
    have hpos : 0 < Nat.gcd d c.natAbs := Nat.gcd_pos_of_pos_right _ (Nat.pos_of_ne_zero hc)
    obtain ⟨d1, hd1⟩ := Nat.gcd_dvd_left d c.natAbs
    obtain ⟨c1, hc1⟩ := Nat.gcd_dvd_right d c.natAbs
    have cop : Nat.Coprime d1 c1 := by
      have := Nat.coprime_div_gcd_div_gcd hpos
      have e1 : d / Nat.gcd d c.natAbs = d1 := Nat.div_eq_of_eq_mul_right hpos hd1
      have e2 : c.natAbs / Nat.gcd d c.natAbs = c1 := Nat.div_eq_of_eq_mul_right hpos hc1
      rw [e1, e2] at this
      exact this
    have h1 : d1 ∣ g := (a _).mpr fun ps i => by
      have := k ps i
      rw [e ps i] at this
      have h2 : Nat.gcd d c.natAbs * d1 ∣ Nat.gcd d c.natAbs * ((minor rows ps).natAbs * c1) := by
        rw [← hd1, Nat.mul_left_comm, ← hc1]
        exact this
      exact cop.dvd_of_dvd_mul_right (Nat.dvd_of_mul_dvd_mul_left hpos h2)
    have h3 : Nat.gcd d c.natAbs * d1 ∣ g * c.natAbs := by
      rw [Nat.mul_comm g]
      exact Nat.mul_dvd_mul (Nat.gcd_dvd_right d c.natAbs) h1
    rw [← hd1] at h3
    exact h3
theorem isG.zero {n : Nat} {rows : List (List Int)} (h : ∀ ps, Inc n rows.length ps → minor rows ps = 0) : isG n rows 0 := fun d =>
  ⟨fun _ ps i => by rw [h ps i]; exact Nat.dvd_zero d, fun _ => Nat.dvd_zero d⟩
/-! gcd of a list of minors -/
def gAll (f : List Nat → Int) (pss : List (List Nat)) (g : Nat) : Nat := pss.foldl (fun g ps => Nat.gcd g (f ps).natAbs) g
theorem gAll_dvd (f : List Nat → Int) : ∀ (pss : List (List Nat)) (g d : Nat), d ∣ gAll f pss g ↔ d ∣ g ∧ ∀ ps ∈ pss, d ∣ (f ps).natAbs
  | [], g, d => ⟨fun h => ⟨h, fun _ z => nomatch z⟩, fun h => h.1⟩
  | ps :: pss, g, d => by
    show d ∣ gAll f pss (Nat.gcd g (f ps).natAbs) ↔ _
    rw [gAll_dvd f pss, Nat.dvd_gcd_iff]
    constructor
    · rintro ⟨⟨h1, h2⟩, h3⟩
      exact ⟨h1, fun q hq => (List.mem_cons.mp hq).elim (fun e => by rw [e]; exact h2) (h3 q)⟩
    · rintro ⟨h1, h2⟩
      exact ⟨⟨h1, h2 ps (List.mem_cons_self ..)⟩, fun q hq => h2 q (List.mem_cons_of_mem _ hq)⟩
theorem gAll_isG {n : Nat} {rows : List (List Int)} {pss : List (List Nat)} (h : ∀ ps, ps ∈ pss ↔ Inc n rows.length ps) : isG n rows (gAll (minor rows) pss 0) := fun d => by
  rw [gAll_dvd]
  exact ⟨fun z ps i => z.2 ps ((h ps).mpr i), fun z => ⟨Nat.dvd_zero d, fun ps hp => z ps ((h ps).mp hp)⟩⟩
/-! the tuples of places, one longer at each turn -/
def grow (n : Nat) (ps : List Nat) : List (List Nat) := ((List.range n).filter fun p => ps.isEmpty || decide (ps.getLastD 0 < p)).map fun p => ps ++ [p]
def among (n : Nat) : Nat → List (List Nat)
  | 0 => [[]]
  | k + 1 => (among n k).flatMap (grow n)
theorem pairwise_snoc {ps : List Nat} {p : Nat} : (ps ++ [p]).Pairwise (· < ·) ↔ ps.Pairwise (· < ·) ∧ ∀ q ∈ ps, q < p := by
  rw [List.pairwise_append]
  constructor
  · rintro ⟨h1, _, h3⟩
    exact ⟨h1, fun q hq => h3 q hq p (List.mem_singleton.mpr rfl)⟩
  · rintro ⟨h1, h2⟩
    exact ⟨h1, List.pairwise_singleton _ _, fun q hq x hx => by rw [List.mem_singleton.mp hx]; exact h2 q hq⟩
theorem last_max {ps : List Nat} (h : ps.Pairwise (· < ·)) (hn : ps ≠ []) : ∀ q ∈ ps, q ≤ ps.getLastD 0 := by
  have e : ps.dropLast ++ [ps.getLast hn] = ps := List.dropLast_concat_getLast hn
  have e2 : ps.getLastD 0 = ps.getLast hn := by
    cases ps with
    | nil => exact absurd rfl hn
    | cons x xs => rfl
  intro q hq
  rw [e2]
  rw [← e] at h hq
  rcases List.mem_append.mp hq with hq | hq
  · have := (pairwise_snoc.mp h).2 q hq
    omega
  · rw [List.mem_singleton.mp hq]; exact Nat.le_refl _
theorem among_mem (n : Nat) : ∀ (k : Nat) (ps : List Nat), ps ∈ among n k ↔ Inc n k ps
  | 0, ps => by
    show ps ∈ [[]] ↔ _
    rw [List.mem_singleton]
    exact ⟨fun e => by rw [e]; exact ⟨rfl, .nil, fun _ h => nomatch h⟩, fun h => List.eq_nil_of_length_eq_zero h.len⟩
  | k + 1, ps => by
    show ps ∈ (among n k).flatMap (grow n) ↔ _
    rw [List.mem_flatMap]
    constructor
    · rintro ⟨qs, hq, hp⟩
      have i := (among_mem n k qs).mp hq
      obtain ⟨p, hp2, rfl⟩ := List.mem_map.mp hp
      obtain ⟨h1, h2⟩ := List.mem_filter.mp hp2
      have h1 := List.mem_range.mp h1
      refine ⟨by rw [List.length_append, i.len]; rfl, pairwise_snoc.mpr ⟨i.up, fun q hq => ?_⟩, fun q hq => ?_⟩
      · by_cases hn : qs = []
        · rw [hn] at hq; cases hq
        · have h3 := last_max i.up hn q hq
          rw [Bool.or_eq_true] at h2
          rcases h2 with h2 | h2
          · exact absurd (List.isEmpty_iff.mp h2) hn
          · have := of_decide_eq_true h2
            omega
      · rcases List.mem_append.mp hq with hq | hq
        · exact i.lt q hq
        · rw [List.mem_singleton.mp hq]; exact h1
    · intro i
      have hn : ps ≠ [] := fun e => by have := i.len; rw [e] at this; cases this
      have e : ps.dropLast ++ [ps.getLast hn] = ps := List.dropLast_concat_getLast hn
      have up := i.up
      rw [← e] at up
      obtain ⟨u1, u2⟩ := pairwise_snoc.mp up
      refine ⟨ps.dropLast, (among_mem n k _).mpr ⟨by rw [List.length_dropLast, i.len]; rfl, u1, fun q hq => i.lt q ((List.dropLast_sublist ps).subset hq)⟩, List.mem_map.mpr ⟨ps.getLast hn, List.mem_filter.mpr ⟨List.mem_range.mpr (i.lt _ (List.getLast_mem hn)), ?_⟩, e⟩⟩
      rw [Bool.or_eq_true]
      by_cases hd : ps.dropLast = []
      · exact .inl (List.isEmpty_iff.mpr hd)
      · refine .inr (decide_eq_true (u2 _ ?_))
        rw [show ps.dropLast.getLastD 0 = ps.dropLast.getLast hd from by
          generalize ps.dropLast = l at hd
          cases l with
          | nil => exact absurd rfl hd
          | cons x xs => rfl]
        exact List.getLast_mem hd
theorem among_len (n : Nat) : ∀ k, (among n k).length ≤ n ^ k
  | 0 => Nat.le_refl 1
  | k + 1 => by
    have ih := among_len n k
    have gen : ∀ l : List (List Nat), (l.flatMap (grow n)).length ≤ l.length * n := by
      intro l
      induction l with
      | nil => exact Nat.zero_le _
      | cons x l ih =>
        rw [List.flatMap_cons, List.length_append, List.length_cons, Nat.add_mul]
        have : (grow n x).length ≤ n := by
          unfold grow
          rw [List.length_map]
          refine Nat.le_trans (List.length_filter_le _ _) ?_
          rw [List.length_range]
          exact Nat.le_refl n
        omega
    refine Nat.le_trans (gen _) ?_
    rw [Nat.pow_succ]
    exact Nat.mul_le_mul_right _ ih
/-! choices of so many, in the sequence of the list -/
def chs : List Nat → Nat → List (List Nat)
  | _, 0 => [[]]
  | l, m + 1 => (List.range (l.length - m)).flatMap fun i => (chs (l.drop (i + 1)) m).map fun r => l.getD i 0 :: r
theorem chs_le : ∀ (m : Nat) (l : List Nat) (ps : List Nat), ps ∈ chs l m → m ≤ l.length
  | 0, _, _, _ => Nat.zero_le _
  | m + 1, l, ps, h => by
    obtain ⟨i, hi, _⟩ := List.mem_flatMap.mp (show ps ∈ (List.range (l.length - m)).flatMap _ from h)
    have := List.mem_range.mp hi
    omega
theorem chs_mem : ∀ (m : Nat) (l : List Nat), l.Pairwise (· < ·) → ∀ ps : List Nat, ps ∈ chs l m ↔ ps.length = m ∧ ps.Pairwise (· < ·) ∧ ∀ p ∈ ps, p ∈ l
  | 0, l, _, ps => by
    show ps ∈ [[]] ↔ _
    rw [List.mem_singleton]
    exact ⟨fun e => by rw [e]; exact ⟨rfl, .nil, fun _ h => nomatch h⟩, fun h => List.eq_nil_of_length_eq_zero h.1⟩
  | m + 1, l, hl, ps => by
    show ps ∈ (List.range (l.length - m)).flatMap _ ↔ _
    rw [List.mem_flatMap]
    have hd : ∀ i, (l.drop (i + 1)).Pairwise (· < ·) := fun i => hl.sublist (List.drop_sublist _ _)
    constructor
    · rintro ⟨i, hi, hp⟩
      obtain ⟨qs, hq, rfl⟩ := List.mem_map.mp hp
      obtain ⟨h1, h2, h3⟩ := (chs_mem m _ (hd i) qs).mp hq
      have hi := List.mem_range.mp hi
      have hil : i < l.length := by omega
      have e0 : l.getD i 0 = l[i] := by rw [List.getD_eq_getElem?_getD, List.getElem?_eq_getElem hil]; rfl
      have split := List.drop_eq_getElem_cons hil
      have hp2 : (l.drop i).Pairwise (· < ·) := hl.sublist (List.drop_sublist _ _)
      rw [split, List.pairwise_cons] at hp2
      refine ⟨by rw [List.length_cons, h1], List.pairwise_cons.mpr ⟨fun q hq => by rw [e0]; exact hp2.1 q (h3 q hq), h2⟩, fun p hp => ?_⟩
      rcases List.mem_cons.mp hp with rfl | hp
      · rw [e0]; exact List.getElem_mem hil
      · exact List.mem_of_mem_drop (h3 p hp)
    · rintro ⟨h1, h2, h3⟩
      cases ps with
      | nil => cases h1
      | cons x qs =>
        rw [List.pairwise_cons] at h2
        obtain ⟨i, hil, ei⟩ := List.getElem_of_mem (h3 x (List.mem_cons_self ..))
        have e0 : l.getD i 0 = l[i] := by rw [List.getD_eq_getElem?_getD, List.getElem?_eq_getElem hil]; rfl
        have hq : qs ∈ chs (l.drop (i + 1)) m := by
          refine (chs_mem m _ (hd i) qs).mpr ⟨Nat.succ.inj h1, h2.2, fun q hq => ?_⟩
          have hm := h3 q (List.mem_cons_of_mem _ hq)
          have hlt := h2.1 q hq
          rw [← List.take_append_drop (i + 1) l] at hm
          rcases List.mem_append.mp hm with hm | hm
          · exfalso
            obtain ⟨j, hj, ej⟩ := List.getElem_of_mem hm
            rw [List.length_take] at hj
            rw [List.getElem_take] at ej
            by_cases hji : j = i
            · subst hji; omega
            · have := List.pairwise_iff_getElem.mp hl j i (by omega) hil (by omega)
              omega
          · exact hm
        have := chs_le m _ _ hq
        rw [List.length_drop] at this
        exact ⟨i, List.mem_range.mpr (by omega), List.mem_map.mpr ⟨qs, hq, by rw [e0, ei]⟩⟩
theorem chs_len : ∀ (m : Nat) (l : List Nat) (N : Nat), l.length ≤ N → (chs l m).length ≤ N ^ m
  | 0, _, _, _ => Nat.le_refl 1
  | m + 1, l, N, h => by
    have gen : ∀ is : List Nat, (is.flatMap fun i => (chs (l.drop (i + 1)) m).map fun r => l.getD i 0 :: r).length ≤ is.length * N ^ m := by
      intro is
      induction is with
      | nil => exact Nat.zero_le _
      | cons i is ih =>
        rw [List.flatMap_cons, List.length_append, List.length_cons, Nat.add_mul, List.length_map]
        have := chs_len m (l.drop (i + 1)) N (by rw [List.length_drop]; omega)
        omega
    refine Nat.le_trans (gen _) ?_
    rw [List.length_range, Nat.pow_succ, Nat.mul_comm]
    exact Nat.mul_le_mul_left _ (by omega)
theorem chs_inc {n m : Nat} {ps : List Nat} : ps ∈ chs (List.range n) m ↔ Inc n m ps := by
  rw [chs_mem m _ List.pairwise_lt_range]
  exact ⟨fun ⟨a, b, c⟩ => ⟨a, b, fun p hp => List.mem_range.mp (c p hp)⟩, fun i => ⟨i.len, i.up, fun p hp => List.mem_range.mpr (i.lt p hp)⟩⟩
theorem gAll_le (f : List Nat → Int) (B : Nat) : ∀ (pss : List (List Nat)) (g : Nat), g ≤ B → (∀ ps ∈ pss, (f ps).natAbs ≤ B) → gAll f pss g ≤ B
  | [], g, h, _ => h
  | ps :: pss, g, h, k => by
    show gAll f pss (Nat.gcd g (f ps).natAbs) ≤ B
    refine gAll_le f B pss _ ?_ fun qs hq => k qs (List.mem_cons_of_mem _ hq)
    by_cases g0 : g = 0
    · rw [g0, Nat.gcd_zero_left]
      exact k ps (List.mem_cons_self ..)
    · exact Nat.le_trans (Nat.gcd_le_left _ (Nat.pos_of_ne_zero g0)) h
theorem rev_at (r : List Int) (n p : Nat) (hr : r.length = n) (hp : p < n) : r.reverse.getD p 0 = r.getD (n - 1 - p) 0 := by
  rw [List.getD_eq_getElem?_getD, List.getD_eq_getElem?_getD, List.getElem?_reverse (by omega), hr]
theorem Inc.turn {n k : Nat} {ps : List Nat} (i : Inc n k ps) : Inc n k (ps.map fun p => n - 1 - p).reverse := by
  refine ⟨by rw [List.length_reverse, List.length_map]; exact i.len, ?_, fun q hq => ?_⟩
  · rw [List.pairwise_reverse, List.pairwise_map]
    refine List.Pairwise.imp_of_mem ?_ i.up
    intro a b ha hb hab
    have := i.lt a ha
    have := i.lt b hb
    omega
  · obtain ⟨p, hp, rfl⟩ := List.mem_map.mp (List.mem_reverse.mp hq)
    have := i.lt p hp
    omega
theorem minor_turn {n : Nat} {rows : List (List Int)} {ps : List Nat} (hn : ∀ r ∈ rows, r.length = n) (i : Inc n rows.length ps) : (minor (rows.map List.reverse) ps).natAbs = (minor rows (ps.map fun p => n - 1 - p).reverse).natAbs := by
  have e1 := minor_map (fun p => n - 1 - p) List.reverse rows ps fun r hr p hp => rev_at r n p (hn r hr) (i.lt p hp)
  obtain ⟨s, hs, h⟩ := minor_colperm (List.reverse_perm (ps.map fun p => n - 1 - p)).symm
  have h2 := h rows [] (by rw [List.length_map, List.length_nil, Nat.zero_add]; exact i.len)
  rw [List.nil_append, List.nil_append] at h2
  rw [e1, h2, natAbs_sign hs]
theorem isG.cols {n : Nat} {rows : List (List Int)} {g : Nat} (a : isG n rows g) (hn : ∀ r ∈ rows, r.length = n) : isG n (rows.map List.reverse) g := by
  refine a.of fun d => ?_
  rw [List.length_map]
  constructor
  · intro k ps i
    rw [minor_turn hn i]
    exact k _ i.turn
  · intro k ps i
    have h := k _ i.turn
    rw [minor_turn hn i.turn] at h
    have e : ((ps.map fun p => n - 1 - p).reverse.map fun p => n - 1 - p).reverse = ps := by
      rw [List.map_reverse, List.reverse_reverse, List.map_map]
      have : ps.map ((fun p => n - 1 - p) ∘ fun p => n - 1 - p) = ps.map id := List.map_congr_left fun p hp => by
        have := i.lt p hp
        show n - 1 - (n - 1 - p) = p
        omega
      rw [this, List.map_id]
    rw [e] at h
    exact h
/-- a row again further down -/
theorem isG.twice {n : Nat} {r : List Int} {rs : List (List Int)} : isG n (r :: (rs ++ [r])) 0 := isG.zero fun ps _ => minor_eq0 rs [] ps
/-- a row with c times another row -/
theorem isG.mixed {n : Nat} {pre post : List (List Int)} {r s t : List Int} {c : Int} {g : Nat} (a : isG n (pre ++ r :: post) g) (h : ∀ p, t.getD p 0 = r.getD p 0 + c * s.getD p 0) (h0 : ∀ ps, minor (pre ++ s :: post) ps = 0) : isG n (pre ++ t :: post) g :=
  a.abs (by simp) fun ps _ => by rw [minor_rowlin c h pre ps, h0 ps, Int.mul_zero, Int.add_zero]
theorem isG.scaled {n : Nat} {pre post : List (List Int)} {r t : List Int} {c : Int} {g : Nat} (a : isG n (pre ++ r :: post) g) (h : ∀ p, t.getD p 0 = c * r.getD p 0) : isG n (pre ++ t :: post) (g * c.natAbs) :=
  a.mul (by simp) fun ps => minor_rowsmul c h pre ps
end Lk

namespace K16
open PySem Lk
set_option exponentiation.threshold 1000000
theorem is_integer_eq {d : D} (h : builtD d = true) : m_is_integer [d] = .ret (.bl (isInt d)) := by
  simp [-List.map_map, -List.getD_eq_getElem?_getD, m_is_integer, mb_is_integer, runD, runF, entry, mRet, mRetF, mRetOwn, mRetN, mSeqS, mNext, mBreak, mCont, mIfS, mDrop, mAsg, mNew, mPar, mPar3, mParFE, mParEF, mParFF, mApp, mExt, mItem, mAug, mKill, Fl.kill, killD, mFrz, frzD, mView, mVar, mVarS, mC, mOp, mOpF, mLst, mNil, mCons, mTup, mList, mCB, mCBF, mCall, mKey, mUnL, mTest, mNot, mAnd, mOr, mYes, mAndV, mOrV, mNotV, mIf, mIfF, mChain, mNeg, mNoPart, mPart, mSl, mSlF, mRev, mIsi, isiT, mIso, isoT, mTruth, mSeq, mB, Tg.put, Tg.putAll, optP, ownT, unB, unI, unL, negT, perm, mLRg1, mLRg2, mPop, mPopAt, mSetPop, mAppPop, mNever, h, Ty.has]
  cases d <;> simp [-List.map_map, -List.getD_eq_getElem?_getD, isInt, isBl]
theorem is_list_eq {d : D} (h : builtD d = true) : m_is_list [d] = .ret (.bl (isLst d || isTup d)) := by
  simp [-List.map_map, -List.getD_eq_getElem?_getD, m_is_list, mb_is_list, runD, runF, entry, mRet, mRetF, mRetOwn, mRetN, mSeqS, mNext, mBreak, mCont, mIfS, mDrop, mAsg, mNew, mPar, mPar3, mParFE, mParEF, mParFF, mApp, mExt, mItem, mAug, mKill, Fl.kill, killD, mFrz, frzD, mView, mVar, mVarS, mC, mOp, mOpF, mLst, mNil, mCons, mTup, mList, mCB, mCBF, mCall, mKey, mUnL, mTest, mNot, mAnd, mOr, mYes, mAndV, mOrV, mNotV, mIf, mIfF, mChain, mNeg, mNoPart, mPart, mSl, mSlF, mRev, mIsi, isiT, mIso, isoT, mTruth, mSeq, mB, Tg.put, Tg.putAll, optP, ownT, unB, unI, unL, negT, perm, mLRg1, mLRg2, mPop, mPopAt, mSetPop, mAppPop, mNever, h, Ty.has]
theorem is_row_eq (k : Bool) {a : List Int} (h1 : 1 ≤ a.length) (h2 : a.length ≤ 6) : m_is_row [row k a] = .ret (.bl true) := by
  have e2 : mLc [1] (mSeq (mVar 0)) (.nm 1) mYes (mCall 1 m_is_integer (mCons (mVar 1) mNil)) [some (.dat (row k a)), none] = .ret ((a.map D.int).map fun _ => D.bl true) := by
    refine lc_eq (fun d => .bl true) rfl (by simp -implicitDefEqProofs [runD, runF, entry, mRet, mRetF, mRetOwn, mRetN, mSeqS, mNext, mBreak, mCont, mIfS, mDrop, mAsg, mNew, mPar, mPar3, mParFE, mParEF, mParFF, mApp, mExt, mItem, mAug, mKill, Fl.kill, killD, mFrz, frzD, mView, mVar, mVarS, mC, mOp, mOpF, mLst, mNil, mCons, mTup, mList, mCB, mCBF, mCall, mKey, mUnL, mTest, mNot, mAnd, mOr, mYes, mAndV, mOrV, mNotV, mIf, mIfF, mChain, mNeg, mNoPart, mPart, mSl, mSlF, mRev, mIsi, isiT, mIso, isoT, mTruth, mSeq, mB, Tg.put, Tg.putAll, optP, ownT, unB, unI, unL, negT, perm, mLRg1, mLRg2, mPop, mPopAt, mSetPop, mAppPop, mNever, -List.map_map, -List.getD_eq_getElem?_getD]) (by rw [List.length_map]; omega) fun x hx => ⟨_, rfl, rfl, ?_⟩
    obtain ⟨i, _, rfl⟩ := List.mem_map.mp hx
    simp -implicitDefEqProofs [runD, runF, entry, mRet, mRetF, mRetOwn, mRetN, mSeqS, mNext, mBreak, mCont, mIfS, mDrop, mAsg, mNew, mPar, mPar3, mParFE, mParEF, mParFF, mApp, mExt, mItem, mAug, mKill, Fl.kill, killD, mFrz, frzD, mView, mVar, mVarS, mC, mOp, mOpF, mLst, mNil, mCons, mTup, mList, mCB, mCBF, mCall, mKey, mUnL, mTest, mNot, mAnd, mOr, mYes, mAndV, mOrV, mNotV, mIf, mIfF, mChain, mNeg, mNoPart, mPart, mSl, mSlF, mRev, mIsi, isiT, mIso, isoT, mTruth, mSeq, mB, Tg.put, Tg.putAll, optP, ownT, unB, unI, unL, negT, perm, mLRg1, mLRg2, mPop, mPopAt, mSetPop, mAppPop, mNever, -List.map_map, -List.getD_eq_getElem?_getD, wipeD, is_integer_eq]
  have h1' : (1 : Int) ≤ a.length := by omega
  have h2' : (a.length : Int) ≤ 6 := by omega
  simp only [m_is_row, mb_is_row]
  simp -implicitDefEqProofs [runD, runF, entry, mRet, mRetF, mRetOwn, mRetN, mSeqS, mNext, mBreak, mCont, mIfS, mDrop, mAsg, mNew, mPar, mPar3, mParFE, mParEF, mParFF, mApp, mExt, mItem, mAug, mKill, Fl.kill, killD, mFrz, frzD, mView, mVar, mVarS, mC, mOp, mOpF, mLst, mNil, mCons, mTup, mList, mCB, mCBF, mCall, mKey, mUnL, mTest, mNot, mAnd, mOr, mYes, mAndV, mOrV, mNotV, mIf, mIfF, mChain, mNeg, mNoPart, mPart, mSl, mSlF, mRev, mIsi, isiT, mIso, isoT, mTruth, mSeq, mB, Tg.put, Tg.putAll, optP, ownT, unB, unI, unL, negT, perm, mLRg1, mLRg2, mPop, mPopAt, mSetPop, mAppPop, mNever, -List.map_map, -List.getD_eq_getElem?_getD, is_list_eq, e2, h1', h2']
theorem are_rows_eq (k : Bool) {ps : List (Bool × List Int)} {n : Nat} (h1 : 1 ≤ ps.length) (h2 : ps.length ≤ 6) (hn : ∀ p ∈ ps, p.2.length = n) (n1 : 1 ≤ n) (n2 : n ≤ 6) : m_are_rows [tab k ps] = .ret (.bl true) := by
  have b1 : (1 : Int) ≤ ps.length := by omega
  have b2 : (ps.length : Int) ≤ 6 := by omega
  have e1 : mLc [1] (mSeq (mVar 0)) (.nm 1) mYes (mCall 1 m_is_row (mCons (mVar 1) mNil)) [some (.dat (tab k ps)), none] = .ret ((ps.map fun p => row p.1 p.2).map fun _ => D.bl true) := by
    refine lc_eq (fun _ => .bl true) rfl (by simp -implicitDefEqProofs [runD, runF, entry, mRet, mRetF, mRetOwn, mRetN, mSeqS, mNext, mBreak, mCont, mIfS, mDrop, mAsg, mNew, mPar, mPar3, mParFE, mParEF, mParFF, mApp, mExt, mItem, mAug, mKill, Fl.kill, killD, mFrz, frzD, mView, mVar, mVarS, mC, mOp, mOpF, mLst, mNil, mCons, mTup, mList, mCB, mCBF, mCall, mKey, mUnL, mTest, mNot, mAnd, mOr, mYes, mAndV, mOrV, mNotV, mIf, mIfF, mChain, mNeg, mNoPart, mPart, mSl, mSlF, mRev, mIsi, isiT, mIso, isoT, mTruth, mSeq, mB, Tg.put, Tg.putAll, optP, ownT, unB, unI, unL, negT, perm, mLRg1, mLRg2, mPop, mPopAt, mSetPop, mAppPop, mNever, -List.map_map, -List.getD_eq_getElem?_getD]) (by rw [List.length_map]; omega) fun x hx => ⟨_, rfl, rfl, ?_⟩
    obtain ⟨p, hp, rfl⟩ := List.mem_map.mp hx
    have := hn p hp
    have := is_row_eq p.1 (a := p.2) (by omega) (by omega)
    simp -implicitDefEqProofs [runD, runF, entry, mRet, mRetF, mRetOwn, mRetN, mSeqS, mNext, mBreak, mCont, mIfS, mDrop, mAsg, mNew, mPar, mPar3, mParFE, mParEF, mParFF, mApp, mExt, mItem, mAug, mKill, Fl.kill, killD, mFrz, frzD, mView, mVar, mVarS, mC, mOp, mOpF, mLst, mNil, mCons, mTup, mList, mCB, mCBF, mCall, mKey, mUnL, mTest, mNot, mAnd, mOr, mYes, mAndV, mOrV, mNotV, mIf, mIfF, mChain, mNeg, mNoPart, mPart, mSl, mSlF, mRev, mIsi, isiT, mIso, isoT, mTruth, mSeq, mB, Tg.put, Tg.putAll, optP, ownT, unB, unI, unL, negT, perm, mLRg1, mLRg2, mPop, mPopAt, mSetPop, mAppPop, mNever, -List.map_map, -List.getD_eq_getElem?_getD, wipeD, this]
  have hz : ∃ q, L2.atI ps 0 = some q ∧ q ∈ ps := by
    cases ps with
    | nil => cases h1
    | cons q qs => exact ⟨q, atI_zero, List.mem_cons_self ..⟩
  obtain ⟨q, e0, hq⟩ := hz
  have e2 : mLc [1] (mSeq (mVar 0)) (.nm 1) mYes (mOp eqT (mCB lenT (mCons (mVar 1) mNil)) (mCB lenT (mCons (mOp ixT (mVar 0) (mC (.int 0))) mNil))) [some (.dat (tab k ps)), none] = .ret ((ps.map fun p => row p.1 p.2).map fun _ => D.bl true) := by
    refine lc_eq (fun _ => .bl true) rfl (by simp -implicitDefEqProofs [runD, runF, entry, mRet, mRetF, mRetOwn, mRetN, mSeqS, mNext, mBreak, mCont, mIfS, mDrop, mAsg, mNew, mPar, mPar3, mParFE, mParEF, mParFF, mApp, mExt, mItem, mAug, mKill, Fl.kill, killD, mFrz, frzD, mView, mVar, mVarS, mC, mOp, mOpF, mLst, mNil, mCons, mTup, mList, mCB, mCBF, mCall, mKey, mUnL, mTest, mNot, mAnd, mOr, mYes, mAndV, mOrV, mNotV, mIf, mIfF, mChain, mNeg, mNoPart, mPart, mSl, mSlF, mRev, mIsi, isiT, mIso, isoT, mTruth, mSeq, mB, Tg.put, Tg.putAll, optP, ownT, unB, unI, unL, negT, perm, mLRg1, mLRg2, mPop, mPopAt, mSetPop, mAppPop, mNever, -List.map_map, -List.getD_eq_getElem?_getD]) (by rw [List.length_map]; omega) fun x hx => ⟨_, rfl, rfl, ?_⟩
    obtain ⟨p, hp, rfl⟩ := List.mem_map.mp hx
    simp -implicitDefEqProofs [runD, runF, entry, mRet, mRetF, mRetOwn, mRetN, mSeqS, mNext, mBreak, mCont, mIfS, mDrop, mAsg, mNew, mPar, mPar3, mParFE, mParEF, mParFF, mApp, mExt, mItem, mAug, mKill, Fl.kill, killD, mFrz, frzD, mView, mVar, mVarS, mC, mOp, mOpF, mLst, mNil, mCons, mTup, mList, mCB, mCBF, mCall, mKey, mUnL, mTest, mNot, mAnd, mOr, mYes, mAndV, mOrV, mNotV, mIf, mIfF, mChain, mNeg, mNoPart, mPart, mSl, mSlF, mRev, mIsi, isiT, mIso, isoT, mTruth, mSeq, mB, Tg.put, Tg.putAll, optP, ownT, unB, unI, unL, negT, perm, mLRg1, mLRg2, mPop, mPopAt, mSetPop, mAppPop, mNever, -List.map_map, -List.getD_eq_getElem?_getD, wipeD, e0, hn p hp, hn q hq]
  simp only [m_are_rows, mb_are_rows]
  simp -implicitDefEqProofs [runD, runF, entry, mRet, mRetF, mRetOwn, mRetN, mSeqS, mNext, mBreak, mCont, mIfS, mDrop, mAsg, mNew, mPar, mPar3, mParFE, mParEF, mParFF, mApp, mExt, mItem, mAug, mKill, Fl.kill, killD, mFrz, frzD, mView, mVar, mVarS, mC, mOp, mOpF, mLst, mNil, mCons, mTup, mList, mCB, mCBF, mCall, mKey, mUnL, mTest, mNot, mAnd, mOr, mYes, mAndV, mOrV, mNotV, mIf, mIfF, mChain, mNeg, mNoPart, mPart, mSl, mSlF, mRev, mIsi, isiT, mIso, isoT, mTruth, mSeq, mB, Tg.put, Tg.putAll, optP, ownT, unB, unI, unL, negT, perm, mLRg1, mLRg2, mPop, mPopAt, mSetPop, mAppPop, mNever, -List.map_map, -List.getD_eq_getElem?_getD, is_list_eq, b1, b2, id e1, id e2]
theorem getD_at {α : Type} {xs : List α} {i : Nat} {d : α} (h : i < xs.length) : xs.getD i d = xs[i] := by rw [List.getD_eq_getElem?_getD, List.getElem?_eq_getElem h]; rfl
theorem erase_map {α β : Type} (f : α → β) : ∀ (xs : List α) (i : Nat), (xs.map f).take i ++ (xs.map f).drop (i + 1) = (xs.eraseIdx i).map f := fun xs i => by
  rw [List.eraseIdx_eq_take_drop_succ, List.map_append, List.map_take, List.map_drop]
theorem sg_abs' (i : Nat) : (sg i).natAbs = 1 := sg_abs i
theorem mul_cap {a : Int} {n : Nat} (ha : a.natAbs ≤ 2 ^ n) (hn : n < 400000) : a.natAbs < 2 ^ 400000 := Nat.lt_of_le_of_lt ha (Nat.pow_lt_pow_right (by decide) hn)
theorem det_eq : ∀ (rows : List (List Int)) (ps : List Nat) (fuel : Nat), rows.length < fuel → rows.length ≤ 7 → ps.length ≤ 7 → (∀ r ∈ rows, ∀ x ∈ r, x.natAbs ≤ 2 ^ 60) → m_determinant fuel [mat (rows.map fun r => ps.map fun p => r.getD p 0)] = .ret (.int (minor rows ps))
  | _, _, 0, h, _, _, _ => absurd h (Nat.not_lt_zero _)
  | [], ps, f + 1, _, _, _, _ => by
    simp [-List.map_map, -List.getD_eq_getElem?_getD, m_determinant, mb_determinant, runD, runF, entry, mRet, mRetF, mRetOwn, mRetN, mSeqS, mNext, mBreak, mCont, mIfS, mDrop, mAsg, mNew, mPar, mPar3, mParFE, mParEF, mParFF, mApp, mExt, mItem, mAug, mKill, Fl.kill, killD, mFrz, frzD, mView, mVar, mVarS, mC, mOp, mOpF, mLst, mNil, mCons, mTup, mList, mCB, mCBF, mCall, mKey, mUnL, mTest, mNot, mAnd, mOr, mYes, mAndV, mOrV, mNotV, mIf, mIfF, mChain, mNeg, mNoPart, mPart, mSl, mSlF, mRev, mIsi, isiT, mIso, isoT, mTruth, mSeq, mB, Tg.put, Tg.putAll, optP, ownT, unB, unI, unL, negT, perm, mLRg1, mLRg2, mPop, mPopAt, mSetPop, mAppPop, mNever, entry, minor]
  | r :: rs, ps, f + 1, h, h1, h2, hB => by
    have hB' : ∀ r ∈ rs, ∀ x ∈ r, x.natAbs ≤ 2 ^ 60 := fun r hr => hB r (List.mem_cons_of_mem _ hr)
    rw [List.length_cons] at h h1
    let M : D := mat ((r :: rs).map fun r => ps.map fun p => r.getD p 0)
    let E : Nat → Sts := fun i => [some (.dat M), some (.dat (.int (pt r (minor rs) ps i))), some (.dat (.int (sg i))), none, none, none]
    simp only [m_determinant, mb_determinant]
    simp -implicitDefEqProofs [runD, runF, entry, mRet, mRetF, mRetOwn, mRetN, mSeqS, mNext, mBreak, mCont, mIfS, mDrop, mAsg, mNew, mPar, mPar3, mParFE, mParEF, mParFF, mApp, mExt, mItem, mAug, mKill, Fl.kill, killD, mFrz, frzD, mView, mVar, mVarS, mC, mOp, mOpF, mLst, mNil, mCons, mTup, mList, mCB, mCBF, mCall, mKey, mUnL, mTest, mNot, mAnd, mOr, mYes, mAndV, mOrV, mNotV, mIf, mIfF, mChain, mNeg, mNoPart, mPart, mSl, mSlF, mRev, mIsi, isiT, mIso, isoT, mTruth, mSeq, mB, Tg.put, Tg.putAll, optP, ownT, unB, unI, unL, negT, perm, mLRg1, mLRg2, mPop, mPopAt, mSetPop, mAppPop, mNever, -List.map_map, -List.getD_eq_getElem?_getD]
    rw [for_cnt' (enums 0 ((ps.map fun p => r.getD p 0).map D.int)) E]
    · simp [-List.map_map, -List.getD_eq_getElem?_getD, E, pt_all, minor]
    · rfl
    · simp -implicitDefEqProofs [runD, runF, entry, mRet, mRetF, mRetOwn, mRetN, mSeqS, mNext, mBreak, mCont, mIfS, mDrop, mAsg, mNew, mPar, mPar3, mParFE, mParEF, mParFF, mApp, mExt, mItem, mAug, mKill, Fl.kill, killD, mFrz, frzD, mView, mVar, mVarS, mC, mOp, mOpF, mLst, mNil, mCons, mTup, mList, mCB, mCBF, mCall, mKey, mUnL, mTest, mNot, mAnd, mOr, mYes, mAndV, mOrV, mNotV, mIf, mIfF, mChain, mNeg, mNoPart, mPart, mSl, mSlF, mRev, mIsi, isiT, mIso, isoT, mTruth, mSeq, mB, Tg.put, Tg.putAll, optP, ownT, unB, unI, unL, negT, perm, mLRg1, mLRg2, mPop, mPopAt, mSetPop, mAppPop, mNever, -List.map_map, -List.getD_eq_getElem?_getD, E, M]
      rfl
    · intro i x hx
      obtain ⟨y, hy, rfl⟩ := enums_get hx
      rw [List.map_map, List.getElem?_map, Option.map_eq_some_iff] at hy
      obtain ⟨p, hp, rfl⟩ := hy
      obtain ⟨hi, hp⟩ := List.getElem?_eq_some_iff.mp hp
      have hpe : ps.getD i 0 = p := by rw [getD_at hi, hp]
      refine ⟨_, rfl, ?_⟩
      by_cases hz : r.getD p 0 = 0
      · simp -implicitDefEqProofs [runD, runF, entry, mRet, mRetF, mRetOwn, mRetN, mSeqS, mNext, mBreak, mCont, mIfS, mDrop, mAsg, mNew, mPar, mPar3, mParFE, mParEF, mParFF, mApp, mExt, mItem, mAug, mKill, Fl.kill, killD, mFrz, frzD, mView, mVar, mVarS, mC, mOp, mOpF, mLst, mNil, mCons, mTup, mList, mCB, mCBF, mCall, mKey, mUnL, mTest, mNot, mAnd, mOr, mYes, mAndV, mOrV, mNotV, mIf, mIfF, mChain, mNeg, mNoPart, mPart, mSl, mSlF, mRev, mIsi, isiT, mIso, isoT, mTruth, mSeq, mB, Tg.put, Tg.putAll, optP, ownT, unB, unI, unL, negT, perm, mLRg1, mLRg2, mPop, mPopAt, mSetPop, mAppPop, mNever, -List.map_map, -List.getD_eq_getElem?_getD, E, hz, pt, sg, hpe]
      · have c1 : (sg i * r.getD p 0).natAbs ≤ 2 ^ 60 := by
          rw [Int.natAbs_mul, sg_abs, Nat.one_mul]
          exact getD_bound (hB r (List.mem_cons_self ..)) p
        have c2 : (minor rs (ps.eraseIdx i)).natAbs ≤ (7 * 2 ^ 60) ^ rs.length := minor_bound _ 7 _ _ hB' (Nat.le_trans (List.length_eraseIdx_le ..) h2)
        have c3 : (minor rs (ps.eraseIdx i)).natAbs < 2 ^ 400000 := Nat.lt_of_le_of_lt c2 (Nat.lt_of_le_of_lt (Nat.pow_le_pow_right (by decide) (show rs.length ≤ 7 by omega)) (Nat.lt_of_le_of_lt (show (7 * 2 ^ 60) ^ 7 ≤ 2 ^ 441 by decide) (Nat.pow_lt_pow_right (by decide) (by decide))))
        simp -implicitDefEqProofs [runD, runF, entry, mRet, mRetF, mRetOwn, mRetN, mSeqS, mNext, mBreak, mCont, mIfS, mDrop, mAsg, mNew, mPar, mPar3, mParFE, mParEF, mParFF, mApp, mExt, mItem, mAug, mKill, Fl.kill, killD, mFrz, frzD, mView, mVar, mVarS, mC, mOp, mOpF, mLst, mNil, mCons, mTup, mList, mCB, mCBF, mCall, mKey, mUnL, mTest, mNot, mAnd, mOr, mYes, mAndV, mOrV, mNotV, mIf, mIfF, mChain, mNeg, mNoPart, mPart, mSl, mSlF, mRev, mIsi, isiT, mIso, isoT, mTruth, mSeq, mB, Tg.put, Tg.putAll, optP, ownT, unB, unI, unL, negT, perm, mLRg1, mLRg2, mPop, mPopAt, mSetPop, mAppPop, mNever, -List.map_map, -List.getD_eq_getElem?_getD, E, hz, pt, sg, hpe]
        rw [mulT_ok (i := sg i) (j := r.getD p 0) (mul_cap (n := 60) (by rw [sg_abs' i]; decide) (by decide)) (mul_cap (n := 60) (getD_bound (hB r (List.mem_cons_self ..)) p) (by decide)), T.bind_ret]
        rw [lc_map (fun r => row true (ps.map fun p => r.getD p 0)) (fun r => row true ((ps.eraseIdx i).map fun p => r.getD p 0)) rs]
        · have e2 := det_eq rs (ps.eraseIdx i) f (by omega) (by omega) (Nat.le_trans (List.length_eraseIdx_le ..) h2) hB'
          unfold mat at e2
          rw [List.map_map] at e2
          rw [T.bind_ret, T.bind_ret, T.bind_ret, if_pos (show [D.lst _].length = 1 from rfl)]
          rw [show (fun r : List Int => row true ((ps.eraseIdx i).map fun p => r.getD p 0)) = (row true) ∘ fun r => (ps.eraseIdx i).map fun p => r.getD p 0 from rfl, e2]
          rw [T.bind_ret, mulT_ok (mul_cap (n := 60) c1 (by decide)) c3]
          simp [-List.map_map, -List.getD_eq_getElem?_getD]
        · rfl
        · simp -implicitDefEqProofs [runD, runF, entry, mRet, mRetF, mRetOwn, mRetN, mSeqS, mNext, mBreak, mCont, mIfS, mDrop, mAsg, mNew, mPar, mPar3, mParFE, mParEF, mParFF, mApp, mExt, mItem, mAug, mKill, Fl.kill, killD, mFrz, frzD, mView, mVar, mVarS, mC, mOp, mOpF, mLst, mNil, mCons, mTup, mList, mCB, mCBF, mCall, mKey, mUnL, mTest, mNot, mAnd, mOr, mYes, mAndV, mOrV, mNotV, mIf, mIfF, mChain, mNeg, mNoPart, mPart, mSl, mSlF, mRev, mIsi, isiT, mIso, isoT, mTruth, mSeq, mB, Tg.put, Tg.putAll, optP, ownT, unB, unI, unL, negT, perm, mLRg1, mLRg2, mPop, mPopAt, mSetPop, mAppPop, mNever, -List.map_map, -List.getD_eq_getElem?_getD, M]
          rw [List.map_map]
          rfl
        · omega
        · intro s hs
          refine ⟨_, rfl, rfl, ?_⟩
          have l1 : ((ps.map fun p => s.getD p 0).take i).length + ((ps.map fun p => s.getD p 0).drop (i + 1)).length ≤ 100000 := by
            rw [List.length_take, List.length_drop, List.length_map]
            omega
          have b1 : (0 : Int) ≤ i + 1 := by omega
          have e3 : ((i : Int) + 1).toNat = i + 1 := by omega
          simp -implicitDefEqProofs [runD, runF, entry, mRet, mRetF, mRetOwn, mRetN, mSeqS, mNext, mBreak, mCont, mIfS, mDrop, mAsg, mNew, mPar, mPar3, mParFE, mParEF, mParFF, mApp, mExt, mItem, mAug, mKill, Fl.kill, killD, mFrz, frzD, mView, mVar, mVarS, mC, mOp, mOpF, mLst, mNil, mCons, mTup, mList, mCB, mCBF, mCall, mKey, mUnL, mTest, mNot, mAnd, mOr, mYes, mAndV, mOrV, mNotV, mIf, mIfF, mChain, mNeg, mNoPart, mPart, mSl, mSlF, mRev, mIsi, isiT, mIso, isoT, mTruth, mSeq, mB, Tg.put, Tg.putAll, optP, ownT, unB, unI, unL, negT, perm, mLRg1, mLRg2, mPop, mPopAt, mSetPop, mAppPop, mNever, -List.map_map, -List.getD_eq_getElem?_getD, wipeD, b1, addT_row l1, e3, erase_map]
def pls (ps : List Nat) : List Int := ps.map fun p : Nat => (p : Int)
theorem taken_eq (k : Bool) {rs : List (Bool × List Int)} {ps : List Nat} {n : Nat} (hl : rs.length ≤ 100000) (hp : ps.length ≤ 100000) (hn : ∀ r ∈ rs, r.2.length = n) (h : ∀ p ∈ ps, p < n) : m_taken [tab k rs, row false (pls ps)] = .ret (mat ((rs.map (·.2)).map fun r => ps.map fun p => r.getD p 0)) := by
  simp only [m_taken, mb_taken]
  simp -implicitDefEqProofs [runD, runF, entry, mRet, mRetF, mRetOwn, mRetN, mSeqS, mNext, mBreak, mCont, mIfS, mDrop, mAsg, mNew, mPar, mPar3, mParFE, mParEF, mParFF, mApp, mExt, mItem, mAug, mKill, Fl.kill, killD, mFrz, frzD, mView, mVar, mVarS, mC, mOp, mOpF, mLst, mNil, mCons, mTup, mList, mCB, mCBF, mCall, mKey, mUnL, mTest, mNot, mAnd, mOr, mYes, mAndV, mOrV, mNotV, mIf, mIfF, mChain, mNeg, mNoPart, mPart, mSl, mSlF, mRev, mIsi, isiT, mIso, isoT, mTruth, mSeq, mB, Tg.put, Tg.putAll, optP, ownT, unB, unI, unL, negT, perm, mLRg1, mLRg2, mPop, mPopAt, mSetPop, mAppPop, mNever, -List.map_map, -List.getD_eq_getElem?_getD, entry]
  rw [lc_map (fun r : Bool × List Int => row r.1 r.2) (fun r => row true (ps.map fun p => r.2.getD p 0)) rs rfl (by simp -implicitDefEqProofs [runD, runF, entry, mRet, mRetF, mRetOwn, mRetN, mSeqS, mNext, mBreak, mCont, mIfS, mDrop, mAsg, mNew, mPar, mPar3, mParFE, mParEF, mParFF, mApp, mExt, mItem, mAug, mKill, Fl.kill, killD, mFrz, frzD, mView, mVar, mVarS, mC, mOp, mOpF, mLst, mNil, mCons, mTup, mList, mCB, mCBF, mCall, mKey, mUnL, mTest, mNot, mAnd, mOr, mYes, mAndV, mOrV, mNotV, mIf, mIfF, mChain, mNeg, mNoPart, mPart, mSl, mSlF, mRev, mIsi, isiT, mIso, isoT, mTruth, mSeq, mB, Tg.put, Tg.putAll, optP, ownT, unB, unI, unL, negT, perm, mLRg1, mLRg2, mPop, mPopAt, mSetPop, mAppPop, mNever, -List.map_map, -List.getD_eq_getElem?_getD]) hl]
  · rw [T.bind_ret, T.bind_ret, T.bind_ret]
    unfold mat
    rw [List.map_map, List.map_map]
    rfl
  · intro r hr
    refine ⟨_, rfl, rfl, ?_⟩
    have hrn := hn r hr
    simp -implicitDefEqProofs [runD, runF, entry, mRet, mRetF, mRetOwn, mRetN, mSeqS, mNext, mBreak, mCont, mIfS, mDrop, mAsg, mNew, mPar, mPar3, mParFE, mParEF, mParFF, mApp, mExt, mItem, mAug, mKill, Fl.kill, killD, mFrz, frzD, mView, mVar, mVarS, mC, mOp, mOpF, mLst, mNil, mCons, mTup, mList, mCB, mCBF, mCall, mKey, mUnL, mTest, mNot, mAnd, mOr, mYes, mAndV, mOrV, mNotV, mIf, mIfF, mChain, mNeg, mNoPart, mPart, mSl, mSlF, mRev, mIsi, isiT, mIso, isoT, mTruth, mSeq, mB, Tg.put, Tg.putAll, optP, ownT, unB, unI, unL, negT, perm, mLRg1, mLRg2, mPop, mPopAt, mSetPop, mAppPop, mNever, -List.map_map, -List.getD_eq_getElem?_getD, wipeD]
    rw [lc_map (fun p : Nat => .int (p : Int)) (fun p => .int (r.2.getD p 0)) ps rfl (by simp -implicitDefEqProofs [runD, runF, entry, mRet, mRetF, mRetOwn, mRetN, mSeqS, mNext, mBreak, mCont, mIfS, mDrop, mAsg, mNew, mPar, mPar3, mParFE, mParEF, mParFF, mApp, mExt, mItem, mAug, mKill, Fl.kill, killD, mFrz, frzD, mView, mVar, mVarS, mC, mOp, mOpF, mLst, mNil, mCons, mTup, mList, mCB, mCBF, mCall, mKey, mUnL, mTest, mNot, mAnd, mOr, mYes, mAndV, mOrV, mNotV, mIf, mIfF, mChain, mNeg, mNoPart, mPart, mSl, mSlF, mRev, mIsi, isiT, mIso, isoT, mTruth, mSeq, mB, Tg.put, Tg.putAll, optP, ownT, unB, unI, unL, negT, perm, mLRg1, mLRg2, mPop, mPopAt, mSetPop, mAppPop, mNever, -List.map_map, -List.getD_eq_getElem?_getD, pls]; rw [List.map_map]; rfl) hp]
    · rw [T.bind_ret]
      unfold row sq
      rw [List.map_map]
      rfl
    · intro p hq
      have := h p hq
      refine ⟨_, rfl, rfl, ?_⟩
      simp -implicitDefEqProofs [runD, runF, entry, mRet, mRetF, mRetOwn, mRetN, mSeqS, mNext, mBreak, mCont, mIfS, mDrop, mAsg, mNew, mPar, mPar3, mParFE, mParEF, mParFF, mApp, mExt, mItem, mAug, mKill, Fl.kill, killD, mFrz, frzD, mView, mVar, mVarS, mC, mOp, mOpF, mLst, mNil, mCons, mTup, mList, mCB, mCBF, mCall, mKey, mUnL, mTest, mNot, mAnd, mOr, mYes, mAndV, mOrV, mNotV, mIf, mIfF, mChain, mNeg, mNoPart, mPart, mSl, mSlF, mRev, mIsi, isiT, mIso, isoT, mTruth, mSeq, mB, Tg.put, Tg.putAll, optP, ownT, unB, unI, unL, negT, perm, mLRg1, mLRg2, mPop, mPopAt, mSetPop, mAppPop, mNever, -List.map_map, -List.getD_eq_getElem?_getD, wipeD]
      rw [atI_nat r.2 p (by omega), getD_at (by omega)]
      rfl
theorem pls_len (ps : List Nat) : (pls ps).length = ps.length := List.length_map _
theorem pls_snoc (ps : List Nat) (p : Nat) : pls (ps ++ [p]) = pls ps ++ [(p : Int)] := by unfold pls; rw [List.map_append]; rfl
theorem among_eq {n k : Nat} (hn : n ≤ 6) (hk : k ≤ 6) : m_places_among [.int n, .int k] = .ret (.lst ((among n k).map fun ps => row false (pls ps))) := by
  let E : Nat → Sts := fun i => [some (.dat (.int n)), some (.dat (.int k)), some (.dat (.lst ((among n i).map fun ps => row false (pls ps)))), if i = 0 then none else some (.dat (.int (i - 1 : Nat))), none, none]
  have hr : rng1T [.int (k : Int)] = _ := rng1_nat (by omega)
  have hs : rng1T [.int (n : Int)] = _ := rng1_nat (by omega)
  simp only [m_places_among, mb_places_among]
  simp -implicitDefEqProofs [runD, runF, entry, mRet, mRetF, mRetOwn, mRetN, mSeqS, mNext, mBreak, mCont, mIfS, mDrop, mAsg, mNew, mPar, mPar3, mParFE, mParEF, mParFF, mApp, mExt, mItem, mAug, mKill, Fl.kill, killD, mFrz, frzD, mView, mVar, mVarS, mC, mOp, mOpF, mLst, mNil, mCons, mTup, mList, mCB, mCBF, mCall, mKey, mUnL, mTest, mNot, mAnd, mOr, mYes, mAndV, mOrV, mNotV, mIf, mIfF, mChain, mNeg, mNoPart, mPart, mSl, mSlF, mRev, mIsi, isiT, mIso, isoT, mTruth, mSeq, mB, Tg.put, Tg.putAll, optP, ownT, unB, unI, unL, negT, perm, mLRg1, mLRg2, mPop, mPopAt, mSetPop, mAppPop, mNever, -List.map_map, -List.getD_eq_getElem?_getD, entry]
  rw [for_cnt' ((List.range k).map fun i : Nat => D.int (i : Int)) E]
  · simp [-List.map_map, -List.getD_eq_getElem?_getD, E]
  · rfl
  · simp -implicitDefEqProofs [runD, runF, entry, mRet, mRetF, mRetOwn, mRetN, mSeqS, mNext, mBreak, mCont, mIfS, mDrop, mAsg, mNew, mPar, mPar3, mParFE, mParEF, mParFF, mApp, mExt, mItem, mAug, mKill, Fl.kill, killD, mFrz, frzD, mView, mVar, mVarS, mC, mOp, mOpF, mLst, mNil, mCons, mTup, mList, mCB, mCBF, mCall, mKey, mUnL, mTest, mNot, mAnd, mOr, mYes, mAndV, mOrV, mNotV, mIf, mIfF, mChain, mNeg, mNoPart, mPart, mSl, mSlF, mRev, mIsi, isiT, mIso, isoT, mTruth, mSeq, mB, Tg.put, Tg.putAll, optP, ownT, unB, unI, unL, negT, perm, mLRg1, mLRg2, mPop, mPopAt, mSetPop, mAppPop, mNever, -List.map_map, -List.getD_eq_getElem?_getD, hr]
  · intro i x hx
    rw [List.getElem?_map, Option.map_eq_some_iff] at hx
    obtain ⟨j, hj, rfl⟩ := hx
    obtain ⟨hi, hj⟩ := List.getElem?_eq_some_iff.mp hj
    rw [List.length_range] at hi
    rw [List.getElem_range] at hj
    refine ⟨_, rfl, ?_⟩
    have hl : (among n (i + 1)).length ≤ 100000 := Nat.le_trans (among_len n (i + 1)) (Nat.le_trans (Nat.pow_le_pow_left hn _) (Nat.le_trans (Nat.pow_le_pow_right (by decide) (show i + 1 ≤ 6 by omega)) (by decide)))
    have hf : ∀ l : List (List Nat), (l.flatMap fun ps => ((List.range n).filter fun p => ps.isEmpty || decide (ps.getLastD 0 < p)).map fun p => row false (pls (ps ++ [p]))) = (l.flatMap (grow n)).map fun ps => row false (pls ps) := by
      intro l
      induction l with
      | nil => rfl
      | cons a l ih =>
        rw [List.flatMap_cons, List.flatMap_cons, List.map_append, ih]
        unfold grow
        rw [List.map_map]
        rfl
    have hf' := hf (among n i)
    simp -implicitDefEqProofs [runD, runF, entry, mRet, mRetF, mRetOwn, mRetN, mSeqS, mNext, mBreak, mCont, mIfS, mDrop, mAsg, mNew, mPar, mPar3, mParFE, mParEF, mParFF, mApp, mExt, mItem, mAug, mKill, Fl.kill, killD, mFrz, frzD, mView, mVar, mVarS, mC, mOp, mOpF, mLst, mNil, mCons, mTup, mList, mCB, mCBF, mCall, mKey, mUnL, mTest, mNot, mAnd, mOr, mYes, mAndV, mOrV, mNotV, mIf, mIfF, mChain, mNeg, mNoPart, mPart, mSl, mSlF, mRev, mIsi, isiT, mIso, isoT, mTruth, mSeq, mB, Tg.put, Tg.putAll, optP, ownT, unB, unI, unL, negT, perm, mLRg1, mLRg2, mPop, mPopAt, mSetPop, mAppPop, mNever, -List.map_map, -List.getD_eq_getElem?_getD, E]
    rw [lc2_map (fun ps : List Nat => row false (pls ps)) (fun p : Nat => .int (p : Int)) (fun _ => List.range n) (fun ps p => ps.isEmpty || decide (ps.getLastD 0 < p)) (fun ps p => row false (pls (ps ++ [p]))) (among n i), hf']
    · simp [-List.map_map, -List.getD_eq_getElem?_getD, hj]
      rfl
    · rfl
    · rfl
    · rfl
    · rw [hf', List.length_map]
      exact hl
    · intro ps hps
      have hi := (among_mem n i ps).mp hps
      refine ⟨_, rfl, rfl, by simp -implicitDefEqProofs [runD, runF, entry, mRet, mRetF, mRetOwn, mRetN, mSeqS, mNext, mBreak, mCont, mIfS, mDrop, mAsg, mNew, mPar, mPar3, mParFE, mParEF, mParFF, mApp, mExt, mItem, mAug, mKill, Fl.kill, killD, mFrz, frzD, mView, mVar, mVarS, mC, mOp, mOpF, mLst, mNil, mCons, mTup, mList, mCB, mCBF, mCall, mKey, mUnL, mTest, mNot, mAnd, mOr, mYes, mAndV, mOrV, mNotV, mIf, mIfF, mChain, mNeg, mNoPart, mPart, mSl, mSlF, mRev, mIsi, isiT, mIso, isoT, mTruth, mSeq, mB, Tg.put, Tg.putAll, optP, ownT, unB, unI, unL, negT, perm, mLRg1, mLRg2, mPop, mPopAt, mSetPop, mAppPop, mNever, -List.map_map, -List.getD_eq_getElem?_getD, wipeD, hs], fun p hp => ⟨_, rfl, ?_, fun hc => ?_⟩⟩
      · simp -implicitDefEqProofs [runD, runF, entry, mRet, mRetF, mRetOwn, mRetN, mSeqS, mNext, mBreak, mCont, mIfS, mDrop, mAsg, mNew, mPar, mPar3, mParFE, mParEF, mParFF, mApp, mExt, mItem, mAug, mKill, Fl.kill, killD, mFrz, frzD, mView, mVar, mVarS, mC, mOp, mOpF, mLst, mNil, mCons, mTup, mList, mCB, mCBF, mCall, mKey, mUnL, mTest, mNot, mAnd, mOr, mYes, mAndV, mOrV, mNotV, mIf, mIfF, mChain, mNeg, mNoPart, mPart, mSl, mSlF, mRev, mIsi, isiT, mIso, isoT, mTruth, mSeq, mB, Tg.put, Tg.putAll, optP, ownT, unB, unI, unL, negT, perm, mLRg1, mLRg2, mPop, mPopAt, mSetPop, mAppPop, mNever, -List.map_map, -List.getD_eq_getElem?_getD, wipeD, pls_len]
        by_cases hz : ps = []
        · simp [-List.map_map, -List.getD_eq_getElem?_getD, hz]
        · have : ps.length ≠ 0 := fun z => hz (List.eq_nil_of_length_eq_zero z)
          have e : ps.dropLast ++ [ps.getLast hz] = ps := List.dropLast_concat_getLast hz
          have e2 : L2.atI (pls ps) (-1) = some ((ps.getLastD 0 : Nat) : Int) := by
            rw [← e, pls_snoc, atI_last]
            simp [-List.map_map, -List.getD_eq_getElem?_getD]
          simp [-List.map_map, -List.getD_eq_getElem?_getD, hz, this, e2, unB]
      · have b1 : (pls ps).length + [(p : Int)].length ≤ 100000 := by
          rw [pls_len, hi.len]
          simp [-List.map_map, -List.getD_eq_getElem?_getD]
          omega
        have e1 : D.tup [D.int (p : Int)] = row false [(p : Int)] := rfl
        simp -implicitDefEqProofs [runD, runF, entry, mRet, mRetF, mRetOwn, mRetN, mSeqS, mNext, mBreak, mCont, mIfS, mDrop, mAsg, mNew, mPar, mPar3, mParFE, mParEF, mParFF, mApp, mExt, mItem, mAug, mKill, Fl.kill, killD, mFrz, frzD, mView, mVar, mVarS, mC, mOp, mOpF, mLst, mNil, mCons, mTup, mList, mCB, mCBF, mCall, mKey, mUnL, mTest, mNot, mAnd, mOr, mYes, mAndV, mOrV, mNotV, mIf, mIfF, mChain, mNeg, mNoPart, mPart, mSl, mSlF, mRev, mIsi, isiT, mIso, isoT, mTruth, mSeq, mB, Tg.put, Tg.putAll, optP, ownT, unB, unI, unL, negT, perm, mLRg1, mLRg2, mPop, mPopAt, mSetPop, mAppPop, mNever, -List.map_map, -List.getD_eq_getElem?_getD, wipeD, e1, addT_row b1, pls_snoc]
theorem tab_cols {k : Bool} {rs : List (Bool × List Int)} {n : Nat} (h1 : 1 ≤ rs.length) (hn : ∀ r ∈ rs, r.2.length = n) : ∃ q, L2.atI rs 0 = some q ∧ q.2.length = n := by
  cases rs with
  | nil => cases h1
  | cons q qs => exact ⟨q, atI_zero, hn q (List.mem_cons_self ..)⟩
theorem divisor_of_eq (k : Bool) {rs : List (Bool × List Int)} {n : Nat} (h1 : 1 ≤ rs.length) (h2 : rs.length ≤ 6) (hn : ∀ r ∈ rs, r.2.length = n) (n2 : n ≤ 6) (hB : ∀ r ∈ rs.map (·.2), ∀ x ∈ r, x.natAbs ≤ 2 ^ 60) : m_divisor_of [tab k rs] = .ret (.int (gAll (minor (rs.map (·.2))) (among n rs.length) 0 : Nat)) := by
  obtain ⟨q, hq, hqn⟩ := tab_cols (k := k) h1 hn
  let E : Nat → Sts := fun g => [some (.dat (tab k rs)), some (.dat (.int g)), none]
  simp only [m_divisor_of, mb_divisor_of]
  simp -implicitDefEqProofs [runD, runF, entry, mRet, mRetF, mRetOwn, mRetN, mSeqS, mNext, mBreak, mCont, mIfS, mDrop, mAsg, mNew, mPar, mPar3, mParFE, mParEF, mParFF, mApp, mExt, mItem, mAug, mKill, Fl.kill, killD, mFrz, frzD, mView, mVar, mVarS, mC, mOp, mOpF, mLst, mNil, mCons, mTup, mList, mCB, mCBF, mCall, mKey, mUnL, mTest, mNot, mAnd, mOr, mYes, mAndV, mOrV, mNotV, mIf, mIfF, mChain, mNeg, mNoPart, mPart, mSl, mSlF, mRev, mIsi, isiT, mIso, isoT, mTruth, mSeq, mB, Tg.put, Tg.putAll, optP, ownT, unB, unI, unL, negT, perm, mLRg1, mLRg2, mPop, mPopAt, mSetPop, mAppPop, mNever, -List.map_map, -List.getD_eq_getElem?_getD, entry]
  rw [for_map (fun ps => row false (pls ps)) E (fun g ps => Nat.gcd g (minor (rs.map (·.2)) ps).natAbs) (fun _ => True) (among n rs.length) 0 ?_ trivial]
  · simp [-List.map_map, -List.getD_eq_getElem?_getD, E, gAll]
  · simp -implicitDefEqProofs [runD, runF, entry, mRet, mRetF, mRetOwn, mRetN, mSeqS, mNext, mBreak, mCont, mIfS, mDrop, mAsg, mNew, mPar, mPar3, mParFE, mParEF, mParFF, mApp, mExt, mItem, mAug, mKill, Fl.kill, killD, mFrz, frzD, mView, mVar, mVarS, mC, mOp, mOpF, mLst, mNil, mCons, mTup, mList, mCB, mCBF, mCall, mKey, mUnL, mTest, mNot, mAnd, mOr, mYes, mAndV, mOrV, mNotV, mIf, mIfF, mChain, mNeg, mNoPart, mPart, mSl, mSlF, mRev, mIsi, isiT, mIso, isoT, mTruth, mSeq, mB, Tg.put, Tg.putAll, optP, ownT, unB, unI, unL, negT, perm, mLRg1, mLRg2, mPop, mPopAt, mSetPop, mAppPop, mNever, -List.map_map, -List.getD_eq_getElem?_getD, hq, hqn, among_eq n2 h2]
  · intro ps hps g _
    refine ⟨trivial, _, rfl, ?_⟩
    have hi := (among_mem n _ ps).mp hps
    have e1 := taken_eq k (rs := rs) (ps := ps) (n := n) (by omega) (by rw [hi.len]; omega) hn hi.lt
    have e2 := det_eq (rs.map (·.2)) ps 40 (by rw [List.length_map]; omega) (by rw [List.length_map]; omega) (by rw [hi.len]; omega) hB
    simp -implicitDefEqProofs [runD, runF, entry, mRet, mRetF, mRetOwn, mRetN, mSeqS, mNext, mBreak, mCont, mIfS, mDrop, mAsg, mNew, mPar, mPar3, mParFE, mParEF, mParFF, mApp, mExt, mItem, mAug, mKill, Fl.kill, killD, mFrz, frzD, mView, mVar, mVarS, mC, mOp, mOpF, mLst, mNil, mCons, mTup, mList, mCB, mCBF, mCall, mKey, mUnL, mTest, mNot, mAnd, mOr, mYes, mAndV, mOrV, mNotV, mIf, mIfF, mChain, mNeg, mNoPart, mPart, mSl, mSlF, mRev, mIsi, isiT, mIso, isoT, mTruth, mSeq, mB, Tg.put, Tg.putAll, optP, ownT, unB, unI, unL, negT, perm, mLRg1, mLRg2, mPop, mPopAt, mSetPop, mAppPop, mNever, -List.map_map, -List.getD_eq_getElem?_getD, E, e1, e2]
  · rfl
theorem divisor_eq (k : Bool) {rs : List (Bool × List Int)} {n : Nat} (h1 : 1 ≤ rs.length) (h2 : rs.length ≤ 6) (hn : ∀ r ∈ rs, r.2.length = n) (n1 : 1 ≤ n) (n2 : n ≤ 6) (hB : ∀ r ∈ rs.map (·.2), ∀ x ∈ r, x.natAbs ≤ 2 ^ 60) : m_divisor [tab k rs] = .ret (.int (gAll (minor (rs.map (·.2))) (among n rs.length) 0 : Nat)) := by
  simp only [m_divisor, mb_divisor]
  simp -implicitDefEqProofs [runD, runF, entry, mRet, mRetF, mRetOwn, mRetN, mSeqS, mNext, mBreak, mCont, mIfS, mDrop, mAsg, mNew, mPar, mPar3, mParFE, mParEF, mParFF, mApp, mExt, mItem, mAug, mKill, Fl.kill, killD, mFrz, frzD, mView, mVar, mVarS, mC, mOp, mOpF, mLst, mNil, mCons, mTup, mList, mCB, mCBF, mCall, mKey, mUnL, mTest, mNot, mAnd, mOr, mYes, mAndV, mOrV, mNotV, mIf, mIfF, mChain, mNeg, mNoPart, mPart, mSl, mSlF, mRev, mIsi, isiT, mIso, isoT, mTruth, mSeq, mB, Tg.put, Tg.putAll, optP, ownT, unB, unI, unL, negT, perm, mLRg1, mLRg2, mPop, mPopAt, mSetPop, mAppPop, mNever, -List.map_map, -List.getD_eq_getElem?_getD, entry, are_rows_eq k h1 h2 hn n1 n2, divisor_of_eq k h1 h2 hn n2 hB]
theorem minor_eq : ∀ (rows : List (List Int)) (ps : List Nat) (fuel n : Nat), rows.length < fuel → rows.length ≤ 7 → ps.length ≤ 7 → (∀ r ∈ rows, r.length = n) → (∀ p ∈ ps, p < n) → (∀ r ∈ rows, ∀ x ∈ r, x.natAbs ≤ 2 ^ 60) → m_minor_ fuel [mat rows, row true (pls ps)] = .ret (.int (minor rows ps))
  | _, _, 0, _, h, _, _, _, _, _ => absurd h (Nat.not_lt_zero _)
  | [], ps, f + 1, _, _, _, _, _, _, _ => by
    simp [-List.map_map, -List.getD_eq_getElem?_getD, m_minor_, mb_minor_, runD, runF, entry, mRet, mRetF, mRetOwn, mRetN, mSeqS, mNext, mBreak, mCont, mIfS, mDrop, mAsg, mNew, mPar, mPar3, mParFE, mParEF, mParFF, mApp, mExt, mItem, mAug, mKill, Fl.kill, killD, mFrz, frzD, mView, mVar, mVarS, mC, mOp, mOpF, mLst, mNil, mCons, mTup, mList, mCB, mCBF, mCall, mKey, mUnL, mTest, mNot, mAnd, mOr, mYes, mAndV, mOrV, mNotV, mIf, mIfF, mChain, mNeg, mNoPart, mPart, mSl, mSlF, mRev, mIsi, isiT, mIso, isoT, mTruth, mSeq, mB, Tg.put, Tg.putAll, optP, ownT, unB, unI, unL, negT, perm, mLRg1, mLRg2, mPop, mPopAt, mSetPop, mAppPop, mNever, entry, minor, eqT_mat_nil]
  | r :: rs, ps, f + 1, n, h, h1, h2, hn, hp, hB => by
    have hB' : ∀ r ∈ rs, ∀ x ∈ r, x.natAbs ≤ 2 ^ 60 := fun r hr => hB r (List.mem_cons_of_mem _ hr)
    rw [List.length_cons] at h h1
    let M : D := mat (r :: rs)
    let E : Nat → Sts := fun i => [some (.dat M), some (.dat (row true (pls ps))), some (.dat (.int (pt r (minor rs) ps i))), some (.dat (.int (sg i))), none]
    have hr : rng1T [.int (ps.length : Int)] = _ := rng1_nat (by omega)
    simp only [m_minor_, mb_minor_]
    simp -implicitDefEqProofs [runD, runF, entry, mRet, mRetF, mRetOwn, mRetN, mSeqS, mNext, mBreak, mCont, mIfS, mDrop, mAsg, mNew, mPar, mPar3, mParFE, mParEF, mParFF, mApp, mExt, mItem, mAug, mKill, Fl.kill, killD, mFrz, frzD, mView, mVar, mVarS, mC, mOp, mOpF, mLst, mNil, mCons, mTup, mList, mCB, mCBF, mCall, mKey, mUnL, mTest, mNot, mAnd, mOr, mYes, mAndV, mOrV, mNotV, mIf, mIfF, mChain, mNeg, mNoPart, mPart, mSl, mSlF, mRev, mIsi, isiT, mIso, isoT, mTruth, mSeq, mB, Tg.put, Tg.putAll, optP, ownT, unB, unI, unL, negT, perm, mLRg1, mLRg2, mPop, mPopAt, mSetPop, mAppPop, mNever, -List.map_map, -List.getD_eq_getElem?_getD, eqT_mat_nil]
    rw [for_cnt' ((List.range ps.length).map fun i : Nat => D.int (i : Int)) E]
    · simp [-List.map_map, -List.getD_eq_getElem?_getD, E, pt_all, minor]
    · rfl
    · simp -implicitDefEqProofs [runD, runF, entry, mRet, mRetF, mRetOwn, mRetN, mSeqS, mNext, mBreak, mCont, mIfS, mDrop, mAsg, mNew, mPar, mPar3, mParFE, mParEF, mParFF, mApp, mExt, mItem, mAug, mKill, Fl.kill, killD, mFrz, frzD, mView, mVar, mVarS, mC, mOp, mOpF, mLst, mNil, mCons, mTup, mList, mCB, mCBF, mCall, mKey, mUnL, mTest, mNot, mAnd, mOr, mYes, mAndV, mOrV, mNotV, mIf, mIfF, mChain, mNeg, mNoPart, mPart, mSl, mSlF, mRev, mIsi, isiT, mIso, isoT, mTruth, mSeq, mB, Tg.put, Tg.putAll, optP, ownT, unB, unI, unL, negT, perm, mLRg1, mLRg2, mPop, mPopAt, mSetPop, mAppPop, mNever, -List.map_map, -List.getD_eq_getElem?_getD, M, pls_len, hr]
    · intro i x hx
      rw [List.getElem?_map, Option.map_eq_some_iff] at hx
      obtain ⟨j, hj, rfl⟩ := hx
      obtain ⟨hi, hj⟩ := List.getElem?_eq_some_iff.mp hj
      rw [List.length_range] at hi
      rw [List.getElem_range] at hj
      subst hj
      have hpe : ps.getD i 0 = ps[i] := getD_at hi
      have hpn : ps[i] < n := hp _ (List.getElem_mem hi)
      have hrn : r.length = n := hn r (List.mem_cons_self ..)
      have a1 : L2.atI (pls ps) (i : Int) = some ((ps[i] : Nat) : Int) := by
        rw [atI_nat (pls ps) i (by rw [pls_len]; exact hi)]
        simp [-List.map_map, -List.getD_eq_getElem?_getD, pls]
      have a2 : L2.atI r ((ps[i] : Nat) : Int) = some (r.getD ps[i] 0) := by
        rw [atI_nat r _ (by omega), getD_at (by omega)]
      refine ⟨_, rfl, ?_⟩
      by_cases hz : r.getD ps[i] 0 = 0
      · simp -implicitDefEqProofs [runD, runF, entry, mRet, mRetF, mRetOwn, mRetN, mSeqS, mNext, mBreak, mCont, mIfS, mDrop, mAsg, mNew, mPar, mPar3, mParFE, mParEF, mParFF, mApp, mExt, mItem, mAug, mKill, Fl.kill, killD, mFrz, frzD, mView, mVar, mVarS, mC, mOp, mOpF, mLst, mNil, mCons, mTup, mList, mCB, mCBF, mCall, mKey, mUnL, mTest, mNot, mAnd, mOr, mYes, mAndV, mOrV, mNotV, mIf, mIfF, mChain, mNeg, mNoPart, mPart, mSl, mSlF, mRev, mIsi, isiT, mIso, isoT, mTruth, mSeq, mB, Tg.put, Tg.putAll, optP, ownT, unB, unI, unL, negT, perm, mLRg1, mLRg2, mPop, mPopAt, mSetPop, mAppPop, mNever, -List.map_map, -List.getD_eq_getElem?_getD, E, hz, pt, sg, hpe, M, a1, a2]
      · have c1 : (sg i * r.getD ps[i] 0).natAbs ≤ 2 ^ 60 := by
          rw [Int.natAbs_mul, sg_abs, Nat.one_mul]
          exact getD_bound (hB r (List.mem_cons_self ..)) _
        have c2 : (minor rs (ps.eraseIdx i)).natAbs ≤ (7 * 2 ^ 60) ^ rs.length := minor_bound _ 7 _ _ hB' (Nat.le_trans (List.length_eraseIdx_le ..) h2)
        have c3 : (minor rs (ps.eraseIdx i)).natAbs < 2 ^ 400000 := Nat.lt_of_le_of_lt c2 (Nat.lt_of_le_of_lt (Nat.pow_le_pow_right (by decide) (show rs.length ≤ 7 by omega)) (Nat.lt_of_le_of_lt (show (7 * 2 ^ 60) ^ 7 ≤ 2 ^ 441 by decide) (Nat.pow_lt_pow_right (by decide) (by decide))))
        have l1 : ((pls ps).take i).length + ((pls ps).drop (i + 1)).length ≤ 100000 := by
          rw [List.length_take, List.length_drop, pls_len]
          omega
        have b1 : (0 : Int) ≤ i + 1 := by omega
        have e3 : ((i : Int) + 1).toNat = i + 1 := by omega
        have e4 : (pls ps).take i ++ (pls ps).drop (i + 1) = pls (ps.eraseIdx i) := erase_map _ _ _
        have m1 := mulT_ok (i := sg i) (j := r.getD ps[i] 0) (mul_cap (n := 60) (by rw [sg_abs' i]; decide) (by decide)) (mul_cap (n := 60) (getD_bound (hB r (List.mem_cons_self ..)) _) (by decide))
        have m2 := mulT_ok (mul_cap (n := 60) c1 (by decide)) c3
        have ih := minor_eq rs (ps.eraseIdx i) f n (by omega) (by omega) (Nat.le_trans (List.length_eraseIdx_le ..) h2) (fun s hs => hn s (List.mem_cons_of_mem _ hs)) (fun p hq => hp p (List.mem_of_mem_eraseIdx hq)) hB'
        simp -implicitDefEqProofs [runD, runF, entry, mRet, mRetF, mRetOwn, mRetN, mSeqS, mNext, mBreak, mCont, mIfS, mDrop, mAsg, mNew, mPar, mPar3, mParFE, mParEF, mParFF, mApp, mExt, mItem, mAug, mKill, Fl.kill, killD, mFrz, frzD, mView, mVar, mVarS, mC, mOp, mOpF, mLst, mNil, mCons, mTup, mList, mCB, mCBF, mCall, mKey, mUnL, mTest, mNot, mAnd, mOr, mYes, mAndV, mOrV, mNotV, mIf, mIfF, mChain, mNeg, mNoPart, mPart, mSl, mSlF, mRev, mIsi, isiT, mIso, isoT, mTruth, mSeq, mB, Tg.put, Tg.putAll, optP, ownT, unB, unI, unL, negT, perm, mLRg1, mLRg2, mPop, mPopAt, mSetPop, mAppPop, mNever, -List.map_map, -List.getD_eq_getElem?_getD, E, hz, pt, sg, hpe, M, a1, a2, addT_row l1, b1, e3, e4, id m1, id m2, id ih]
theorem chs_length : ∀ (m : Nat) (l : List Nat) (ps : List Nat), ps ∈ chs l m → ps.length = m
  | 0, l, ps, h => by
    have h : ps ∈ [[]] := h
    rw [List.mem_singleton.mp h]
    rfl
  | m + 1, l, ps, h => by
    obtain ⟨i, _, h⟩ := List.mem_flatMap.mp (show ps ∈ (List.range (l.length - m)).flatMap _ from h)
    obtain ⟨qs, hq, rfl⟩ := List.mem_map.mp h
    rw [List.length_cons, chs_length m _ qs hq]
theorem choices_eq : ∀ (m : Nat) (l : List Nat) (fuel : Nat), m < fuel → l.length ≤ 6 → m ≤ 6 → m_choices_ fuel [row true (pls l), .int m] = .ret (.lst ((chs l m).map fun ps => row true (pls ps)))
  | _, _, 0, h, _, _ => absurd h (Nat.not_lt_zero _)
  | 0, l, f + 1, _, _, _ => by
    simp [-List.map_map, -List.getD_eq_getElem?_getD, m_choices_, mb_choices_, runD, runF, entry, mRet, mRetF, mRetOwn, mRetN, mSeqS, mNext, mBreak, mCont, mIfS, mDrop, mAsg, mNew, mPar, mPar3, mParFE, mParEF, mParFF, mApp, mExt, mItem, mAug, mKill, Fl.kill, killD, mFrz, frzD, mView, mVar, mVarS, mC, mOp, mOpF, mLst, mNil, mCons, mTup, mList, mCB, mCBF, mCall, mKey, mUnL, mTest, mNot, mAnd, mOr, mYes, mAndV, mOrV, mNotV, mIf, mIfF, mChain, mNeg, mNoPart, mPart, mSl, mSlF, mRev, mIsi, isiT, mIso, isoT, mTruth, mSeq, mB, Tg.put, Tg.putAll, optP, ownT, unB, unI, unL, negT, perm, mLRg1, mLRg2, mPop, mPopAt, mSetPop, mAppPop, mNever, entry, chs]
    rfl
  | m + 1, l, f + 1, h, hl, hm => by
    let F : Nat → List (List Nat) := fun i => (chs (l.drop (i + 1)) m).map fun r => l.getD i 0 :: r
    have hF : ∀ i, (F i).length ≤ 6 ^ m := fun i => by
      show ((chs _ m).map _).length ≤ _
      rw [List.length_map]
      exact chs_len m _ 6 (by rw [List.length_drop]; omega)
    have h5 : 6 ^ m ≤ 7776 := Nat.le_trans (Nat.pow_le_pow_right (by decide) (show m ≤ 5 by omega)) (by decide)
    let E : Nat → Sts := fun i => [some (.dat (row true (pls l))), some (.dat (.int (m + 1 : Nat))), some (.own (((List.range i).flatMap F).map fun ps => row true (pls ps))), none, none]
    have hr : rng1T [.int ((l.length : Int) - (m + 1 : Nat) + 1)] = _ := rng1_int (by omega) (by omega)
    have ht : ((l.length : Int) - (m + 1 : Nat) + 1).toNat = l.length - m := by omega
    rw [ht] at hr
    have hz : ¬ ((m : Int) + 1 = 0) := by omega
    simp only [m_choices_, mb_choices_]
    simp -implicitDefEqProofs [runD, runF, entry, mRet, mRetF, mRetOwn, mRetN, mSeqS, mNext, mBreak, mCont, mIfS, mDrop, mAsg, mNew, mPar, mPar3, mParFE, mParEF, mParFF, mApp, mExt, mItem, mAug, mKill, Fl.kill, killD, mFrz, frzD, mView, mVar, mVarS, mC, mOp, mOpF, mLst, mNil, mCons, mTup, mList, mCB, mCBF, mCall, mKey, mUnL, mTest, mNot, mAnd, mOr, mYes, mAndV, mOrV, mNotV, mIf, mIfF, mChain, mNeg, mNoPart, mPart, mSl, mSlF, mRev, mIsi, isiT, mIso, isoT, mTruth, mSeq, mB, Tg.put, Tg.putAll, optP, ownT, unB, unI, unL, negT, perm, mLRg1, mLRg2, mPop, mPopAt, mSetPop, mAppPop, mNever, -List.map_map, -List.getD_eq_getElem?_getD, hz]
    rw [for_cnt' ((List.range (l.length - m)).map fun i : Nat => D.int (i : Int)) E]
    · simp [-List.map_map, -List.getD_eq_getElem?_getD, E]
      rfl
    · rfl
    · have hr' := hr
      rw [Int.natCast_add] at hr'
      simp -implicitDefEqProofs [runD, runF, entry, mRet, mRetF, mRetOwn, mRetN, mSeqS, mNext, mBreak, mCont, mIfS, mDrop, mAsg, mNew, mPar, mPar3, mParFE, mParEF, mParFF, mApp, mExt, mItem, mAug, mKill, Fl.kill, killD, mFrz, frzD, mView, mVar, mVarS, mC, mOp, mOpF, mLst, mNil, mCons, mTup, mList, mCB, mCBF, mCall, mKey, mUnL, mTest, mNot, mAnd, mOr, mYes, mAndV, mOrV, mNotV, mIf, mIfF, mChain, mNeg, mNoPart, mPart, mSl, mSlF, mRev, mIsi, isiT, mIso, isoT, mTruth, mSeq, mB, Tg.put, Tg.putAll, optP, ownT, unB, unI, unL, negT, perm, mLRg1, mLRg2, mPop, mPopAt, mSetPop, mAppPop, mNever, -List.map_map, -List.getD_eq_getElem?_getD, pls_len, id hr', show ((1 : Nat) : Int) = 1 from rfl]
      exact hr
    · intro i x hx
      rw [List.getElem?_map, Option.map_eq_some_iff] at hx
      obtain ⟨j, hj, rfl⟩ := hx
      obtain ⟨hi, hj⟩ := List.getElem?_eq_some_iff.mp hj
      rw [List.length_range] at hi
      rw [List.getElem_range] at hj
      subst hj
      have hil : i < l.length := by omega
      have a1 : L2.atI (pls l) (i : Int) = some ((l.getD i 0 : Nat) : Int) := by
        rw [atI_nat (pls l) i (by rw [pls_len]; exact hil), getD_at hil]
        simp [-List.map_map, -List.getD_eq_getElem?_getD, pls]
      have b1 : (0 : Int) ≤ i + 1 := by omega
      have e3 : ((i : Int) + 1).toNat = i + 1 := by omega
      have e4 : (pls l).drop (i + 1) = pls (l.drop (i + 1)) := by unfold pls; rw [List.map_drop]
      have e5 : ((m : Int) + 1 - 1) = m := by omega
      have ih := choices_eq m (l.drop (i + 1)) f (by omega) (by rw [List.length_drop]; omega) (by omega)
      have hcap : ((List.range i).flatMap F).length + (F i).length ≤ 100000 := by
        have h1 := flat_len F (6 ^ m) (List.range i) fun x _ => hF x
        rw [List.length_range] at h1
        have h2 := hF i
        have h3 : i * 6 ^ m ≤ 6 * 7776 := Nat.mul_le_mul (by omega) h5
        omega
      refine ⟨_, rfl, ?_⟩
      simp -implicitDefEqProofs [runD, runF, entry, mRet, mRetF, mRetOwn, mRetN, mSeqS, mNext, mBreak, mCont, mIfS, mDrop, mAsg, mNew, mPar, mPar3, mParFE, mParEF, mParFF, mApp, mExt, mItem, mAug, mKill, Fl.kill, killD, mFrz, frzD, mView, mVar, mVarS, mC, mOp, mOpF, mLst, mNil, mCons, mTup, mList, mCB, mCBF, mCall, mKey, mUnL, mTest, mNot, mAnd, mOr, mYes, mAndV, mOrV, mNotV, mIf, mIfF, mChain, mNeg, mNoPart, mPart, mSl, mSlF, mRev, mIsi, isiT, mIso, isoT, mTruth, mSeq, mB, Tg.put, Tg.putAll, optP, ownT, unB, unI, unL, negT, perm, mLRg1, mLRg2, mPop, mPopAt, mSetPop, mAppPop, mNever, -List.map_map, -List.getD_eq_getElem?_getD, E]
      rw [lc_map (fun ps : List Nat => row true (pls ps)) (fun ps => row true (pls (l.getD i 0 :: ps))) (chs (l.drop (i + 1)) m)]
      · have e6 : (chs (l.drop (i + 1)) m).map (fun ps => row true (pls (l.getD i 0 :: ps))) = (F i).map fun ps => row true (pls ps) := by
          show _ = ((chs _ m).map _).map _
          rw [List.map_map]
          rfl
        rw [e6]
        have hcap2 := hcap
        rw [List.length_flatMap] at hcap2
        simp [-List.map_map, -List.getD_eq_getElem?_getD, hcap, hcap2, List.range_succ, List.flatMap_append]
      · rfl
      · simp -implicitDefEqProofs [runD, runF, entry, mRet, mRetF, mRetOwn, mRetN, mSeqS, mNext, mBreak, mCont, mIfS, mDrop, mAsg, mNew, mPar, mPar3, mParFE, mParEF, mParFF, mApp, mExt, mItem, mAug, mKill, Fl.kill, killD, mFrz, frzD, mView, mVar, mVarS, mC, mOp, mOpF, mLst, mNil, mCons, mTup, mList, mCB, mCBF, mCall, mKey, mUnL, mTest, mNot, mAnd, mOr, mYes, mAndV, mOrV, mNotV, mIf, mIfF, mChain, mNeg, mNoPart, mPart, mSl, mSlF, mRev, mIsi, isiT, mIso, isoT, mTruth, mSeq, mB, Tg.put, Tg.putAll, optP, ownT, unB, unI, unL, negT, perm, mLRg1, mLRg2, mPop, mPopAt, mSetPop, mAppPop, mNever, -List.map_map, -List.getD_eq_getElem?_getD, b1, e3, e4, e5, id ih]
      · exact Nat.le_trans (chs_len m _ 6 (by rw [List.length_drop]; omega)) (by omega)
      · intro ps hps
        have := (chs_len m (l.drop (i + 1)) 6 (by rw [List.length_drop]; omega))
        refine ⟨_, rfl, rfl, ?_⟩
        have lp : ps.length ≤ 100 := by rw [chs_length m _ ps hps]; omega
        have l1 : [((l.getD i 0 : Nat) : Int)].length + (pls ps).length ≤ 100000 := by
          rw [pls_len]; simp [-List.map_map, -List.getD_eq_getElem?_getD]; omega
        have e7 : D.lst [D.int ((l.getD i 0 : Nat) : Int)] = row true [((l.getD i 0 : Nat) : Int)] := rfl
        simp -implicitDefEqProofs [runD, runF, entry, mRet, mRetF, mRetOwn, mRetN, mSeqS, mNext, mBreak, mCont, mIfS, mDrop, mAsg, mNew, mPar, mPar3, mParFE, mParEF, mParFF, mApp, mExt, mItem, mAug, mKill, Fl.kill, killD, mFrz, frzD, mView, mVar, mVarS, mC, mOp, mOpF, mLst, mNil, mCons, mTup, mList, mCB, mCBF, mCall, mKey, mUnL, mTest, mNot, mAnd, mOr, mYes, mAndV, mOrV, mNotV, mIf, mIfF, mChain, mNeg, mNoPart, mPart, mSl, mSlF, mRev, mIsi, isiT, mIso, isoT, mTruth, mSeq, mB, Tg.put, Tg.putAll, optP, ownT, unB, unI, unL, negT, perm, mLRg1, mLRg2, mPop, mPopAt, mSetPop, mAppPop, mNever, -List.map_map, -List.getD_eq_getElem?_getD, wipeD, a1, e7, addT_row l1]
        rfl
theorem common_eq {a b : Int} (h : b.natAbs < 2 ^ 1000) : m_common_ [.int a, .int b] = .ret (.int (Nat.gcd a.natAbs b.natAbs : Nat)) := by
  simp only [m_common_, mb_common_]
  have ea : (if a < 0 then -a else a) = (a.natAbs : Int) := by omega
  have eb : (if b < 0 then -b else b) = (b.natAbs : Int) := by omega
  simp -implicitDefEqProofs [runD, runF, entry, mRet, mRetF, mRetOwn, mRetN, mSeqS, mNext, mBreak, mCont, mIfS, mDrop, mAsg, mNew, mPar, mPar3, mParFE, mParEF, mParFF, mApp, mExt, mItem, mAug, mKill, Fl.kill, killD, mFrz, frzD, mView, mVar, mVarS, mC, mOp, mOpF, mLst, mNil, mCons, mTup, mList, mCB, mCBF, mCall, mKey, mUnL, mTest, mNot, mAnd, mOr, mYes, mAndV, mOrV, mNotV, mIf, mIfF, mChain, mNeg, mNoPart, mPart, mSl, mSlF, mRev, mIsi, isiT, mIso, isoT, mTruth, mSeq, mB, Tg.put, Tg.putAll, optP, ownT, unB, unI, unL, negT, perm, mLRg1, mLRg2, mPop, mPopAt, mSetPop, mAppPop, mNever, -List.map_map, -List.getD_eq_getElem?_getD, entry, ea, eb]
  let mt : MB := mTest (mOp (cmpT fun i j => decide (j < i)) (mVar 1) (mC (.int 0)))
  let ms : MS := mPar 0 1 (mCons (mVar 1) (mCons (mOp modT (mCB intT (mCons (mVar 0) mNil)) (mVar 1)) mNil))
  let S : Nat → Nat → Sts := fun x y => [some (.dat (.int (x : Nat))), some (.dat (.int (y : Nat)))]
  have stop : ∀ n x, whileGo mt ms (n + 1) (S x 0) = .ret (.nx (S x 0)) := fun n x => by
    simp [-List.map_map, -List.getD_eq_getElem?_getD, whileGo, mt, S, mTest, mOp, mVar, mC, unB]
  have step : ∀ n x y, 0 < y → whileGo mt ms (n + 1) (S x y) = whileGo mt ms n (S y (x % y)) := fun n x y hy => by
    simp [-List.map_map, -List.getD_eq_getElem?_getD, whileGo, mt, ms, S, mTest, mOp, mVar, mC, unB, mPar, mCons, mNil, mCB, hy]
  have key : ∀ (k fuel : Nat) (x y : Nat), y < 2 ^ k → 2 * k + 1 ≤ fuel → whileGo mt ms fuel (S x y) = .ret (.nx (S (Nat.gcd x y) 0)) := by
    intro k
    induction k with
    | zero =>
      intro fuel x y hy hf
      have e : y = 0 := by simp [-List.map_map, -List.getD_eq_getElem?_getD] at hy; exact hy
      subst e
      obtain ⟨f, rfl⟩ : ∃ f, fuel = f + 1 := ⟨fuel - 1, by omega⟩
      rw [stop, Nat.gcd_zero_right]
    | succ k ih =>
      intro fuel x y hy hf
      obtain ⟨f, rfl⟩ : ∃ f, fuel = f + 2 := ⟨fuel - 2, by omega⟩
      by_cases y0 : y = 0
      · subst y0
        rw [stop, Nat.gcd_zero_right]
      · have yp : 0 < y := Nat.pos_of_ne_zero y0
        rw [step _ _ _ yp]
        have g1 : Nat.gcd x y = Nat.gcd y (x % y) := by rw [Nat.gcd_comm, Nat.gcd_rec, Nat.gcd_comm]
        by_cases r0 : x % y = 0
        · rw [r0, stop, g1, r0, Nat.gcd_zero_right]
        · have rp : 0 < x % y := Nat.pos_of_ne_zero r0
          have rl : x % y < y := Nat.mod_lt _ yp
          have g2 : Nat.gcd y (x % y) = Nat.gcd (x % y) (y % (x % y)) := by rw [Nat.gcd_comm, Nat.gcd_rec, Nat.gcd_comm]
          have m1 : y % (x % y) < x % y := Nat.mod_lt _ rp
          have m2 : y % (x % y) + x % y ≤ y := by
            have := Nat.div_add_mod y (x % y)
            have d1 : 1 ≤ y / (x % y) := Nat.div_pos (by omega) rp
            have d2 := Nat.mul_le_mul_left (x % y) d1
            omega
          rw [step _ _ _ rp, ih f _ _ (by rw [Nat.pow_succ] at hy; omega) (by omega), g1, g2]
  show (((whileGo mt ms 1000000 (S a.natAbs b.natAbs)).bind _).bind _).bind _ = _
  rw [key 1000 1000000 a.natAbs b.natAbs h (by decide)]
  simp [-List.map_map, -List.getD_eq_getElem?_getD, S]
theorem minor_small {rows : List (List Int)} {ps : List Nat} (h1 : rows.length ≤ 7) (h2 : ps.length ≤ 7) (hB : ∀ r ∈ rows, ∀ x ∈ r, x.natAbs ≤ 2 ^ 60) : (minor rows ps).natAbs < 2 ^ 1000 :=
  Nat.lt_of_le_of_lt (minor_bound _ 7 _ _ hB h2) (Nat.lt_of_le_of_lt (Nat.pow_le_pow_right (by decide) h1) (Nat.lt_of_le_of_lt (show (7 * 2 ^ 60) ^ 7 ≤ 2 ^ 441 by decide) (Nat.pow_lt_pow_right (by decide) (by decide))))
theorem pls_range (n : Nat) : D.lst ((List.range n).map fun i : Nat => D.int (i : Int)) = row true (pls (List.range n)) := by
  unfold pls row
  rw [List.map_map]
  rfl
theorem divisor__eq {rows : List (List Int)} {n : Nat} (h1 : 1 ≤ rows.length) (h2 : rows.length ≤ 6) (hn : ∀ r ∈ rows, r.length = n) (n2 : n ≤ 6) (hB : ∀ r ∈ rows, ∀ x ∈ r, x.natAbs ≤ 2 ^ 60) : m_divisor_ [mat rows] = .ret (.int (gAll (minor rows) (chs (List.range n) rows.length) 0 : Nat)) := by
  obtain ⟨q, hq, hqn⟩ : ∃ q, L2.atI rows 0 = some q ∧ q.length = n := by
    cases rows with
    | nil => cases h1
    | cons q qs => exact ⟨q, atI_zero, hn q (List.mem_cons_self ..)⟩
  let E : Nat → Sts := fun g => [some (.dat (mat rows)), some (.dat (.int g)), none]
  have ch := choices_eq rows.length (List.range n) 40 (by omega) (by rw [List.length_range]; exact n2) h2
  have rg : irng 0 n = (List.range n).map fun i : Nat => D.int (i : Int) := by
    unfold irng
    apply List.map_congr_left
    intro i _
    rw [Int.zero_add]
  have rb : (n : Int) ≤ 100000 := by omega
  simp only [m_divisor_, mb_divisor_]
  simp -implicitDefEqProofs [runD, runF, entry, mRet, mRetF, mRetOwn, mRetN, mSeqS, mNext, mBreak, mCont, mIfS, mDrop, mAsg, mNew, mPar, mPar3, mParFE, mParEF, mParFF, mApp, mExt, mItem, mAug, mKill, Fl.kill, killD, mFrz, frzD, mView, mVar, mVarS, mC, mOp, mOpF, mLst, mNil, mCons, mTup, mList, mCB, mCBF, mCall, mKey, mUnL, mTest, mNot, mAnd, mOr, mYes, mAndV, mOrV, mNotV, mIf, mIfF, mChain, mNeg, mNoPart, mPart, mSl, mSlF, mRev, mIsi, isiT, mIso, isoT, mTruth, mSeq, mB, Tg.put, Tg.putAll, optP, ownT, unB, unI, unL, negT, perm, mLRg1, mLRg2, mPop, mPopAt, mSetPop, mAppPop, mNever, -List.map_map, -List.getD_eq_getElem?_getD, entry]
  rw [for_map (fun ps => row true (pls ps)) E (fun g ps => Nat.gcd g (minor rows ps).natAbs) (fun _ => True) (chs (List.range n) rows.length) 0 ?_ trivial]
  · simp [-List.map_map, -List.getD_eq_getElem?_getD, E, gAll]
  · simp -implicitDefEqProofs [runD, runF, entry, mRet, mRetF, mRetOwn, mRetN, mSeqS, mNext, mBreak, mCont, mIfS, mDrop, mAsg, mNew, mPar, mPar3, mParFE, mParEF, mParFF, mApp, mExt, mItem, mAug, mKill, Fl.kill, killD, mFrz, frzD, mView, mVar, mVarS, mC, mOp, mOpF, mLst, mNil, mCons, mTup, mList, mCB, mCBF, mCall, mKey, mUnL, mTest, mNot, mAnd, mOr, mYes, mAndV, mOrV, mNotV, mIf, mIfF, mChain, mNeg, mNoPart, mPart, mSl, mSlF, mRev, mIsi, isiT, mIso, isoT, mTruth, mSeq, mB, Tg.put, Tg.putAll, optP, ownT, unB, unI, unL, negT, perm, mLRg1, mLRg2, mPop, mPopAt, mSetPop, mAppPop, mNever, -List.map_map, -List.getD_eq_getElem?_getD, hq, hqn, rb, id rg, pls_range, ch]
  · intro ps hps g _
    refine ⟨trivial, _, rfl, ?_⟩
    have hi := chs_inc.mp hps
    have e1 := minor_eq rows ps 40 n (by omega) (by omega) (by rw [hi.len]; omega) hn hi.lt hB
    have e2 := common_eq (a := (g : Int)) (minor_small (ps := ps) (by omega) (by rw [hi.len]; omega) hB)
    simp -implicitDefEqProofs [runD, runF, entry, mRet, mRetF, mRetOwn, mRetN, mSeqS, mNext, mBreak, mCont, mIfS, mDrop, mAsg, mNew, mPar, mPar3, mParFE, mParEF, mParFF, mApp, mExt, mItem, mAug, mKill, Fl.kill, killD, mFrz, frzD, mView, mVar, mVarS, mC, mOp, mOpF, mLst, mNil, mCons, mTup, mList, mCB, mCBF, mCall, mKey, mUnL, mTest, mNot, mAnd, mOr, mYes, mAndV, mOrV, mNotV, mIf, mIfF, mChain, mNeg, mNoPart, mPart, mSl, mSlF, mRev, mIsi, isiT, mIso, isoT, mTruth, mSeq, mB, Tg.put, Tg.putAll, optP, ownT, unB, unI, unL, negT, perm, mLRg1, mLRg2, mPop, mPopAt, mSetPop, mAppPop, mNever, -List.map_map, -List.getD_eq_getElem?_getD, E, e1, e2]
  · rfl
theorem both_eq {rows : List (List Int)} {n : Nat} : gAll (minor rows) (among n rows.length) 0 = gAll (minor rows) (chs (List.range n) rows.length) 0 :=
  (gAll_isG fun ps => among_mem n rows.length ps).uniq (gAll_isG fun ps => chs_inc)
theorem passed_wp {p : Addr → Prop} {a : Addr} {r : List Int} {P : D → Prop} (hp : p a) (h : ∀ k, P (row k r)) : (m_passed_ [.adr a, row true r]).wq p P := by
  simp only [m_passed_, mb_passed_]
  simp -implicitDefEqProofs [runD, runF, entry, mRet, mRetF, mRetOwn, mRetN, mSeqS, mNext, mBreak, mCont, mIfS, mDrop, mAsg, mNew, mPar, mPar3, mParFE, mParEF, mParFF, mApp, mExt, mItem, mAug, mKill, Fl.kill, killD, mFrz, frzD, mView, mVar, mVarS, mC, mOp, mOpF, mLst, mNil, mCons, mTup, mList, mCB, mCBF, mCall, mKey, mUnL, mTest, mNot, mAnd, mOr, mYes, mAndV, mOrV, mNotV, mIf, mIfF, mChain, mNeg, mNoPart, mPart, mSl, mSlF, mRev, mIsi, isiT, mIso, isoT, mTruth, mSeq, mB, Tg.put, Tg.putAll, optP, ownT, unB, unI, unL, negT, perm, mLRg1, mLRg2, mPop, mPopAt, mSetPop, mAppPop, mNever, -List.map_map, -List.getD_eq_getElem?_getD, entry, hp]
  intro i h0 h1
  by_cases hi : i = 0
  · simp [-List.map_map, -List.getD_eq_getElem?_getD, hi]
    exact h true
  · simp [-List.map_map, -List.getD_eq_getElem?_getD, hi]
    exact h false
theorem rows_wp {p : Addr → Prop} {a : Addr} {m n : Nat} {P : D → Prop} (hp : p a) (hm1 : 1 ≤ m) (hm : m ≤ 5) (hn1 : 1 ≤ n) (hn : n ≤ 6) (h : ∀ rows : List (List Int), rows.length = m → (∀ r ∈ rows, r.length = n) → (∀ r ∈ rows, ∀ x ∈ r, x.natAbs ≤ 2 ^ 40) → P (mat rows)) : (m_rows_ [.adr a, .int m, .int n]).wq p P := by
  have hrm : rng1T [.int (m : Int)] = _ := rng1_nat (by omega)
  have hrn : rng1T [.int (n : Int)] = _ := rng1_nat (by omega)
  simp only [m_rows_, mb_rows_]
  simp -implicitDefEqProofs [runD, runF, entry, mRet, mRetF, mRetOwn, mRetN, mSeqS, mNext, mBreak, mCont, mIfS, mDrop, mAsg, mNew, mPar, mPar3, mParFE, mParEF, mParFF, mApp, mExt, mItem, mAug, mKill, Fl.kill, killD, mFrz, frzD, mView, mVar, mVarS, mC, mOp, mOpF, mLst, mNil, mCons, mTup, mList, mCB, mCBF, mCall, mKey, mUnL, mTest, mNot, mAnd, mOr, mYes, mAndV, mOrV, mNotV, mIf, mIfF, mChain, mNeg, mNoPart, mPart, mSl, mSlF, mRev, mIsi, isiT, mIso, isoT, mTruth, mSeq, mB, Tg.put, Tg.putAll, optP, ownT, unB, unI, unL, negT, perm, mLRg1, mLRg2, mPop, mPopAt, mSetPop, mAppPop, mNever, -List.map_map, -List.getD_eq_getElem?_getD, entry, T.wq_bind]
  refine lc_wp (fun i : Nat => .int i) (row true) (fun _ a => a.length = n ∧ ∀ x ∈ a, x.natAbs ≤ 5) (List.range m) rfl (by simp -implicitDefEqProofs [runD, runF, entry, mRet, mRetF, mRetOwn, mRetN, mSeqS, mNext, mBreak, mCont, mIfS, mDrop, mAsg, mNew, mPar, mPar3, mParFE, mParEF, mParFF, mApp, mExt, mItem, mAug, mKill, Fl.kill, killD, mFrz, frzD, mView, mVar, mVarS, mC, mOp, mOpF, mLst, mNil, mCons, mTup, mList, mCB, mCBF, mCall, mKey, mUnL, mTest, mNot, mAnd, mOr, mYes, mAndV, mOrV, mNotV, mIf, mIfF, mChain, mNeg, mNoPart, mPart, mSl, mSlF, mRev, mIsi, isiT, mIso, isoT, mTruth, mSeq, mB, Tg.put, Tg.putAll, optP, ownT, unB, unI, unL, negT, perm, mLRg1, mLRg2, mPop, mPopAt, mSetPop, mAppPop, mNever, -List.map_map, -List.getD_eq_getElem?_getD, hrm]) (by rw [List.length_range]; omega) ?_ ?_
  · intro x hx
    refine ⟨_, rfl, rfl, ?_⟩
    simp -implicitDefEqProofs [runD, runF, entry, mRet, mRetF, mRetOwn, mRetN, mSeqS, mNext, mBreak, mCont, mIfS, mDrop, mAsg, mNew, mPar, mPar3, mParFE, mParEF, mParFF, mApp, mExt, mItem, mAug, mKill, Fl.kill, killD, mFrz, frzD, mView, mVar, mVarS, mC, mOp, mOpF, mLst, mNil, mCons, mTup, mList, mCB, mCBF, mCall, mKey, mUnL, mTest, mNot, mAnd, mOr, mYes, mAndV, mOrV, mNotV, mIf, mIfF, mChain, mNeg, mNoPart, mPart, mSl, mSlF, mRev, mIsi, isiT, mIso, isoT, mTruth, mSeq, mB, Tg.put, Tg.putAll, optP, ownT, unB, unI, unL, negT, perm, mLRg1, mLRg2, mPop, mPopAt, mSetPop, mAppPop, mNever, -List.map_map, -List.getD_eq_getElem?_getD, wipeD, T.wq_bind]
    refine lc_wp (fun i : Nat => .int i) D.int (fun _ x => x.natAbs ≤ 5) (List.range n) rfl (by simp -implicitDefEqProofs [runD, runF, entry, mRet, mRetF, mRetOwn, mRetN, mSeqS, mNext, mBreak, mCont, mIfS, mDrop, mAsg, mNew, mPar, mPar3, mParFE, mParEF, mParFF, mApp, mExt, mItem, mAug, mKill, Fl.kill, killD, mFrz, frzD, mView, mVar, mVarS, mC, mOp, mOpF, mLst, mNil, mCons, mTup, mList, mCB, mCBF, mCall, mKey, mUnL, mTest, mNot, mAnd, mOr, mYes, mAndV, mOrV, mNotV, mIf, mIfF, mChain, mNeg, mNoPart, mPart, mSl, mSlF, mRev, mIsi, isiT, mIso, isoT, mTruth, mSeq, mB, Tg.put, Tg.putAll, optP, ownT, unB, unI, unL, negT, perm, mLRg1, mLRg2, mPop, mPopAt, mSetPop, mAppPop, mNever, -List.map_map, -List.getD_eq_getElem?_getD, hrn]) (by rw [List.length_range]; omega) ?_ ?_
    · intro y hy
      refine ⟨_, rfl, rfl, ?_⟩
      simp -implicitDefEqProofs [runD, runF, entry, mRet, mRetF, mRetOwn, mRetN, mSeqS, mNext, mBreak, mCont, mIfS, mDrop, mAsg, mNew, mPar, mPar3, mParFE, mParEF, mParFF, mApp, mExt, mItem, mAug, mKill, Fl.kill, killD, mFrz, frzD, mView, mVar, mVarS, mC, mOp, mOpF, mLst, mNil, mCons, mTup, mList, mCB, mCBF, mCall, mKey, mUnL, mTest, mNot, mAnd, mOr, mYes, mAndV, mOrV, mNotV, mIf, mIfF, mChain, mNeg, mNoPart, mPart, mSl, mSlF, mRev, mIsi, isiT, mIso, isoT, mTruth, mSeq, mB, Tg.put, Tg.putAll, optP, ownT, unB, unI, unL, negT, perm, mLRg1, mLRg2, mPop, mPopAt, mSetPop, mAppPop, mNever, -List.map_map, -List.getD_eq_getElem?_getD, wipeD, T.wq_bind, hp]
      intro i h0 h1
      omega
    · intro bs hb
      refine ⟨bs, rfl, ?_, All2.right (Q := fun x : Int => x.natAbs ≤ 5) (fun _ _ z => z) hb⟩
      rw [hb.len, List.length_range]
  · intro rows hr
    have hl : rows.length = m := by rw [hr.len, List.length_range]
    have hw := All2.right (Q := fun a : List Int => a.length = n ∧ ∀ x ∈ a, x.natAbs ≤ 5) (fun _ _ z => z) hr
    simp [-List.map_map, -List.getD_eq_getElem?_getD, hp]
    intro i h0 h1
    have lb : ∀ r ∈ rows, r.length = n := fun r z => (hw r z).1
    have sb : ∀ r ∈ rows, ∀ x ∈ r, x.natAbs ≤ 5 := fun r z => (hw r z).2
    have fin : ∀ (j : Nat) (b : List Int), b.length = n → (∀ x ∈ b, x.natAbs ≤ 2 ^ 40) → P (.lst ((rows.map (row true)).set j (row true b))) := fun j b hb1 hb2 => by
      rw [← List.map_set]
      refine h _ (by rw [List.length_set]; exact hl) (fun r hr => ?_) (fun r hr x hx => ?_)
      · rcases List.mem_or_eq_of_mem_set hr with z | z
        · exact lb r z
        · rw [z]; exact hb1
      · rcases List.mem_or_eq_of_mem_set hr with z | z
        · have := sb r z x hx
          omega
        · rw [z] at hx; exact hb2 x hx
    have ex : ∀ j : Int, -(m : Int) ≤ j → j < m → ∃ r, L2.atI (rows.map (row true)) j = some (row true r) ∧ r ∈ rows := fun j j0 j1 => by
      obtain ⟨r, e, hm⟩ := atI_ex (xs := rows) (i := j) (by omega) (by omega)
      exact ⟨r, by rw [atI_map, e]; rfl, hm⟩
    obtain ⟨r0, e0, m0⟩ := ex 0 (by omega) (by omega)
    obtain ⟨rl, el, ml⟩ := ex (-1) (by omega) (by omega)
    have x0 : L2.ixN rows.length 0 = some 0 := ixN_0 (by omega)
    have xl : L2.ixN rows.length (-1) = some (rows.length - 1) := ixN_last (by omega)
    have cap5 : ∀ x : Int, x.natAbs ≤ 5 → x.natAbs < 2 ^ 400000 := fun x z => mul_cap (n := 60) (by omega) (by decide)
    have capc : ∀ x : Int, x.natAbs ≤ 1000003 → x.natAbs < 2 ^ 400000 := fun x z => mul_cap (n := 60) (by omega) (by decide)
    by_cases i0 : i = 0
    · subst i0
      rw [if_pos rfl]
      rw [lc_map D.int (fun x => D.int (x * 6)) r0 rfl (by simp -implicitDefEqProofs [runD, runF, entry, mRet, mRetF, mRetOwn, mRetN, mSeqS, mNext, mBreak, mCont, mIfS, mDrop, mAsg, mNew, mPar, mPar3, mParFE, mParEF, mParFF, mApp, mExt, mItem, mAug, mKill, Fl.kill, killD, mFrz, frzD, mView, mVar, mVarS, mC, mOp, mOpF, mLst, mNil, mCons, mTup, mList, mCB, mCBF, mCall, mKey, mUnL, mTest, mNot, mAnd, mOr, mYes, mAndV, mOrV, mNotV, mIf, mIfF, mChain, mNeg, mNoPart, mPart, mSl, mSlF, mRev, mIsi, isiT, mIso, isoT, mTruth, mSeq, mB, Tg.put, Tg.putAll, optP, ownT, unB, unI, unL, negT, perm, mLRg1, mLRg2, mPop, mPopAt, mSetPop, mAppPop, mNever, -List.map_map, -List.getD_eq_getElem?_getD, e0]) (by rw [lb r0 m0]; omega) (fun x hx => ⟨_, rfl, rfl, by
        simp -implicitDefEqProofs [runD, runF, entry, mRet, mRetF, mRetOwn, mRetN, mSeqS, mNext, mBreak, mCont, mIfS, mDrop, mAsg, mNew, mPar, mPar3, mParFE, mParEF, mParFF, mApp, mExt, mItem, mAug, mKill, Fl.kill, killD, mFrz, frzD, mView, mVar, mVarS, mC, mOp, mOpF, mLst, mNil, mCons, mTup, mList, mCB, mCBF, mCall, mKey, mUnL, mTest, mNot, mAnd, mOr, mYes, mAndV, mOrV, mNotV, mIf, mIfF, mChain, mNeg, mNoPart, mPart, mSl, mSlF, mRev, mIsi, isiT, mIso, isoT, mTruth, mSeq, mB, Tg.put, Tg.putAll, optP, ownT, unB, unI, unL, negT, perm, mLRg1, mLRg2, mPop, mPopAt, mSetPop, mAppPop, mNever, -List.map_map, -List.getD_eq_getElem?_getD, wipeD, mulT_ok (cap5 x (sb r0 m0 x hx)) (capc 6 (by decide))]⟩)]
      simp [-List.map_map, -List.getD_eq_getElem?_getD, x0, T.wq_bind]
      have := fin 0 (r0.map fun x => x * 6) (by rw [List.length_map, lb r0 m0]) fun x hx => by
        obtain ⟨y, hy, rfl⟩ := List.mem_map.mp hx
        have := sb r0 m0 y hy
        omega
      unfold row sq at this
      rw [List.map_map] at this
      exact this
    · rw [if_neg i0]
      have out : ∀ (j : Nat) (f : List D) (b : List Int), f = b.map D.int → b.length = n → (∀ x ∈ b, x.natAbs ≤ 2 ^ 40) → P (.lst ((rows.map (row true)).set j (.lst f))) := fun j f b e h1 h2 => by
        rw [e]; exact fin j b h1 h2
      have sb2 : ∀ r ∈ rows, ∀ x ∈ r, x.natAbs ≤ 2 ^ 40 := fun r z x hx => by have := sb r z x hx; omega
      by_cases i1 : i = 1 ∧ 1 < (m : Int)
      · obtain ⟨r1, e1, m1⟩ := ex 1 (by omega) (by omega)
        obtain ⟨rfl, hm1⟩ := i1
        simp [-List.map_map, -List.getD_eq_getElem?_getD, hm1]
        rw [lc_map (fun q : Int × Int => D.tup [.int q.1, .int q.2]) (fun q => D.int (q.1 + 2 * q.2)) (r0.zip r1) rfl (by simp -implicitDefEqProofs [runD, runF, entry, mRet, mRetF, mRetOwn, mRetN, mSeqS, mNext, mBreak, mCont, mIfS, mDrop, mAsg, mNew, mPar, mPar3, mParFE, mParEF, mParFF, mApp, mExt, mItem, mAug, mKill, Fl.kill, killD, mFrz, frzD, mView, mVar, mVarS, mC, mOp, mOpF, mLst, mNil, mCons, mTup, mList, mCB, mCBF, mCall, mKey, mUnL, mTest, mNot, mAnd, mOr, mYes, mAndV, mOrV, mNotV, mIf, mIfF, mChain, mNeg, mNoPart, mPart, mSl, mSlF, mRev, mIsi, isiT, mIso, isoT, mTruth, mSeq, mB, Tg.put, Tg.putAll, optP, ownT, unB, unI, unL, negT, perm, mLRg1, mLRg2, mPop, mPopAt, mSetPop, mAppPop, mNever, -List.map_map, -List.getD_eq_getElem?_getD, e0, e1]) (by rw [List.length_zip, lb r0 m0, lb r1 m1]; omega) (fun q hq => ⟨_, rfl, rfl, by
          obtain ⟨z1, z2⟩ := List.of_mem_zip hq
          simp -implicitDefEqProofs [runD, runF, entry, mRet, mRetF, mRetOwn, mRetN, mSeqS, mNext, mBreak, mCont, mIfS, mDrop, mAsg, mNew, mPar, mPar3, mParFE, mParEF, mParFF, mApp, mExt, mItem, mAug, mKill, Fl.kill, killD, mFrz, frzD, mView, mVar, mVarS, mC, mOp, mOpF, mLst, mNil, mCons, mTup, mList, mCB, mCBF, mCall, mKey, mUnL, mTest, mNot, mAnd, mOr, mYes, mAndV, mOrV, mNotV, mIf, mIfF, mChain, mNeg, mNoPart, mPart, mSl, mSlF, mRev, mIsi, isiT, mIso, isoT, mTruth, mSeq, mB, Tg.put, Tg.putAll, optP, ownT, unB, unI, unL, negT, perm, mLRg1, mLRg2, mPop, mPopAt, mSetPop, mAppPop, mNever, -List.map_map, -List.getD_eq_getElem?_getD, wipeD, mulT_ok (capc 2 (by decide)) (cap5 q.2 (sb r1 m1 _ z2))]⟩)]
        simp [-List.map_map, -List.getD_eq_getElem?_getD, x0, T.wq_bind]
        refine out 0 _ ((r0.zip r1).map fun q => q.1 + 2 * q.2) (by rw [List.map_map]; rfl) (by rw [List.length_map, List.length_zip, lb r0 m0, lb r1 m1]; omega) fun x hx => ?_
        obtain ⟨q, hq, rfl⟩ := List.mem_map.mp hx
        obtain ⟨z1, z2⟩ := List.of_mem_zip hq
        have := sb r0 m0 _ z1
        have := sb r1 m1 _ z2
        omega
      · have c1 : (if i = 1 then T.ret (decide (1 < (m : Int))) else T.ret false) = T.ret false := by
          by_cases z : i = 1
          · rw [if_pos z, decide_eq_false fun y => i1 ⟨z, y⟩]
          · rw [if_neg z]
        rw [c1]
        by_cases i2 : i = 2 ∧ 1 < (m : Int)
        · obtain ⟨r1, e1, m1⟩ := ex 1 (by omega) (by omega)
          obtain ⟨rfl, hm1⟩ := i2
          simp [-List.map_map, -List.getD_eq_getElem?_getD, hm1]
          rw [lc_map D.int (fun x => D.int (3 * x)) r1 rfl (by simp -implicitDefEqProofs [runD, runF, entry, mRet, mRetF, mRetOwn, mRetN, mSeqS, mNext, mBreak, mCont, mIfS, mDrop, mAsg, mNew, mPar, mPar3, mParFE, mParEF, mParFF, mApp, mExt, mItem, mAug, mKill, Fl.kill, killD, mFrz, frzD, mView, mVar, mVarS, mC, mOp, mOpF, mLst, mNil, mCons, mTup, mList, mCB, mCBF, mCall, mKey, mUnL, mTest, mNot, mAnd, mOr, mYes, mAndV, mOrV, mNotV, mIf, mIfF, mChain, mNeg, mNoPart, mPart, mSl, mSlF, mRev, mIsi, isiT, mIso, isoT, mTruth, mSeq, mB, Tg.put, Tg.putAll, optP, ownT, unB, unI, unL, negT, perm, mLRg1, mLRg2, mPop, mPopAt, mSetPop, mAppPop, mNever, -List.map_map, -List.getD_eq_getElem?_getD, e1]) (by rw [lb r1 m1]; omega) (fun x hx => ⟨_, rfl, rfl, by
            simp -implicitDefEqProofs [runD, runF, entry, mRet, mRetF, mRetOwn, mRetN, mSeqS, mNext, mBreak, mCont, mIfS, mDrop, mAsg, mNew, mPar, mPar3, mParFE, mParEF, mParFF, mApp, mExt, mItem, mAug, mKill, Fl.kill, killD, mFrz, frzD, mView, mVar, mVarS, mC, mOp, mOpF, mLst, mNil, mCons, mTup, mList, mCB, mCBF, mCall, mKey, mUnL, mTest, mNot, mAnd, mOr, mYes, mAndV, mOrV, mNotV, mIf, mIfF, mChain, mNeg, mNoPart, mPart, mSl, mSlF, mRev, mIsi, isiT, mIso, isoT, mTruth, mSeq, mB, Tg.put, Tg.putAll, optP, ownT, unB, unI, unL, negT, perm, mLRg1, mLRg2, mPop, mPopAt, mSetPop, mAppPop, mNever, -List.map_map, -List.getD_eq_getElem?_getD, wipeD, mulT_ok (capc 3 (by decide)) (cap5 x (sb r1 m1 x hx))]⟩)]
          simp [-List.map_map, -List.getD_eq_getElem?_getD, x0, T.wq_bind]
          refine out 0 _ (r1.map fun x => 3 * x) (by rw [List.map_map]; rfl) (by rw [List.length_map, lb r1 m1]) fun x hx => ?_
          obtain ⟨y, hy, rfl⟩ := List.mem_map.mp hx
          have := sb r1 m1 y hy
          omega
        · have c2 : (if i = 2 then T.ret (decide (1 < (m : Int))) else T.ret false) = T.ret false := by
            by_cases z : i = 2
            · rw [if_pos z, decide_eq_false fun y => i2 ⟨z, y⟩]
            · rw [if_neg z]
          rw [T.bind_ret, c2]
          by_cases i3 : i = 3
          · subst i3
            simp [-List.map_map, -List.getD_eq_getElem?_getD]
            rw [lc_map D.int (fun x => D.int (x * 1000003)) rl rfl (by simp -implicitDefEqProofs [runD, runF, entry, mRet, mRetF, mRetOwn, mRetN, mSeqS, mNext, mBreak, mCont, mIfS, mDrop, mAsg, mNew, mPar, mPar3, mParFE, mParEF, mParFF, mApp, mExt, mItem, mAug, mKill, Fl.kill, killD, mFrz, frzD, mView, mVar, mVarS, mC, mOp, mOpF, mLst, mNil, mCons, mTup, mList, mCB, mCBF, mCall, mKey, mUnL, mTest, mNot, mAnd, mOr, mYes, mAndV, mOrV, mNotV, mIf, mIfF, mChain, mNeg, mNoPart, mPart, mSl, mSlF, mRev, mIsi, isiT, mIso, isoT, mTruth, mSeq, mB, Tg.put, Tg.putAll, optP, ownT, unB, unI, unL, negT, perm, mLRg1, mLRg2, mPop, mPopAt, mSetPop, mAppPop, mNever, -List.map_map, -List.getD_eq_getElem?_getD, el]) (by rw [lb rl ml]; omega) (fun x hx => ⟨_, rfl, rfl, by
              simp -implicitDefEqProofs [runD, runF, entry, mRet, mRetF, mRetOwn, mRetN, mSeqS, mNext, mBreak, mCont, mIfS, mDrop, mAsg, mNew, mPar, mPar3, mParFE, mParEF, mParFF, mApp, mExt, mItem, mAug, mKill, Fl.kill, killD, mFrz, frzD, mView, mVar, mVarS, mC, mOp, mOpF, mLst, mNil, mCons, mTup, mList, mCB, mCBF, mCall, mKey, mUnL, mTest, mNot, mAnd, mOr, mYes, mAndV, mOrV, mNotV, mIf, mIfF, mChain, mNeg, mNoPart, mPart, mSl, mSlF, mRev, mIsi, isiT, mIso, isoT, mTruth, mSeq, mB, Tg.put, Tg.putAll, optP, ownT, unB, unI, unL, negT, perm, mLRg1, mLRg2, mPop, mPopAt, mSetPop, mAppPop, mNever, -List.map_map, -List.getD_eq_getElem?_getD, wipeD, mulT_ok (cap5 x (sb rl ml x hx)) (capc 1000003 (by decide))]⟩)]
            simp [-List.map_map, -List.getD_eq_getElem?_getD, xl, T.wq_bind]
            refine out (rows.length - 1) _ (rl.map fun x => x * 1000003) (by rw [List.map_map]; rfl) (by rw [List.length_map, lb rl ml]) fun x hx => ?_
            obtain ⟨y, hy, rfl⟩ := List.mem_map.mp hx
            have := sb rl ml y hy
            omega
          · simp [-List.map_map, -List.getD_eq_getElem?_getD, i3, T.wq_bind]
            exact h rows hl lb sb2
theorem pick_wp {p : Addr → Prop} {a : Addr} {P : D → Prop} (hp : p a) (h : ∀ c : Int, c.natAbs ≤ 3 → P (.int c)) : (m_pick_ [.adr a, .lst [.int 2, .int (-3), .int 0, .int (-1)]]).wq p P := by
  simp only [m_pick_, mb_pick_]
  simp -implicitDefEqProofs [runD, runF, entry, mRet, mRetF, mRetOwn, mRetN, mSeqS, mNext, mBreak, mCont, mIfS, mDrop, mAsg, mNew, mPar, mPar3, mParFE, mParEF, mParFF, mApp, mExt, mItem, mAug, mKill, Fl.kill, killD, mFrz, frzD, mView, mVar, mVarS, mC, mOp, mOpF, mLst, mNil, mCons, mTup, mList, mCB, mCBF, mCall, mKey, mUnL, mTest, mNot, mAnd, mOr, mYes, mAndV, mOrV, mNotV, mIf, mIfF, mChain, mNeg, mNoPart, mPart, mSl, mSlF, mRev, mIsi, isiT, mIso, isoT, mTruth, mSeq, mB, Tg.put, Tg.putAll, optP, ownT, unB, unI, unL, negT, perm, mLRg1, mLRg2, mPop, mPopAt, mSetPop, mAppPop, mNever, -List.map_map, -List.getD_eq_getElem?_getD, entry, hp, T.wq_bind]
  intro i h0 h1
  have : i = 0 ∨ i = 1 ∨ i = 2 ∨ i = 3 := by omega
  rcases this with rfl | rfl | rfl | rfl
  · exact (T.wq_ret p (D.int 2) P).mpr (h 2 (by decide))
  · exact (T.wq_ret p (D.int (-3)) P).mpr (h (-3) (by decide))
  · exact (T.wq_ret p (D.int 0) P).mpr (h 0 (by decide))
  · exact (T.wq_ret p (D.int (-1)) P).mpr (h (-1) (by decide))
theorem gd_tab (k : Bool) {ps : List (Bool × List Int)} (h1 : ps.length ≤ 6) (h2 : ∀ q ∈ ps, q.2.length ≤ 6) (hB : ∀ q ∈ ps, ∀ x ∈ q.2, x.natAbs ≤ 2 ^ 60) : gd 20 2000000 (tab k ps) := by
  refine (gd_sq k (n := 19) (B := 4 + 6 * 30002) (m := 6) (fun d hd => ?_) (by rw [List.length_map]; exact h1)).mono (by decide)
  obtain ⟨q, hq, rfl⟩ := List.mem_map.mp hd
  refine gd_sq q.1 (n := 18) (B := 30000) (m := 6) (fun d hd => ?_) (by rw [List.length_map]; exact h2 q hq)
  obtain ⟨x, hx, rfl⟩ := List.mem_map.mp hd
  exact gdI 18 (Nat.lt_of_le_of_lt (hB q hq x hx) (Nat.pow_lt_pow_right (by decide) (by decide)))
theorem div_is (k : Bool) {rs : List (Bool × List Int)} {n G : Nat} (h1 : 1 ≤ rs.length) (h2 : rs.length ≤ 6) (hn : ∀ r ∈ rs, r.2.length = n) (n1 : 1 ≤ n) (n2 : n ≤ 6) (hB : ∀ r ∈ rs.map (·.2), ∀ x ∈ r, x.natAbs ≤ 2 ^ 60) (g : isG n (rs.map (·.2)) G) : m_divisor [tab k rs] = .ret (.int G) := by
  rw [divisor_eq k h1 h2 hn n1 n2 hB]
  have := gAll_isG (n := n) (rows := rs.map (·.2)) (pss := among n rs.length) fun ps => by rw [List.length_map]; exact among_mem n _ ps
  rw [this.uniq g]
theorem div_mat {rows : List (List Int)} {n G : Nat} (h1 : 1 ≤ rows.length) (h2 : rows.length ≤ 6) (hn : ∀ r ∈ rows, r.length = n) (n1 : 1 ≤ n) (n2 : n ≤ 6) (hB : ∀ r ∈ rows, ∀ x ∈ r, x.natAbs ≤ 2 ^ 60) (g : isG n rows G) : m_divisor [mat rows] = .ret (.int G) := by
  have e : (rows.map fun a => (true, a)).map (·.2) = rows := by rw [List.map_map]; exact List.map_id rows
  rw [mat_tab]
  refine div_is true (n := n) (by rw [List.length_map]; exact h1) (by rw [List.length_map]; exact h2) (fun r hr => ?_) n1 n2 (by rw [e]; exact hB) (by rw [e]; exact g)
  obtain ⟨a, ha, rfl⟩ := List.mem_map.mp hr
  exact hn a ha
theorem one_right_wp {p : Addr → Prop} {a : Addr} {rows : List (List Int)} {n : Nat} {P : D → Prop} (hp : p a) (h1 : 1 ≤ rows.length) (h2 : rows.length ≤ 4) (hn : ∀ r ∈ rows, r.length = n) (n1 : 1 ≤ n) (n2 : n ≤ 6) (hB : ∀ r ∈ rows, ∀ x ∈ r, x.natAbs ≤ 2 ^ 40) (h : P (.bl true)) : (m_one_right_ [.adr a, mat rows]).wq p P := by
  have hB' : ∀ r ∈ rows, ∀ x ∈ r, x.natAbs ≤ 2 ^ 60 := fun r hr x hx => Nat.le_trans (hB r hr x hx) (Nat.pow_le_pow_right (by decide) (by decide))
  have eG := divisor__eq h1 (by omega) hn n2 hB'
  have gG : isG n rows _ := gAll_isG (pss := chs (List.range n) rows.length) fun ps => chs_inc
  have sG : gAll (minor rows) (chs (List.range n) rows.length) 0 ≤ 2 ^ 1000 := gAll_le _ _ _ _ (Nat.zero_le _) fun ps hps => Nat.le_of_lt (minor_small (by omega) (by rw [(chs_inc.mp hps).len]; omega) hB')
  generalize gAll (minor rows) (chs (List.range n) rows.length) 0 = G at eG gG sG
  simp only [m_one_right_, mb_one_right_]
  simp -implicitDefEqProofs [↓seq_w, ↓if_w, ↓kill_w, ↓run_w, ↓runF_w, kSeq_nx, kSeq_rt, kSeq_bk, kSeq_ct, kIf_t, kIf_f, kIf_d, kKill_nx, kKill_ct, kKill_rt, kKill_bk, kRun_rt, kRun_nx, kRunF_rt, ↓mRet_ap, ↓mRetF_ap, ↓mRetOwn_ap, ↓mRetN_ap, ↓mNext_ap, ↓mBreak_ap, ↓mCont_ap, ↓mDrop_ap, ↓mAsg_ap, ↓mNew_ap, ↓mPar_ap, ↓mPar3_ap, ↓mParFE_ap, ↓mParEF_ap, ↓mParFF_ap, ↓mApp_ap, ↓mExt_ap, ↓mItem_ap, ↓mAug_ap, ↓mFrz_ap, ↓mView_ap, ↓mVar_ap, ↓mVarS_ap, ↓mC_ap, ↓mOp_ap, ↓mOpF_ap, ↓mLst_ap, ↓mNil_ap, ↓mCons_ap, ↓mTup_ap, ↓mList_ap, ↓mCB_ap, ↓mCBF_ap, ↓mCall_ap, ↓mKey_ap, ↓mUnL_ap, ↓mTest_ap, ↓mNot_ap, ↓mAnd_ap, ↓mOr_ap, ↓mYes_ap, ↓mAndV_ap, ↓mOrV_ap, ↓mNotV_ap, ↓mIf_ap, ↓mIfF_ap, ↓mChain_ap, ↓mNeg_ap, ↓mNoPart_ap, ↓mPart_ap, ↓mSl_ap, ↓mSlF_ap, ↓mRev_ap, ↓mIsi_ap, ↓mIso_ap, ↓mTruth_ap, ↓mSeq_ap, ↓mB_ap, ↓mLRg1_ap, ↓mLRg2_ap, ↓mPop_ap, ↓mPopAt_ap, ↓mSetPop_ap, ↓mAppPop_ap, ↓mNever_ap, entry, Fl.kill, killD, frzD, isiT, isoT, put_nm, put_tp, putAll_nil, putAll_cons, optP_some, ownT, unB, unI, unL, negT, perm, ↓T.wq_bind, -List.map_map, -List.getD_eq_getElem?_getD, entry, T.wq_bind, eG]
  refine lc_wp (row true) (fun b : Bool × List Int => row b.1 b.2) (fun r b => b.2 = id r) rows rfl (by simp -implicitDefEqProofs [runD, runF, entry, mRet, mRetF, mRetOwn, mRetN, mSeqS, mNext, mBreak, mCont, mIfS, mDrop, mAsg, mNew, mPar, mPar3, mParFE, mParEF, mParFF, mApp, mExt, mItem, mAug, mKill, Fl.kill, killD, mFrz, frzD, mView, mVar, mVarS, mC, mOp, mOpF, mLst, mNil, mCons, mTup, mList, mCB, mCBF, mCall, mKey, mUnL, mTest, mNot, mAnd, mOr, mYes, mAndV, mOrV, mNotV, mIf, mIfF, mChain, mNeg, mNoPart, mPart, mSl, mSlF, mRev, mIsi, isiT, mIso, isoT, mTruth, mSeq, mB, Tg.put, Tg.putAll, optP, ownT, unB, unI, unL, negT, perm, mLRg1, mLRg2, mPop, mPopAt, mSetPop, mAppPop, mNever, -List.map_map, -List.getD_eq_getElem?_getD]) (by omega) ?_ ?_
  · intro r hr
    refine ⟨_, rfl, rfl, ?_⟩
    simp -implicitDefEqProofs [↓seq_w, ↓if_w, ↓kill_w, ↓run_w, ↓runF_w, kSeq_nx, kSeq_rt, kSeq_bk, kSeq_ct, kIf_t, kIf_f, kIf_d, kKill_nx, kKill_ct, kKill_rt, kKill_bk, kRun_rt, kRun_nx, kRunF_rt, ↓mRet_ap, ↓mRetF_ap, ↓mRetOwn_ap, ↓mRetN_ap, ↓mNext_ap, ↓mBreak_ap, ↓mCont_ap, ↓mDrop_ap, ↓mAsg_ap, ↓mNew_ap, ↓mPar_ap, ↓mPar3_ap, ↓mParFE_ap, ↓mParEF_ap, ↓mParFF_ap, ↓mApp_ap, ↓mExt_ap, ↓mItem_ap, ↓mAug_ap, ↓mFrz_ap, ↓mView_ap, ↓mVar_ap, ↓mVarS_ap, ↓mC_ap, ↓mOp_ap, ↓mOpF_ap, ↓mLst_ap, ↓mNil_ap, ↓mCons_ap, ↓mTup_ap, ↓mList_ap, ↓mCB_ap, ↓mCBF_ap, ↓mCall_ap, ↓mKey_ap, ↓mUnL_ap, ↓mTest_ap, ↓mNot_ap, ↓mAnd_ap, ↓mOr_ap, ↓mYes_ap, ↓mAndV_ap, ↓mOrV_ap, ↓mNotV_ap, ↓mIf_ap, ↓mIfF_ap, ↓mChain_ap, ↓mNeg_ap, ↓mNoPart_ap, ↓mPart_ap, ↓mSl_ap, ↓mSlF_ap, ↓mRev_ap, ↓mIsi_ap, ↓mIso_ap, ↓mTruth_ap, ↓mSeq_ap, ↓mB_ap, ↓mLRg1_ap, ↓mLRg2_ap, ↓mPop_ap, ↓mPopAt_ap, ↓mSetPop_ap, ↓mAppPop_ap, ↓mNever_ap, entry, Fl.kill, killD, frzD, isiT, isoT, put_nm, put_tp, putAll_nil, putAll_cons, optP_some, ownT, unB, unI, unL, negT, perm, ↓T.wq_bind, -List.map_map, -List.getD_eq_getElem?_getD, wipeD]
    refine passed_wp hp fun k => ?_
    cases k <;> simp [-List.map_map, -List.getD_eq_getElem?_getD]
  · intro bs hb
    have hs : bs.map (·.2) = rows := by rw [All2.map_eq (g := fun b : Bool × List Int => b.2) hb, List.map_id]
    have hl : bs.length = rows.length := hb.len
    have hm : ∀ q ∈ bs, q.2 ∈ rows := fun q hq => by rw [← hs]; exact List.mem_map_of_mem hq
    have d1 : ∀ k, m_divisor [tab k bs] = .ret (.int G) := fun k => div_is k (by omega) (by omega) (fun q hq => hn _ (hm q hq)) n1 n2 (by rw [hs]; exact hB') (by rw [hs]; exact gG)
    have r1 := repr_gd (gd_tab true (ps := bs) (by omega) (fun q hq => by rw [hn _ (hm q hq)]; exact n2) fun q hq => hB' _ (hm q hq)) (by decide)
    have gi : gd 19 30000 (.int (G : Int)) := gdI 19 (Nat.lt_of_le_of_lt (show (G : Int).natAbs ≤ 2 ^ 1000 from sG) (Nat.pow_lt_pow_right (by decide) (by decide)))
    have r2 := repr_gd (gd_sq true (m := 2) (mem2 gi gi) (Nat.le_refl 2)) (by decide)
    rw [show D.lst (bs.map fun b : Bool × List Int => row b.1 b.2) = tab true bs from rfl, show D.tup (bs.map fun b : Bool × List Int => row b.1 b.2) = tab false bs from rfl]
    have r2 : reprT [.lst [.int (G : Int), .int (G : Int)]] = _ := r2
    simp -implicitDefEqProofs [↓seq_w, ↓if_w, ↓kill_w, ↓run_w, ↓runF_w, kSeq_nx, kSeq_rt, kSeq_bk, kSeq_ct, kIf_t, kIf_f, kIf_d, kKill_nx, kKill_ct, kKill_rt, kKill_bk, kRun_rt, kRun_nx, kRunF_rt, ↓mRet_ap, ↓mRetF_ap, ↓mRetOwn_ap, ↓mRetN_ap, ↓mNext_ap, ↓mBreak_ap, ↓mCont_ap, ↓mDrop_ap, ↓mAsg_ap, ↓mNew_ap, ↓mPar_ap, ↓mPar3_ap, ↓mParFE_ap, ↓mParEF_ap, ↓mParFF_ap, ↓mApp_ap, ↓mExt_ap, ↓mItem_ap, ↓mAug_ap, ↓mFrz_ap, ↓mView_ap, ↓mVar_ap, ↓mVarS_ap, ↓mC_ap, ↓mOp_ap, ↓mOpF_ap, ↓mLst_ap, ↓mNil_ap, ↓mCons_ap, ↓mTup_ap, ↓mList_ap, ↓mCB_ap, ↓mCBF_ap, ↓mCall_ap, ↓mKey_ap, ↓mUnL_ap, ↓mTest_ap, ↓mNot_ap, ↓mAnd_ap, ↓mOr_ap, ↓mYes_ap, ↓mAndV_ap, ↓mOrV_ap, ↓mNotV_ap, ↓mIf_ap, ↓mIfF_ap, ↓mChain_ap, ↓mNeg_ap, ↓mNoPart_ap, ↓mPart_ap, ↓mSl_ap, ↓mSlF_ap, ↓mRev_ap, ↓mIsi_ap, ↓mIso_ap, ↓mTruth_ap, ↓mSeq_ap, ↓mB_ap, ↓mLRg1_ap, ↓mLRg2_ap, ↓mPop_ap, ↓mPopAt_ap, ↓mSetPop_ap, ↓mAppPop_ap, ↓mNever_ap, entry, Fl.kill, killD, frzD, isiT, isoT, put_nm, put_tp, putAll_nil, putAll_cons, optP_some, ownT, unB, unI, unL, negT, perm, ↓T.wq_bind, -List.map_map, -List.getD_eq_getElem?_getD, r1, r2, d1, hp]
    refine ⟨by omega, by omega, fun i i0 i1 => pick_wp hp fun c hc => ?_⟩
    obtain ⟨j, rfl⟩ : ∃ j : Nat, i = j := ⟨i.toNat, by omega⟩
    obtain ⟨pre, r, post, er, el⟩ := split_at (xs := rows) (j := j) (by omega)
    have hrm : r ∈ rows := by rw [er]; simp [-List.map_map, -List.getD_eq_getElem?_getD]
    have hlen : rows.length = pre.length + post.length + 1 := by rw [er]; simp [-List.map_map, -List.getD_eq_getElem?_getD]; omega
    have hcap : ∀ x : Int, x.natAbs ≤ 2 ^ 60 → x.natAbs < 2 ^ 400000 := fun x hx => mul_cap hx (by decide)
    have ccap : c.natAbs < 2 ^ 400000 := hcap c (by omega)
    have keep : ∀ (t : List Int), t.length = n → (∀ x ∈ t, x.natAbs ≤ 2 ^ 60) → (∀ s ∈ pre ++ t :: post, s.length = n) ∧ (∀ s ∈ pre ++ t :: post, ∀ x ∈ s, x.natAbs ≤ 2 ^ 60) ∧ (pre ++ t :: post).length = rows.length := fun t t1 t2 => by
      have sub : ∀ s ∈ pre ++ t :: post, s = t ∨ s ∈ rows := fun s hs => by
        rw [er]
        rcases List.mem_append.mp hs with z | z
        · exact .inr (List.mem_append.mpr (.inl z))
        · rcases List.mem_cons.mp z with z | z
          · exact .inl z
          · exact .inr (List.mem_append.mpr (.inr (List.mem_cons_of_mem _ z)))
      refine ⟨fun s hs => ?_, fun s hs x hx => ?_, by rw [er]; simp [-List.map_map, -List.getD_eq_getElem?_getD]⟩
      · rcases sub s hs with z | z
        · rw [z]; exact t1
        · exact hn s z
      · rcases sub s hs with z | z
        · rw [z] at hx; exact t2 x hx
        · exact hB' s z x hx
    -- a row c times
    have k2 := keep (r.map fun x => c * x) (by rw [List.length_map]; exact hn r hrm) fun x hx => by
      obtain ⟨y, hy, rfl⟩ := List.mem_map.mp hx
      have := hB r hrm y hy
      rw [Int.natAbs_mul]
      exact Nat.le_trans (Nat.mul_le_mul hc this) (by decide)
    have gd2 : ∀ p, (r.map fun x => c * x).getD p 0 = c * r.getD p 0 := fun p => by
      rw [List.getD_eq_getElem?_getD, List.getD_eq_getElem?_getD, List.getElem?_map]
      cases r[p]? with
      | none => simp [-List.map_map, -List.getD_eq_getElem?_getD]
      | some x => simp [-List.map_map, -List.getD_eq_getElem?_getD]
    have d2 := div_mat (n := n) (rows := pre ++ (r.map fun x => c * x) :: post) (by rw [k2.2.2]; omega) (by rw [k2.2.2]; omega) k2.1 n1 n2 k2.2.1 ((er ▸ gG).scaled gd2)
    have s2 : D.lst (rows.zipIdx.map fun q : List Int × Nat => row true (if q.2 = j then q.1.map (fun x => c * x) else q.1)) = mat (pre ++ (r.map fun x => c * x) :: post) := by
      have z := zip_upd (fun a : List Int => a.map fun x => c * x) r post pre 0
      rw [Nat.zero_add, el] at z
      rw [er, ← z, ← lst_mat, List.map_map]
      rfl
    rw [lc_map (fun q : List Int × Nat => D.tup [.int (q.2 : Nat), row true q.1]) (fun q => row true (if q.2 = j then q.1.map (fun x => c * x) else q.1)) rows.zipIdx rfl (by simp -implicitDefEqProofs [runD, runF, entry, mRet, mRetF, mRetOwn, mRetN, mSeqS, mNext, mBreak, mCont, mIfS, mDrop, mAsg, mNew, mPar, mPar3, mParFE, mParEF, mParFF, mApp, mExt, mItem, mAug, mKill, Fl.kill, killD, mFrz, frzD, mView, mVar, mVarS, mC, mOp, mOpF, mLst, mNil, mCons, mTup, mList, mCB, mCBF, mCall, mKey, mUnL, mTest, mNot, mAnd, mOr, mYes, mAndV, mOrV, mNotV, mIf, mIfF, mChain, mNeg, mNoPart, mPart, mSl, mSlF, mRev, mIsi, isiT, mIso, isoT, mTruth, mSeq, mB, Tg.put, Tg.putAll, optP, ownT, unB, unI, unL, negT, perm, mLRg1, mLRg2, mPop, mPopAt, mSetPop, mAppPop, mNever, -List.map_map, -List.getD_eq_getElem?_getD]) (by rw [List.length_zipIdx]; omega) ?step2]
    case step2 =>
      intro q hq
      have hqm : q.1 ∈ rows := List.fst_mem_of_mem_zipIdx hq
      refine ⟨_, rfl, rfl, ?_⟩
      by_cases hz : q.2 = j
      · have hz' : ((q.2 : Nat) : Int) = j := by omega
        simp -implicitDefEqProofs [runD, runF, entry, mRet, mRetF, mRetOwn, mRetN, mSeqS, mNext, mBreak, mCont, mIfS, mDrop, mAsg, mNew, mPar, mPar3, mParFE, mParEF, mParFF, mApp, mExt, mItem, mAug, mKill, Fl.kill, killD, mFrz, frzD, mView, mVar, mVarS, mC, mOp, mOpF, mLst, mNil, mCons, mTup, mList, mCB, mCBF, mCall, mKey, mUnL, mTest, mNot, mAnd, mOr, mYes, mAndV, mOrV, mNotV, mIf, mIfF, mChain, mNeg, mNoPart, mPart, mSl, mSlF, mRev, mIsi, isiT, mIso, isoT, mTruth, mSeq, mB, Tg.put, Tg.putAll, optP, ownT, unB, unI, unL, negT, perm, mLRg1, mLRg2, mPop, mPopAt, mSetPop, mAppPop, mNever, -List.map_map, -List.getD_eq_getElem?_getD, wipeD, hz]
        rw [lc_map D.int (fun x => D.int (c * x)) q.1 rfl (by simp -implicitDefEqProofs [runD, runF, entry, mRet, mRetF, mRetOwn, mRetN, mSeqS, mNext, mBreak, mCont, mIfS, mDrop, mAsg, mNew, mPar, mPar3, mParFE, mParEF, mParFF, mApp, mExt, mItem, mAug, mKill, Fl.kill, killD, mFrz, frzD, mView, mVar, mVarS, mC, mOp, mOpF, mLst, mNil, mCons, mTup, mList, mCB, mCBF, mCall, mKey, mUnL, mTest, mNot, mAnd, mOr, mYes, mAndV, mOrV, mNotV, mIf, mIfF, mChain, mNeg, mNoPart, mPart, mSl, mSlF, mRev, mIsi, isiT, mIso, isoT, mTruth, mSeq, mB, Tg.put, Tg.putAll, optP, ownT, unB, unI, unL, negT, perm, mLRg1, mLRg2, mPop, mPopAt, mSetPop, mAppPop, mNever, -List.map_map, -List.getD_eq_getElem?_getD]) (by rw [hn _ hqm]; omega) fun x hx => ⟨_, rfl, rfl, by simp -implicitDefEqProofs [runD, runF, entry, mRet, mRetF, mRetOwn, mRetN, mSeqS, mNext, mBreak, mCont, mIfS, mDrop, mAsg, mNew, mPar, mPar3, mParFE, mParEF, mParFF, mApp, mExt, mItem, mAug, mKill, Fl.kill, killD, mFrz, frzD, mView, mVar, mVarS, mC, mOp, mOpF, mLst, mNil, mCons, mTup, mList, mCB, mCBF, mCall, mKey, mUnL, mTest, mNot, mAnd, mOr, mYes, mAndV, mOrV, mNotV, mIf, mIfF, mChain, mNeg, mNoPart, mPart, mSl, mSlF, mRev, mIsi, isiT, mIso, isoT, mTruth, mSeq, mB, Tg.put, Tg.putAll, optP, ownT, unB, unI, unL, negT, perm, mLRg1, mLRg2, mPop, mPopAt, mSetPop, mAppPop, mNever, -List.map_map, -List.getD_eq_getElem?_getD, wipeD, mulT_ok ccap (hcap x (hB' _ hqm x hx))]⟩]
        rw [T.bind_ret]
        unfold row sq
        rw [List.map_map]
        rfl
      · have hz' : ¬ ((q.2 : Nat) : Int) = j := by omega
        simp -implicitDefEqProofs [runD, runF, entry, mRet, mRetF, mRetOwn, mRetN, mSeqS, mNext, mBreak, mCont, mIfS, mDrop, mAsg, mNew, mPar, mPar3, mParFE, mParEF, mParFF, mApp, mExt, mItem, mAug, mKill, Fl.kill, killD, mFrz, frzD, mView, mVar, mVarS, mC, mOp, mOpF, mLst, mNil, mCons, mTup, mList, mCB, mCBF, mCall, mKey, mUnL, mTest, mNot, mAnd, mOr, mYes, mAndV, mOrV, mNotV, mIf, mIfF, mChain, mNeg, mNoPart, mPart, mSl, mSlF, mRev, mIsi, isiT, mIso, isoT, mTruth, mSeq, mB, Tg.put, Tg.putAll, optP, ownT, unB, unI, unL, negT, perm, mLRg1, mLRg2, mPop, mPopAt, mSetPop, mAppPop, mNever, -List.map_map, -List.getD_eq_getElem?_getD, wipeD, hz, hz']
    rw [T.wq_ret, s2, d2, T.wq_ret]
    have ea : (if c < 0 then -c else c) = (c.natAbs : Int) := by omega
    have mG := mulT_ok (i := (G : Int)) (j := (c.natAbs : Int)) (mul_cap (n := 1000) sG (by decide)) (hcap _ (by omega))
    have eR : D.lst (rows.map (row true)).reverse = mat rows.reverse := by unfold mat; rw [List.map_reverse]
    have dR := div_mat (n := n) (rows := rows.reverse) (by rw [List.length_reverse]; exact h1) (by rw [List.length_reverse]; omega) (fun s hs => hn s (List.mem_reverse.mp hs)) n1 n2 (fun s hs => hB' s (List.mem_reverse.mp hs)) gG.rev
    have hmr : ∀ s ∈ rows.map List.reverse, ∃ t ∈ rows, s = t.reverse := fun s hs => by
      obtain ⟨t, ht, e⟩ := List.mem_map.mp hs
      exact ⟨t, ht, e.symm⟩
    have dC := div_mat (n := n) (rows := rows.map List.reverse) (by rw [List.length_map]; exact h1) (by rw [List.length_map]; omega) (fun s hs => by obtain ⟨t, ht, rfl⟩ := hmr s hs; rw [List.length_reverse]; exact hn t ht) n1 n2 (fun s hs x hx => by obtain ⟨t, ht, rfl⟩ := hmr s hs; exact hB' t ht x (List.mem_reverse.mp hx)) (gG.cols hn)
    have eC : D.lst (rows.map fun a => row true a.reverse) = mat (rows.map List.reverse) := by
      unfold mat
      rw [List.map_map]
      rfl
    have eRv : ∀ s : List Int, D.lst (s.map D.int).reverse = row true s.reverse := fun s => by rw [← List.map_reverse]; rfl
    simp -implicitDefEqProofs [↓seq_w, ↓if_w, ↓kill_w, ↓run_w, ↓runF_w, kSeq_nx, kSeq_rt, kSeq_bk, kSeq_ct, kIf_t, kIf_f, kIf_d, kKill_nx, kKill_ct, kKill_rt, kKill_bk, kRun_rt, kRun_nx, kRunF_rt, ↓mRet_ap, ↓mRetF_ap, ↓mRetOwn_ap, ↓mRetN_ap, ↓mNext_ap, ↓mBreak_ap, ↓mCont_ap, ↓mDrop_ap, ↓mAsg_ap, ↓mNew_ap, ↓mPar_ap, ↓mPar3_ap, ↓mParFE_ap, ↓mParEF_ap, ↓mParFF_ap, ↓mApp_ap, ↓mExt_ap, ↓mItem_ap, ↓mAug_ap, ↓mFrz_ap, ↓mView_ap, ↓mVar_ap, ↓mVarS_ap, ↓mC_ap, ↓mOp_ap, ↓mOpF_ap, ↓mLst_ap, ↓mNil_ap, ↓mCons_ap, ↓mTup_ap, ↓mList_ap, ↓mCB_ap, ↓mCBF_ap, ↓mCall_ap, ↓mKey_ap, ↓mUnL_ap, ↓mTest_ap, ↓mNot_ap, ↓mAnd_ap, ↓mOr_ap, ↓mYes_ap, ↓mAndV_ap, ↓mOrV_ap, ↓mNotV_ap, ↓mIf_ap, ↓mIfF_ap, ↓mChain_ap, ↓mNeg_ap, ↓mNoPart_ap, ↓mPart_ap, ↓mSl_ap, ↓mSlF_ap, ↓mRev_ap, ↓mIsi_ap, ↓mIso_ap, ↓mTruth_ap, ↓mSeq_ap, ↓mB_ap, ↓mLRg1_ap, ↓mLRg2_ap, ↓mPop_ap, ↓mPopAt_ap, ↓mSetPop_ap, ↓mAppPop_ap, ↓mNever_ap, entry, Fl.kill, killD, frzD, isiT, isoT, put_nm, put_tp, putAll_nil, putAll_cons, optP_some, ownT, unB, unI, unL, negT, perm, ↓T.wq_bind, -List.map_map, -List.getD_eq_getElem?_getD, ea, mG, eR, dR]
    rw [lc_map (row true) (fun a => row true a.reverse) rows rfl (by simp -implicitDefEqProofs [runD, runF, entry, mRet, mRetF, mRetOwn, mRetN, mSeqS, mNext, mBreak, mCont, mIfS, mDrop, mAsg, mNew, mPar, mPar3, mParFE, mParEF, mParFF, mApp, mExt, mItem, mAug, mKill, Fl.kill, killD, mFrz, frzD, mView, mVar, mVarS, mC, mOp, mOpF, mLst, mNil, mCons, mTup, mList, mCB, mCBF, mCall, mKey, mUnL, mTest, mNot, mAnd, mOr, mYes, mAndV, mOrV, mNotV, mIf, mIfF, mChain, mNeg, mNoPart, mPart, mSl, mSlF, mRev, mIsi, isiT, mIso, isoT, mTruth, mSeq, mB, Tg.put, Tg.putAll, optP, ownT, unB, unI, unL, negT, perm, mLRg1, mLRg2, mPop, mPopAt, mSetPop, mAppPop, mNever, -List.map_map, -List.getD_eq_getElem?_getD]) (by omega) fun s hs => ⟨_, rfl, rfl, by simp -implicitDefEqProofs [runD, runF, entry, mRet, mRetF, mRetOwn, mRetN, mSeqS, mNext, mBreak, mCont, mIfS, mDrop, mAsg, mNew, mPar, mPar3, mParFE, mParEF, mParFF, mApp, mExt, mItem, mAug, mKill, Fl.kill, killD, mFrz, frzD, mView, mVar, mVarS, mC, mOp, mOpF, mLst, mNil, mCons, mTup, mList, mCB, mCBF, mCall, mKey, mUnL, mTest, mNot, mAnd, mOr, mYes, mAndV, mOrV, mNotV, mIf, mIfF, mChain, mNeg, mNoPart, mPart, mSl, mSlF, mRev, mIsi, isiT, mIso, isoT, mTruth, mSeq, mB, Tg.put, Tg.putAll, optP, ownT, unB, unI, unL, negT, perm, mLRg1, mLRg2, mPop, mPopAt, mSetPop, mAppPop, mNever, -List.map_map, -List.getD_eq_getElem?_getD, wipeD, eRv]⟩]
    simp -implicitDefEqProofs [↓seq_w, ↓if_w, ↓kill_w, ↓run_w, ↓runF_w, kSeq_nx, kSeq_rt, kSeq_bk, kSeq_ct, kIf_t, kIf_f, kIf_d, kKill_nx, kKill_ct, kKill_rt, kKill_bk, kRun_rt, kRun_nx, kRunF_rt, ↓mRet_ap, ↓mRetF_ap, ↓mRetOwn_ap, ↓mRetN_ap, ↓mNext_ap, ↓mBreak_ap, ↓mCont_ap, ↓mDrop_ap, ↓mAsg_ap, ↓mNew_ap, ↓mPar_ap, ↓mPar3_ap, ↓mParFE_ap, ↓mParEF_ap, ↓mParFF_ap, ↓mApp_ap, ↓mExt_ap, ↓mItem_ap, ↓mAug_ap, ↓mFrz_ap, ↓mView_ap, ↓mVar_ap, ↓mVarS_ap, ↓mC_ap, ↓mOp_ap, ↓mOpF_ap, ↓mLst_ap, ↓mNil_ap, ↓mCons_ap, ↓mTup_ap, ↓mList_ap, ↓mCB_ap, ↓mCBF_ap, ↓mCall_ap, ↓mKey_ap, ↓mUnL_ap, ↓mTest_ap, ↓mNot_ap, ↓mAnd_ap, ↓mOr_ap, ↓mYes_ap, ↓mAndV_ap, ↓mOrV_ap, ↓mNotV_ap, ↓mIf_ap, ↓mIfF_ap, ↓mChain_ap, ↓mNeg_ap, ↓mNoPart_ap, ↓mPart_ap, ↓mSl_ap, ↓mSlF_ap, ↓mRev_ap, ↓mIsi_ap, ↓mIso_ap, ↓mTruth_ap, ↓mSeq_ap, ↓mB_ap, ↓mLRg1_ap, ↓mLRg2_ap, ↓mPop_ap, ↓mPopAt_ap, ↓mSetPop_ap, ↓mAppPop_ap, ↓mNever_ap, entry, Fl.kill, killD, frzD, isiT, isoT, put_nm, put_tp, putAll_nil, putAll_cons, optP_some, ownT, unB, unI, unL, negT, perm, ↓T.wq_bind, -List.map_map, -List.getD_eq_getElem?_getD, eC, dC]
    have dT : m_divisor [mat (rows ++ rows.take 1)] = .ret (.int (0 : Nat)) := by
      have sub : ∀ s ∈ rows ++ rows.take 1, s ∈ rows := fun s hs => (List.mem_append.mp hs).elim id fun z => List.mem_of_mem_take z
      have hlen2 : (rows ++ rows.take 1).length = rows.length + 1 := by rw [List.length_append, List.length_take]; omega
      refine div_mat (n := n) (by omega) (by omega) (fun s hs => hn s (sub s hs)) n1 n2 (fun s hs => hB' s (sub s hs)) ?_
      cases rows with
      | nil => simp [-List.map_map, -List.getD_eq_getElem?_getD] at h1
      | cons q qs => exact isG.twice
    have hcat : rows.length + (rows.take 1).length ≤ 100000 := by rw [List.length_take]; omega
    have eT := addT_mat hcat
    have eTk : ([none, some (Slot.dat (mat rows)), none, none, none, none, none, none, none, none, none, none, none, none] : Sts).length = 14 := rfl
    by_cases hm1 : 1 < (rows.length : Int)
    · obtain ⟨s, es, hsm, hz⟩ : ∃ s, L2.atI rows ((j : Int) - 1) = some s ∧ s ∈ rows ∧ ∀ ps, minor (pre ++ s :: post) ps = 0 := by
        by_cases j0 : j = 0
        · have p0 : pre = [] := List.eq_nil_of_length_eq_zero (by omega)
          have hq : post ≠ [] := fun z => by rw [z, p0] at hlen; simp [-List.map_map, -List.getD_eq_getElem?_getD] at hlen; omega
          obtain ⟨mid, s, e⟩ : ∃ mid s, post = mid ++ [s] := ⟨_, _, (List.dropLast_concat_getLast hq).symm⟩
          refine ⟨s, ?_, ?_, fun ps => ?_⟩
          · rw [er, p0, j0, List.nil_append, e, ← List.cons_append]
            exact atI_last _ _
          · rw [er, e]
            simp [-List.map_map, -List.getD_eq_getElem?_getD]
          · rw [p0, List.nil_append, e]
            exact minor_eq0 mid [] ps
        · have hq : pre ≠ [] := fun z => by rw [z] at el; simp [-List.map_map, -List.getD_eq_getElem?_getD] at el; omega
          obtain ⟨pr, s, e⟩ : ∃ pr s, pre = pr ++ [s] := ⟨_, _, (List.dropLast_concat_getLast hq).symm⟩
          have lp : pr.length = j - 1 := by rw [← el, e]; simp [-List.map_map, -List.getD_eq_getElem?_getD]
          refine ⟨s, ?_, ?_, fun ps => ?_⟩
          · rw [show ((j : Int) - 1) = ((pr.length : Nat) : Int) from by omega, er, e, List.append_assoc]
            exact atI_mid _ _ _
          · rw [er, e]
            simp [-List.map_map, -List.getD_eq_getElem?_getD]
          · rw [e, List.append_assoc]
            exact minor_eq0 (r := s) (post := post) [] pr ps
      have kz := keep ((r.zip s).map fun z => z.1 + c * z.2) (by rw [List.length_map, List.length_zip, hn r hrm, hn s hsm]; omega) fun x hx => by
        obtain ⟨z, hz, rfl⟩ := List.mem_map.mp hx
        obtain ⟨z1, z2⟩ := List.of_mem_zip hz
        have b1 := hB r hrm _ z1
        have b2 := hB s hsm _ z2
        have b3 : (c * z.2).natAbs ≤ 3 * 2 ^ 40 := by rw [Int.natAbs_mul]; exact Nat.mul_le_mul hc b2
        omega
      have gz : ∀ p, ((r.zip s).map fun z => z.1 + c * z.2).getD p 0 = r.getD p 0 + c * s.getD p 0 := fun p => by
        have := getD_zip (fun x y => x + c * y) (by simp [-List.map_map, -List.getD_eq_getElem?_getD]) r s (by rw [hn r hrm, hn s hsm]) p
        rw [← this]
        congr 1
        show (List.zipWith Prod.mk r s).map _ = _
        rw [List.map_zipWith]
      have dz := div_mat (n := n) (rows := pre ++ ((r.zip s).map fun z => z.1 + c * z.2) :: post) (by rw [kz.2.2]; omega) (by rw [kz.2.2]; omega) kz.1 n1 n2 kz.2.1 ((er ▸ gG).mixed gz hz)
      have sz : D.lst (rows.zipIdx.map fun q : List Int × Nat => row true (if q.2 = j then (q.1.zip s).map (fun z => z.1 + c * z.2) else q.1)) = mat (pre ++ ((r.zip s).map fun z => z.1 + c * z.2) :: post) := by
        have z := zip_upd (fun a : List Int => (a.zip s).map fun z => z.1 + c * z.2) r post pre 0
        rw [Nat.zero_add, el] at z
        rw [er, ← z, ← lst_mat, List.map_map]
        rfl
      simp -implicitDefEqProofs [↓seq_w, ↓if_w, ↓kill_w, ↓run_w, ↓runF_w, kSeq_nx, kSeq_rt, kSeq_bk, kSeq_ct, kIf_t, kIf_f, kIf_d, kKill_nx, kKill_ct, kKill_rt, kKill_bk, kRun_rt, kRun_nx, kRunF_rt, ↓mRet_ap, ↓mRetF_ap, ↓mRetOwn_ap, ↓mRetN_ap, ↓mNext_ap, ↓mBreak_ap, ↓mCont_ap, ↓mDrop_ap, ↓mAsg_ap, ↓mNew_ap, ↓mPar_ap, ↓mPar3_ap, ↓mParFE_ap, ↓mParEF_ap, ↓mParFF_ap, ↓mApp_ap, ↓mExt_ap, ↓mItem_ap, ↓mAug_ap, ↓mFrz_ap, ↓mView_ap, ↓mVar_ap, ↓mVarS_ap, ↓mC_ap, ↓mOp_ap, ↓mOpF_ap, ↓mLst_ap, ↓mNil_ap, ↓mCons_ap, ↓mTup_ap, ↓mList_ap, ↓mCB_ap, ↓mCBF_ap, ↓mCall_ap, ↓mKey_ap, ↓mUnL_ap, ↓mTest_ap, ↓mNot_ap, ↓mAnd_ap, ↓mOr_ap, ↓mYes_ap, ↓mAndV_ap, ↓mOrV_ap, ↓mNotV_ap, ↓mIf_ap, ↓mIfF_ap, ↓mChain_ap, ↓mNeg_ap, ↓mNoPart_ap, ↓mPart_ap, ↓mSl_ap, ↓mSlF_ap, ↓mRev_ap, ↓mIsi_ap, ↓mIso_ap, ↓mTruth_ap, ↓mSeq_ap, ↓mB_ap, ↓mLRg1_ap, ↓mLRg2_ap, ↓mPop_ap, ↓mPopAt_ap, ↓mSetPop_ap, ↓mAppPop_ap, ↓mNever_ap, entry, Fl.kill, killD, frzD, isiT, isoT, put_nm, put_tp, putAll_nil, putAll_cons, optP_some, ownT, unB, unI, unL, negT, perm, ↓T.wq_bind, -List.map_map, -List.getD_eq_getElem?_getD, hm1, es]
      rw [lc_map (fun q : List Int × Nat => D.tup [.int (q.2 : Nat), row true q.1]) (fun q => row true (if q.2 = j then (q.1.zip s).map (fun z => z.1 + c * z.2) else q.1)) rows.zipIdx rfl (by simp -implicitDefEqProofs [runD, runF, entry, mRet, mRetF, mRetOwn, mRetN, mSeqS, mNext, mBreak, mCont, mIfS, mDrop, mAsg, mNew, mPar, mPar3, mParFE, mParEF, mParFF, mApp, mExt, mItem, mAug, mKill, Fl.kill, killD, mFrz, frzD, mView, mVar, mVarS, mC, mOp, mOpF, mLst, mNil, mCons, mTup, mList, mCB, mCBF, mCall, mKey, mUnL, mTest, mNot, mAnd, mOr, mYes, mAndV, mOrV, mNotV, mIf, mIfF, mChain, mNeg, mNoPart, mPart, mSl, mSlF, mRev, mIsi, isiT, mIso, isoT, mTruth, mSeq, mB, Tg.put, Tg.putAll, optP, ownT, unB, unI, unL, negT, perm, mLRg1, mLRg2, mPop, mPopAt, mSetPop, mAppPop, mNever, -List.map_map, -List.getD_eq_getElem?_getD]) (by rw [List.length_zipIdx]; omega) ?step3]
      case step3 =>
        intro q hq
        have hqm : q.1 ∈ rows := List.fst_mem_of_mem_zipIdx hq
        refine ⟨_, rfl, rfl, ?_⟩
        by_cases hzj : q.2 = j
        · simp -implicitDefEqProofs [runD, runF, entry, mRet, mRetF, mRetOwn, mRetN, mSeqS, mNext, mBreak, mCont, mIfS, mDrop, mAsg, mNew, mPar, mPar3, mParFE, mParEF, mParFF, mApp, mExt, mItem, mAug, mKill, Fl.kill, killD, mFrz, frzD, mView, mVar, mVarS, mC, mOp, mOpF, mLst, mNil, mCons, mTup, mList, mCB, mCBF, mCall, mKey, mUnL, mTest, mNot, mAnd, mOr, mYes, mAndV, mOrV, mNotV, mIf, mIfF, mChain, mNeg, mNoPart, mPart, mSl, mSlF, mRev, mIsi, isiT, mIso, isoT, mTruth, mSeq, mB, Tg.put, Tg.putAll, optP, ownT, unB, unI, unL, negT, perm, mLRg1, mLRg2, mPop, mPopAt, mSetPop, mAppPop, mNever, -List.map_map, -List.getD_eq_getElem?_getD, wipeD, hzj]
          rw [lc_map (fun z : Int × Int => D.tup [.int z.1, .int z.2]) (fun z => D.int (z.1 + c * z.2)) (q.1.zip s) rfl (by simp -implicitDefEqProofs [runD, runF, entry, mRet, mRetF, mRetOwn, mRetN, mSeqS, mNext, mBreak, mCont, mIfS, mDrop, mAsg, mNew, mPar, mPar3, mParFE, mParEF, mParFF, mApp, mExt, mItem, mAug, mKill, Fl.kill, killD, mFrz, frzD, mView, mVar, mVarS, mC, mOp, mOpF, mLst, mNil, mCons, mTup, mList, mCB, mCBF, mCall, mKey, mUnL, mTest, mNot, mAnd, mOr, mYes, mAndV, mOrV, mNotV, mIf, mIfF, mChain, mNeg, mNoPart, mPart, mSl, mSlF, mRev, mIsi, isiT, mIso, isoT, mTruth, mSeq, mB, Tg.put, Tg.putAll, optP, ownT, unB, unI, unL, negT, perm, mLRg1, mLRg2, mPop, mPopAt, mSetPop, mAppPop, mNever, -List.map_map, -List.getD_eq_getElem?_getD, es]) (by rw [List.length_zip, hn _ hqm]; omega) fun z hz => ⟨_, rfl, rfl, by simp -implicitDefEqProofs [runD, runF, entry, mRet, mRetF, mRetOwn, mRetN, mSeqS, mNext, mBreak, mCont, mIfS, mDrop, mAsg, mNew, mPar, mPar3, mParFE, mParEF, mParFF, mApp, mExt, mItem, mAug, mKill, Fl.kill, killD, mFrz, frzD, mView, mVar, mVarS, mC, mOp, mOpF, mLst, mNil, mCons, mTup, mList, mCB, mCBF, mCall, mKey, mUnL, mTest, mNot, mAnd, mOr, mYes, mAndV, mOrV, mNotV, mIf, mIfF, mChain, mNeg, mNoPart, mPart, mSl, mSlF, mRev, mIsi, isiT, mIso, isoT, mTruth, mSeq, mB, Tg.put, Tg.putAll, optP, ownT, unB, unI, unL, negT, perm, mLRg1, mLRg2, mPop, mPopAt, mSetPop, mAppPop, mNever, -List.map_map, -List.getD_eq_getElem?_getD, wipeD, mulT_ok ccap (hcap z.2 (hB' _ hsm _ (List.of_mem_zip hz).2))]⟩]
          rw [T.bind_ret]
          unfold row sq
          rw [List.map_map]
          rfl
        · have hz' : ¬ ((q.2 : Nat) : Int) = j := by omega
          simp -implicitDefEqProofs [runD, runF, entry, mRet, mRetF, mRetOwn, mRetN, mSeqS, mNext, mBreak, mCont, mIfS, mDrop, mAsg, mNew, mPar, mPar3, mParFE, mParEF, mParFF, mApp, mExt, mItem, mAug, mKill, Fl.kill, killD, mFrz, frzD, mView, mVar, mVarS, mC, mOp, mOpF, mLst, mNil, mCons, mTup, mList, mCB, mCBF, mCall, mKey, mUnL, mTest, mNot, mAnd, mOr, mYes, mAndV, mOrV, mNotV, mIf, mIfF, mChain, mNeg, mNoPart, mPart, mSl, mSlF, mRev, mIsi, isiT, mIso, isoT, mTruth, mSeq, mB, Tg.put, Tg.putAll, optP, ownT, unB, unI, unL, negT, perm, mLRg1, mLRg2, mPop, mPopAt, mSetPop, mAppPop, mNever, -List.map_map, -List.getD_eq_getElem?_getD, wipeD, hzj, hz']
      rw [T.wq_ret, sz, dz]
      simp -implicitDefEqProofs [↓seq_w, ↓if_w, ↓kill_w, ↓run_w, ↓runF_w, kSeq_nx, kSeq_rt, kSeq_bk, kSeq_ct, kIf_t, kIf_f, kIf_d, kKill_nx, kKill_ct, kKill_rt, kKill_bk, kRun_rt, kRun_nx, kRunF_rt, ↓mRet_ap, ↓mRetF_ap, ↓mRetOwn_ap, ↓mRetN_ap, ↓mNext_ap, ↓mBreak_ap, ↓mCont_ap, ↓mDrop_ap, ↓mAsg_ap, ↓mNew_ap, ↓mPar_ap, ↓mPar3_ap, ↓mParFE_ap, ↓mParEF_ap, ↓mParFF_ap, ↓mApp_ap, ↓mExt_ap, ↓mItem_ap, ↓mAug_ap, ↓mFrz_ap, ↓mView_ap, ↓mVar_ap, ↓mVarS_ap, ↓mC_ap, ↓mOp_ap, ↓mOpF_ap, ↓mLst_ap, ↓mNil_ap, ↓mCons_ap, ↓mTup_ap, ↓mList_ap, ↓mCB_ap, ↓mCBF_ap, ↓mCall_ap, ↓mKey_ap, ↓mUnL_ap, ↓mTest_ap, ↓mNot_ap, ↓mAnd_ap, ↓mOr_ap, ↓mYes_ap, ↓mAndV_ap, ↓mOrV_ap, ↓mNotV_ap, ↓mIf_ap, ↓mIfF_ap, ↓mChain_ap, ↓mNeg_ap, ↓mNoPart_ap, ↓mPart_ap, ↓mSl_ap, ↓mSlF_ap, ↓mRev_ap, ↓mIsi_ap, ↓mIso_ap, ↓mTruth_ap, ↓mSeq_ap, ↓mB_ap, ↓mLRg1_ap, ↓mLRg2_ap, ↓mPop_ap, ↓mPopAt_ap, ↓mSetPop_ap, ↓mAppPop_ap, ↓mNever_ap, entry, Fl.kill, killD, frzD, isiT, isoT, put_nm, put_tp, putAll_nil, putAll_cons, optP_some, ownT, unB, unI, unL, negT, perm, ↓T.wq_bind, -List.map_map, -List.getD_eq_getElem?_getD, eT, dT, h]
    · simp -implicitDefEqProofs [↓seq_w, ↓if_w, ↓kill_w, ↓run_w, ↓runF_w, kSeq_nx, kSeq_rt, kSeq_bk, kSeq_ct, kIf_t, kIf_f, kIf_d, kKill_nx, kKill_ct, kKill_rt, kKill_bk, kRun_rt, kRun_nx, kRunF_rt, ↓mRet_ap, ↓mRetF_ap, ↓mRetOwn_ap, ↓mRetN_ap, ↓mNext_ap, ↓mBreak_ap, ↓mCont_ap, ↓mDrop_ap, ↓mAsg_ap, ↓mNew_ap, ↓mPar_ap, ↓mPar3_ap, ↓mParFE_ap, ↓mParEF_ap, ↓mParFF_ap, ↓mApp_ap, ↓mExt_ap, ↓mItem_ap, ↓mAug_ap, ↓mFrz_ap, ↓mView_ap, ↓mVar_ap, ↓mVarS_ap, ↓mC_ap, ↓mOp_ap, ↓mOpF_ap, ↓mLst_ap, ↓mNil_ap, ↓mCons_ap, ↓mTup_ap, ↓mList_ap, ↓mCB_ap, ↓mCBF_ap, ↓mCall_ap, ↓mKey_ap, ↓mUnL_ap, ↓mTest_ap, ↓mNot_ap, ↓mAnd_ap, ↓mOr_ap, ↓mYes_ap, ↓mAndV_ap, ↓mOrV_ap, ↓mNotV_ap, ↓mIf_ap, ↓mIfF_ap, ↓mChain_ap, ↓mNeg_ap, ↓mNoPart_ap, ↓mPart_ap, ↓mSl_ap, ↓mSlF_ap, ↓mRev_ap, ↓mIsi_ap, ↓mIso_ap, ↓mTruth_ap, ↓mSeq_ap, ↓mB_ap, ↓mLRg1_ap, ↓mLRg2_ap, ↓mPop_ap, ↓mPopAt_ap, ↓mSetPop_ap, ↓mAppPop_ap, ↓mNever_ap, entry, Fl.kill, killD, frzD, isiT, isoT, put_nm, put_tp, putAll_nil, putAll_cons, optP_some, ownT, unB, unI, unL, negT, perm, ↓T.wq_bind, -List.map_map, -List.getD_eq_getElem?_getD, hm1, eT, dT, h]
theorem div_val {rows : List (List Int)} (n : Nat) (h1 : 1 ≤ rows.length) (h2 : rows.length ≤ 6) (hn : ∀ r ∈ rows, r.length = n) (n1 : 1 ≤ n) (n2 : n ≤ 6) (hB : ∀ r ∈ rows, ∀ x ∈ r, x.natAbs ≤ 2 ^ 60) : m_divisor [mat rows] = .ret (.int (gAll (minor rows) (among n rows.length) 0 : Nat)) :=
  div_mat h1 h2 hn n1 n2 hB (gAll_isG fun ps => among_mem n _ ps)
theorem right_wp {p : Addr → Prop} {a : Addr} {P : D → Prop} (hp : p a) (h : P (.bl true)) : (m_right_ [.adr a]).wq p P := by
  have v1 : m_divisor [.lst [.lst [.int 4, .int (-6), .int 10]]] = .ret (.int 2) := div_val (rows := [[4, -6, 10]]) 3 (by decide) (by decide) (by decide) (by decide) (by decide) (by decide)
  have v2 : m_divisor [.lst [.lst [.int 0, .int 0]]] = .ret (.int 0) := div_val (rows := [[0, 0]]) 2 (by decide) (by decide) (by decide) (by decide) (by decide) (by decide)
  have v3 : m_divisor [.lst [.lst [.int 1], .lst [.int 2]]] = .ret (.int 0) := div_val (rows := [[1], [2]]) 1 (by decide) (by decide) (by decide) (by decide) (by decide) (by decide)
  have v4 : m_divisor [.lst [.lst [.int 1, .int 2, .int 3], .lst [.int 1, .int 0, .int 1]]] = .ret (.int 2) := div_val (rows := [[1, 2, 3], [1, 0, 1]]) 3 (by decide) (by decide) (by decide) (by decide) (by decide) (by decide)
  have hr : rng1T [.int 2] = .ret [.int 0, .int 1] := rng1_nat (k := 2) (by decide)
  simp only [m_right_, mb_right_]
  simp -implicitDefEqProofs [↓seq_w, ↓if_w, ↓kill_w, ↓run_w, ↓runF_w, kSeq_nx, kSeq_rt, kSeq_bk, kSeq_ct, kIf_t, kIf_f, kIf_d, kKill_nx, kKill_ct, kKill_rt, kKill_bk, kRun_rt, kRun_nx, kRunF_rt, ↓mRet_ap, ↓mRetF_ap, ↓mRetOwn_ap, ↓mRetN_ap, ↓mNext_ap, ↓mBreak_ap, ↓mCont_ap, ↓mDrop_ap, ↓mAsg_ap, ↓mNew_ap, ↓mPar_ap, ↓mPar3_ap, ↓mParFE_ap, ↓mParEF_ap, ↓mParFF_ap, ↓mApp_ap, ↓mExt_ap, ↓mItem_ap, ↓mAug_ap, ↓mFrz_ap, ↓mView_ap, ↓mVar_ap, ↓mVarS_ap, ↓mC_ap, ↓mOp_ap, ↓mOpF_ap, ↓mLst_ap, ↓mNil_ap, ↓mCons_ap, ↓mTup_ap, ↓mList_ap, ↓mCB_ap, ↓mCBF_ap, ↓mCall_ap, ↓mKey_ap, ↓mUnL_ap, ↓mTest_ap, ↓mNot_ap, ↓mAnd_ap, ↓mOr_ap, ↓mYes_ap, ↓mAndV_ap, ↓mOrV_ap, ↓mNotV_ap, ↓mIf_ap, ↓mIfF_ap, ↓mChain_ap, ↓mNeg_ap, ↓mNoPart_ap, ↓mPart_ap, ↓mSl_ap, ↓mSlF_ap, ↓mRev_ap, ↓mIsi_ap, ↓mIso_ap, ↓mTruth_ap, ↓mSeq_ap, ↓mB_ap, ↓mLRg1_ap, ↓mLRg2_ap, ↓mPop_ap, ↓mPopAt_ap, ↓mSetPop_ap, ↓mAppPop_ap, ↓mNever_ap, entry, Fl.kill, killD, frzD, isiT, isoT, put_nm, put_tp, putAll_nil, putAll_cons, optP_some, ownT, unB, unI, unL, negT, perm, ↓T.wq_bind, -List.map_map, -List.getD_eq_getElem?_getD, entry]
  refine for_wp [.int 0, .int 1] (fun ds => ∃ x, ds = [some (.dat (.adr a)), x, none, none]) (by simp -implicitDefEqProofs [runD, runF, entry, mRet, mRetF, mRetOwn, mRetN, mSeqS, mNext, mBreak, mCont, mIfS, mDrop, mAsg, mNew, mPar, mPar3, mParFE, mParEF, mParFF, mApp, mExt, mItem, mAug, mKill, Fl.kill, killD, mFrz, frzD, mView, mVar, mVarS, mC, mOp, mOpF, mLst, mNil, mCons, mTup, mList, mCB, mCBF, mCall, mKey, mUnL, mTest, mNot, mAnd, mOr, mYes, mAndV, mOrV, mNotV, mIf, mIfF, mChain, mNeg, mNoPart, mPart, mSl, mSlF, mRev, mIsi, isiT, mIso, isoT, mTruth, mSeq, mB, Tg.put, Tg.putAll, optP, ownT, unB, unI, unL, negT, perm, mLRg1, mLRg2, mPop, mPopAt, mSetPop, mAppPop, mNever, -List.map_map, -List.getD_eq_getElem?_getD, hr]) ⟨_, rfl⟩ (fun x hx ds hd => ?_) fun ds hd => ?_
  · obtain ⟨y, rfl⟩ := hd
    refine ⟨_, rfl, ?_⟩
    simp -implicitDefEqProofs [↓seq_w, ↓if_w, ↓kill_w, ↓run_w, ↓runF_w, kSeq_nx, kSeq_rt, kSeq_bk, kSeq_ct, kIf_t, kIf_f, kIf_d, kKill_nx, kKill_ct, kKill_rt, kKill_bk, kRun_rt, kRun_nx, kRunF_rt, ↓mRet_ap, ↓mRetF_ap, ↓mRetOwn_ap, ↓mRetN_ap, ↓mNext_ap, ↓mBreak_ap, ↓mCont_ap, ↓mDrop_ap, ↓mAsg_ap, ↓mNew_ap, ↓mPar_ap, ↓mPar3_ap, ↓mParFE_ap, ↓mParEF_ap, ↓mParFF_ap, ↓mApp_ap, ↓mExt_ap, ↓mItem_ap, ↓mAug_ap, ↓mFrz_ap, ↓mView_ap, ↓mVar_ap, ↓mVarS_ap, ↓mC_ap, ↓mOp_ap, ↓mOpF_ap, ↓mLst_ap, ↓mNil_ap, ↓mCons_ap, ↓mTup_ap, ↓mList_ap, ↓mCB_ap, ↓mCBF_ap, ↓mCall_ap, ↓mKey_ap, ↓mUnL_ap, ↓mTest_ap, ↓mNot_ap, ↓mAnd_ap, ↓mOr_ap, ↓mYes_ap, ↓mAndV_ap, ↓mOrV_ap, ↓mNotV_ap, ↓mIf_ap, ↓mIfF_ap, ↓mChain_ap, ↓mNeg_ap, ↓mNoPart_ap, ↓mPart_ap, ↓mSl_ap, ↓mSlF_ap, ↓mRev_ap, ↓mIsi_ap, ↓mIso_ap, ↓mTruth_ap, ↓mSeq_ap, ↓mB_ap, ↓mLRg1_ap, ↓mLRg2_ap, ↓mPop_ap, ↓mPopAt_ap, ↓mSetPop_ap, ↓mAppPop_ap, ↓mNever_ap, entry, Fl.kill, killD, frzD, isiT, isoT, put_nm, put_tp, putAll_nil, putAll_cons, optP_some, ownT, unB, unI, unL, negT, perm, ↓T.wq_bind, -List.map_map, -List.getD_eq_getElem?_getD, hp]
    intro i i0 i1 j j0 j1
    rw [show (1 + i) = ((1 + i.toNat : Nat) : Int) from by omega, show (1 + j) = ((1 + j.toNat : Nat) : Int) from by omega]
    refine rows_wp hp (by omega) (by omega) (by omega) (by omega) fun rows h1 h2 h3 => ?_
    refine one_right_wp hp (by omega) (by omega) h2 (by omega) (by omega) h3 ?_
    simp -implicitDefEqProofs [↓seq_w, ↓if_w, ↓kill_w, ↓run_w, ↓runF_w, kSeq_nx, kSeq_rt, kSeq_bk, kSeq_ct, kIf_t, kIf_f, kIf_d, kKill_nx, kKill_ct, kKill_rt, kKill_bk, kRun_rt, kRun_nx, kRunF_rt, ↓mRet_ap, ↓mRetF_ap, ↓mRetOwn_ap, ↓mRetN_ap, ↓mNext_ap, ↓mBreak_ap, ↓mCont_ap, ↓mDrop_ap, ↓mAsg_ap, ↓mNew_ap, ↓mPar_ap, ↓mPar3_ap, ↓mParFE_ap, ↓mParEF_ap, ↓mParFF_ap, ↓mApp_ap, ↓mExt_ap, ↓mItem_ap, ↓mAug_ap, ↓mFrz_ap, ↓mView_ap, ↓mVar_ap, ↓mVarS_ap, ↓mC_ap, ↓mOp_ap, ↓mOpF_ap, ↓mLst_ap, ↓mNil_ap, ↓mCons_ap, ↓mTup_ap, ↓mList_ap, ↓mCB_ap, ↓mCBF_ap, ↓mCall_ap, ↓mKey_ap, ↓mUnL_ap, ↓mTest_ap, ↓mNot_ap, ↓mAnd_ap, ↓mOr_ap, ↓mYes_ap, ↓mAndV_ap, ↓mOrV_ap, ↓mNotV_ap, ↓mIf_ap, ↓mIfF_ap, ↓mChain_ap, ↓mNeg_ap, ↓mNoPart_ap, ↓mPart_ap, ↓mSl_ap, ↓mSlF_ap, ↓mRev_ap, ↓mIsi_ap, ↓mIso_ap, ↓mTruth_ap, ↓mSeq_ap, ↓mB_ap, ↓mLRg1_ap, ↓mLRg2_ap, ↓mPop_ap, ↓mPopAt_ap, ↓mSetPop_ap, ↓mAppPop_ap, ↓mNever_ap, entry, Fl.kill, killD, frzD, isiT, isoT, put_nm, put_tp, putAll_nil, putAll_cons, optP_some, ownT, unB, unI, unL, negT, perm, ↓T.wq_bind, -List.map_map, -List.getD_eq_getElem?_getD]
  · obtain ⟨y, rfl⟩ := hd
    simp -implicitDefEqProofs [↓seq_w, ↓if_w, ↓kill_w, ↓run_w, ↓runF_w, kSeq_nx, kSeq_rt, kSeq_bk, kSeq_ct, kIf_t, kIf_f, kIf_d, kKill_nx, kKill_ct, kKill_rt, kKill_bk, kRun_rt, kRun_nx, kRunF_rt, ↓mRet_ap, ↓mRetF_ap, ↓mRetOwn_ap, ↓mRetN_ap, ↓mNext_ap, ↓mBreak_ap, ↓mCont_ap, ↓mDrop_ap, ↓mAsg_ap, ↓mNew_ap, ↓mPar_ap, ↓mPar3_ap, ↓mParFE_ap, ↓mParEF_ap, ↓mParFF_ap, ↓mApp_ap, ↓mExt_ap, ↓mItem_ap, ↓mAug_ap, ↓mFrz_ap, ↓mView_ap, ↓mVar_ap, ↓mVarS_ap, ↓mC_ap, ↓mOp_ap, ↓mOpF_ap, ↓mLst_ap, ↓mNil_ap, ↓mCons_ap, ↓mTup_ap, ↓mList_ap, ↓mCB_ap, ↓mCBF_ap, ↓mCall_ap, ↓mKey_ap, ↓mUnL_ap, ↓mTest_ap, ↓mNot_ap, ↓mAnd_ap, ↓mOr_ap, ↓mYes_ap, ↓mAndV_ap, ↓mOrV_ap, ↓mNotV_ap, ↓mIf_ap, ↓mIfF_ap, ↓mChain_ap, ↓mNeg_ap, ↓mNoPart_ap, ↓mPart_ap, ↓mSl_ap, ↓mSlF_ap, ↓mRev_ap, ↓mIsi_ap, ↓mIso_ap, ↓mTruth_ap, ↓mSeq_ap, ↓mB_ap, ↓mLRg1_ap, ↓mLRg2_ap, ↓mPop_ap, ↓mPopAt_ap, ↓mSetPop_ap, ↓mAppPop_ap, ↓mNever_ap, entry, Fl.kill, killD, frzD, isiT, isoT, put_nm, put_tp, putAll_nil, putAll_cons, optP_some, ownT, unB, unI, unL, negT, perm, ↓T.wq_bind, -List.map_map, -List.getD_eq_getElem?_getD, v1, v2, v3, v4, h]
theorem right_ok (a : Addr) (p : Addr → Prop) (hp : p a) : (m_right_ [.adr a]).wp p (isTrue1 [.adr a]) := T.wq_iff.mp (right_wp hp rfl)
end K16

namespace K16
open PySem PySem.Spec PyProof.Rows L2 Lk
structure C_is_integer (P : Program) (w : World) (K : PySem.W.Frag) (mg : Str → Option Value) (base : Heap) (cls : Cl) : Prop where
  none : True
theorem ok_is_integer {P : Program} {w : World} {K : PySem.W.Frag} {mg : Str → Option Value} {base : Heap} {cls : Cl} {f : Addr} {fd : FuncData} (F : Fun K "is_integer" "is_integer" s_is_integer f fd) (Z : Bt mg) (Gc : Gcs mg) (C : C_is_integer P w K mg base cls) (hK : cls.K = K) :
    GOk P w K mg base 1 f fd ["value"] (spT cls 1 m_is_integer) := by
  have sc := sc_is_integer
  refine gok_t (m := 0) F sc rfl rfl fun cdv A out s H E hg hr => ⟨_, (pss_one (ps_ret (pe_and (pe_callB (kIsi (K := K) (by rfl)) (by rfl) Z.isinstance (by decide +kernel) (pa_cons (pv 0) (pa_cons (pe_bltn (v := .ty "int") (by rfl) Z.int (by decide +kernel) rfl) pa_nil))) (pe_one (pe_not (pe_callB (kIsi (K := K) (by rfl)) (by rfl) Z.isinstance (by decide +kernel) (pa_cons (pv 0) (pa_cons (pe_bltn (v := .ty "bool") (by rfl) Z.bool (by decide +kernel) rfl) pa_nil)))))))), ?_⟩
  exact (jx_ret (j_andV (j_isi .int rfl (JE.s (j_var 0))) (j_notV (j_isi .bool rfl (JE.s (j_var 0))))))
end K16

namespace K16
open PySem PySem.Spec PyProof.Rows L2 Lk
structure C_is_list (P : Program) (w : World) (K : PySem.W.Frag) (mg : Str → Option Value) (base : Heap) (cls : Cl) : Prop where
  none : True
theorem ok_is_list {P : Program} {w : World} {K : PySem.W.Frag} {mg : Str → Option Value} {base : Heap} {cls : Cl} {f : Addr} {fd : FuncData} (F : Fun K "is_list" "is_list" s_is_list f fd) (Z : Bt mg) (Gc : Gcs mg) (C : C_is_list P w K mg base cls) (hK : cls.K = K) :
    GOk P w K mg base 1 f fd ["value"] (spT cls 1 m_is_list) := by
  have sc := sc_is_list
  refine gok_t (m := 0) F sc rfl rfl fun cdv A out s H E hg hr => ⟨_, (pss_one (ps_ret (pe_callB (kIsi (K := K) (by rfl)) (by rfl) Z.isinstance (by decide +kernel) (pa_cons (pv 0) (pa_cons (pe_tup (pa_cons (pe_bltn (v := .ty "list") (by rfl) Z.list (by decide +kernel) rfl) (pa_cons (pe_bltn (v := .ty "tuple") (by rfl) Z.tuple (by decide +kernel) rfl) pa_nil))) pa_nil))))), ?_⟩
  exact (jx_ret (j_isi2 .list .tuple rfl rfl (JE.s (j_var 0))))
end K16

namespace K16
open PySem PySem.Spec PyProof.Rows L2 Lk
structure C_taken (P : Program) (w : World) (K : PySem.W.Frag) (mg : Str → Option Value) (base : Heap) (cls : Cl) : Prop where
  none : True
theorem ok_taken {P : Program} {w : World} {K : PySem.W.Frag} {mg : Str → Option Value} {base : Heap} {cls : Cl} {f : Addr} {fd : FuncData} (F : Fun K "taken" "taken" s_taken f fd) (Z : Bt mg) (Gc : Gcs mg) (C : C_taken P w K mg base cls) (hK : cls.K = K) :
    GOk P w K mg base 1 f fd ["rows", "places"] (spT cls 2 m_taken) := by
  have sc := sc_taken
  refine gok_t (m := 2) F sc rfl rfl fun cdv A out s H E hg hr => ⟨_, (pss_one (ps_ret (pe_lc (own := [("row", 2)]) rfl sc.nd (pi_seq (K := K) (by rfl) (pv 0)) (blkOk_by (by kernel_rfl)) (fun _ _ _ _ _ => (pg_name (i := 2) sc.nd rfl (by first | exact Or.inl rfl | exact Or.inr rfl))) (fun _ _ _ _ _ => pts_nil) (fun _ _ _ _ _ => (pe_lc (own := [("place", 3)]) rfl sc.nd (pi_seq (K := K) (by rfl) (pv 1)) (blkOk_by (by kernel_rfl)) (fun _ _ _ _ _ => (pg_name (i := 3) sc.nd rfl (by first | exact Or.inl rfl | exact Or.inr rfl))) (fun _ _ _ _ _ => pts_nil) (fun _ _ _ _ _ => (pe_ix (kIx (K := K) (by rfl)) (pv 2) (pv 3) (fun _ _ => rfl)))))))), ?_⟩
  exact (jx_ret (JF.e (jf_lc (jis_seq (JE.s (j_var 0))) (jg_name 2) j_yes (JF.e (jf_lc (jis_seq (JE.s (j_var 1))) (jg_name 3) j_yes (j_op (rv_ix hK) (JE.s (j_var 2)) (JE.s (j_var 3))) (by decide))) (by decide))))
end K16

namespace K16
open PySem PySem.Spec PyProof.Rows L2 Lk
structure C_places_among (P : Program) (w : World) (K : PySem.W.Frag) (mg : Str → Option Value) (base : Heap) (cls : Cl) : Prop where
  none : True
theorem ok_places_among {P : Program} {w : World} {K : PySem.W.Frag} {mg : Str → Option Value} {base : Heap} {cls : Cl} {f : Addr} {fd : FuncData} (F : Fun K "places_among" "places_among" s_places_among f fd) (Z : Bt mg) (Gc : Gcs mg) (C : C_places_among P w K mg base cls) (hK : cls.K = K) :
    GOk P w K mg base 1 f fd ["columns", "many"] (spT cls 2 m_places_among) := by
  have sc := sc_places_among
  refine gok_t (m := 4) F sc rfl rfl fun cdv A out s H E hg hr => ⟨_, (pss_cons (ps_set (i := 2) sc.nd rfl (by first | exact Or.inl rfl | exact Or.inr rfl) (pe_lst (pa_cons (pe_tup pa_nil) pa_nil)))
      (pss_cons (ps_for PassesOwn.never rfl (pi_range1 (by rfl) Z.range (pa_cons (pv 1) pa_nil)) (pg_name (i := 3) sc.nd rfl (by first | exact Or.inl rfl | exact Or.inr rfl)) (pss_one (ps_setLc2 (i := 2) (own := [("places", 4), ("place", 5)]) (vs1 := [5]) rfl sc.nd rfl rfl (sw_true rfl rfl rfl (by decide +kernel)) (pi_seq (K := K) (by rfl) (pv 2)) (blkOk_by (by kernel_rfl)) (by decide) (fun _ _ _ _ _ => (pg_name (i := 4) sc.nd rfl (by first | exact Or.inl rfl | exact Or.inr rfl))) (fun _ _ _ _ _ => pts_nil) (fun _ _ _ _ _ => (pi_range1 (by rfl) Z.range (pa_cons (pv 0) pa_nil))) (fun _ _ _ _ _ => (pg_name (i := 5) sc.nd rfl (by first | exact Or.inl rfl | exact Or.inr rfl))) (fun _ _ _ _ _ => (pts_one (PW.pt (pw_or (pt_cmpR (opEqX (K := K) (by rfl) (room_u hr)) (pe_callB (kLen (K := K) (by rfl)) (by rfl) Z.len (by decide +kernel) (pa_cons (pv 4) pa_nil)) pe_int (nomark _)) (pw_or1 (pt_cmpR op_gt (pv 5) (pe_ix (kIx (K := K) (by rfl)) (pv 4) (pe_un un_neg pe_int) (fun _ _ => rfl)) (nomark _))))))) (fun _ _ _ _ _ => (pe_op (opAddX (K := K) (by rfl)) (pv 4) (pe_tup (pa_cons (pv 5) pa_nil)))))))
      (pss_one (ps_ret (pv 2))))), ?_⟩
  exact (jx_seq (jx_asg (JF.e (j_list (ja_cons (j_tup ja_nil) ja_nil))) (jg_name 2))
      (jx_seq (jx_kill (vs := [0, 1, 3]) (jx_for (ji_rng1 (ja_cons (j_var 1) ja_nil)) (jg_name 3) (jx_asg (JF.e (jf_lc2 (jis_seq (JE.s (j_var 2))) (jg_name 4) j_yes (jis_of (ji_rng1 (ja_cons (j_var 0) ja_nil))) (jg_name 5) (j_or (j_test (j_op rv_eq (JE.s (j_cb (rc_lenX hK) (jas_cons (JE.s (j_var 4)) jas_nil))) (JE.s j_int))) (j_test (j_op rv_cmp (JE.s (j_var 5)) (JE.s (j_op (rv_ix hK) (JE.s (j_var 4)) (JE.s (j_neg j_int))))))) (j_op rv_addX (JE.s (j_var 4)) (JE.s (j_tup (ja_cons (j_var 5) ja_nil)))) (by decide) (by decide) (by decide))) (jg_name 2))))
      (jx_ret (j_var 2))))
end K16

namespace K16
open PySem PySem.Spec PyProof.Rows L2 Lk
structure C_pot_ (P : Program) (w : World) (K : PySem.W.Frag) (mg : Str → Option Value) (base : Heap) (cls : Cl) : Prop where
  none : True
theorem ok_pot_ {P : Program} {w : World} {K : PySem.W.Frag} {mg : Str → Option Value} {base : Heap} {cls : Cl} {f : Addr} {fd : FuncData} (F : Fun K "_law_pot" "_law_pot" s_pot_ f fd) (Z : Bt mg) (Gc : Gcs mg) (C : C_pot_ P w K mg base cls) (hK : cls.K = K) :
    GOk P w K mg base 1 f fd ["_law_script", "_law_k"] (spPot cls) := by
  have sc := sc_pot_
  refine gok_of F sc (fun vs H Q E h => by obtain ⟨N, ns, k, _, a, _⟩ := h; rw [a.length]; rfl) fun cdv A out s H vs Q E hg hr hs => ⟨_, (pss_cons (ps_set (i := 2) sc.nd rfl (by first | exact Or.inl rfl | exact Or.inr rfl) (pe_ifExp (pt_cmpR op_lt (pv 1) (pe_callB (kLen (K := K) (by rfl)) (by rfl) Z.len (by decide +kernel) (pa_cons (pv 0) pa_nil)) (nomark _)) (pe_callB kAbs (by rfl) Z.abs (by decide +kernel) (pa_cons (pe_ix (kIx (K := K) (by rfl)) (pv 0) (pv 1) (fun _ _ => rfl)) pa_nil)) (pe_op opAdd (pe_op (opMul (K := K) (by rfl)) pe_int (pv 1)) pe_int)))
      (pss_one (ps_ret (pe_lst (pa_cons (pe_callB (kMax (by rfl)) (by rfl) Z.max (by decide +kernel) (pa_cons pe_int (pa_cons (pe_op op_sub (pv 2) (pe_op op_pow pe_int pe_int)) pa_nil))) (pa_cons (pe_op opAdd (pe_op op_mod (pe_callTy kInt (by rfl) Z.int (by decide +kernel) (pa_cons (pe_op opAdd (pe_op opAdd (pe_op (opMul (K := K) (by rfl)) (pe_op op_mod (pe_callTy kInt (by rfl) Z.int (by decide +kernel) (pa_cons (pv 2) pa_nil)) pe_int) pe_int) (pe_op (opMul (K := K) (by rfl)) pe_int (pv 1))) pe_int) pa_nil)) pe_int) pe_int) pa_nil)))))), ?_⟩
  obtain ⟨N, ns, k, W, a, h0, h1, q⟩ := hs
  have S := sta_entry (Nm := ["_law_script", "_law_k", "_law_cell"]) W a
  have l : vs.length = 2 := a.length
  rw [l] at S
  refine sv_set (P := fun d => ∃ c : Int, d = .int c) (rt := fun _ => False) (bk := noSt) (ct := noSt) (nx := fun ds' => ∃ c : Int, ds' = (entry 1 [.scr ns, .int k]).set 2 (some (Slot.dat (.int c)))) (Ev.mono (ev_if (B := fun b => b = decide (k < ns.length)) (PX := fun d => ∃ c : Int, d = .int c) (PY := fun d => ∃ c : Int, d = .int c)
    (ET.mono (et_test (ev_op (ev_var rfl) (ev_lenS (ev_var rfl) hK) (rv_B0 intP intP)) blP_S) ?_) (fun h => ?_) fun h => ?_) ?_) ?_ [] N H _ _ H S _ (fun ad' σ' H' ds' z S' => ?_) (fun _ _ _ z => z.elim) (fun _ _ _ _ z => z.elim) (fun _ _ _ _ z => z.elim)
  · rintro b ⟨i, j, e1, e2, e⟩
    cases e1; cases e2
    exact D.bl.inj e
  · obtain ⟨x, hx, _⟩ := atI_of (xs := ns) h0 (of_decide_eq_true h.symm)
    exact (ev_abs (ev_ixS (ev_var rfl) (ev_var rfl) hx hK)).mono fun d e => ⟨_, e⟩
  · exact (ev_addP (ev_mulI ev_int (ev_var rfl) (mulW64 (by decide) (by omega))) ev_int intP intP).mono fun d ⟨i, j, _, _, e⟩ => ⟨_, e⟩
  · rintro d (⟨_, h⟩ | ⟨_, h⟩) <;> exact h
  · rintro d ⟨c, rfl⟩
    exact ⟨c, rfl⟩
  · obtain ⟨c, rfl⟩ := z
    dsimp only
    refine pot_ret (Dn := { nx := fun _ H' => Q .non H', rt := Q }) ?_ ?_ S' q
    · refine (ev_max ev_int (ev_subI (ev_var rfl) (ev_powI ev_int ev_int ⟨by decide, by decide, by decide⟩))).mono ?_
      rintro d e
      refine ⟨_, ?_, e⟩
      split <;> omega
    · refine (ev_addP (ev_modP (ev_intP (ev_addP (ev_addP (ev_mulP (ev_modP (ev_intP (ev_var rfl) intP) intP ev_int (by decide)) ev_int intDraw intP ?_) (ev_mulI ev_int (ev_var rfl) (mulW64 (by decide) (by omega))) intP_S intP) ev_int intP_S intP) intP_S) intP_S ev_int (by decide)) ev_int intDraw intP).mono ?_
      · rintro i j ⟨x, hx, hy, e⟩ e2
        cases e; cases e2
        exact mulW64 (by omega) (by decide)
      · rintro d ⟨i, j, ⟨x, hx, hy, e⟩, e2, rfl⟩
        cases e; cases e2
        exact ⟨_, by dsimp only; omega, by dsimp only; omega, rfl⟩
end K16

namespace K16
open PySem PySem.Spec PyProof.Rows L2 Lk
structure C_draw_ (P : Program) (w : World) (K : PySem.W.Frag) (mg : Str → Option Value) (base : Heap) (cls : Cl) : Prop where
  none : True
theorem ok_draw_ {P : Program} {w : World} {K : PySem.W.Frag} {mg : Str → Option Value} {base : Heap} {cls : Cl} {f : Addr} {fd : FuncData} (F : Fun K "_law_draw" "_law_draw" s_draw_ f fd) (Z : Bt mg) (Gc : Gcs mg) (C : C_draw_ P w K mg base cls) (hK : cls.K = K) :
    GOk P w K mg base 1 f fd ["_law_pot_here", "_law_size"] (spG cls 2 preDraw isDraw) := by
  have sc := sc_draw_
  refine gok_ev (m := 1) F sc rfl rfl fun cdv A out s H E hg hr => ⟨_, (pss_cons (ps_if (pt_cmpR op_gt (pe_ix (kIx (K := K) (by rfl)) (pv 0) pe_int (fun _ _ => rfl)) pe_int (nomark _)) (pss_cons (ps_asg (pe_callB kDivmod (by rfl) Z.divmod (by decide +kernel) (pa_cons (pe_ix (kIx (K := K) (by rfl)) (pv 0) pe_int (fun _ _ => rfl)) (pa_cons (pv 1) pa_nil))) (pgTup (n := 2) (K := K) (by rfl) (by rfl) (pgs_cons (pg_sub (pv 0) pe_int set_list) (pgs_cons (pg_name (i := 2) sc.nd rfl (by first | exact Or.inl rfl | exact Or.inr rfl)) pgs_nil))))
      (pss_one (ps_ret (pv 2)))) pss_nil)
      (pss_cons (ps_asg (pe_op op_mod (pe_callTy kInt (by rfl) Z.int (by decide +kernel) (pa_cons (pe_op opAdd (pe_op (opMul (K := K) (by rfl)) (pe_ix (kIx (K := K) (by rfl)) (pv 0) pe_int (fun _ _ => rfl)) pe_int) pe_int) pa_nil)) pe_int) (pg_sub (pv 0) pe_int set_list))
      (pss_one (ps_ret (pe_op op_mod (pe_callTy kInt (by rfl) Z.int (by decide +kernel) (pa_cons (pe_op op_fdivW (pe_op op_mod (pe_callTy kInt (by rfl) Z.int (by decide +kernel) (pa_cons (pe_op (opMul (K := K) (by rfl)) (pe_ix (kIx (K := K) (by rfl)) (pv 0) pe_int (fun _ _ => rfl)) (pe_ix (kIx (K := K) (by rfl)) (pv 0) pe_int (fun _ _ => rfl))) pa_nil)) pe_int) pe_int) pa_nil)) (pv 1)))))), ?_⟩
  intro p xs hl hp
  obtain ⟨a, n, rfl, hp, h0, h1⟩ := hp
  have I0 : IntP (fun d => ∃ x : Int, 0 ≤ x ∧ d = .int x) := fun d ⟨x, _, e⟩ => ⟨x, e⟩
  refine sv_seq (nx' := (· = entry 1 [.adr a, .int n])) (sv_if (B := fun _ => True) (ET.mono (et_test (ev_op (ev_pot0 rfl hp) ev_int (rv_B0 I0 intP)) blP_S) fun _ _ => trivial) (fun _ => ?_) fun _ => sv_next rfl) ?_
  · refine sv_seq (nx' := fun ds' => ∃ r : Int, 0 ≤ r ∧ r < n ∧ ds' = (entry 1 [.adr a, .int n]).set 2 (some (Slot.dat (.int r)))) (sv_pot0 rfl hp (ev_cb (ea2 (ev_pot0 rfl hp) (ev_var rfl)) (rc_divmod ?_)) ?_) ?_
    · rintro _ ⟨_, _, ⟨x, hx, rfl⟩, rfl, rfl⟩
      exact ⟨x, n, rfl, h0, h1⟩
    · rintro d ⟨i, j, ⟨_, _, ⟨x, hx, rfl⟩, rfl, e⟩, rfl⟩
      cases (List.cons.inj e).1
      cases (List.cons.inj (List.cons.inj e).2).1
      exact ⟨_, _, rfl, Int.ediv_nonneg hx (by omega), _, Int.emod_nonneg _ (by omega), Int.emod_lt_of_pos _ h0, rfl⟩
    · rintro _ ⟨r, h2, h3, rfl⟩
      exact sv_ret (ev_var rfl) fun d e => ⟨a, n, r, rfl, h2, h3, e⟩
  rintro _ rfl
  have I1 : IntP (fun d => ∃ x : Int, 0 ≤ x ∧ x < 2147483648 ∧ d = .int x) := intDraw
  refine sv_seq (nx' := (· = entry 1 [.adr a, .int n])) (sv_pot1 rfl hp (ev_modP (ev_intP (ev_addP (ev_mulP (ev_pot1 rfl hp) ev_int I1 intP ?_) ev_int intP_S intP) intP_S) intP_S ev_int (by decide)) ?_ rfl) ?_
  · rintro i j ⟨x, hx, hy, e⟩ e2
    cases e; cases e2
    exact mulW64 (by omega) (by decide)
  · rintro d ⟨x, hx, hy, rfl⟩
    exact ⟨x, rfl, hx, by omega⟩
  rintro _ rfl
  refine sv_ret (ev_modP (ev_intP (ev_fdivP (ev_modP (ev_intP (ev_mulP (ev_pot1 rfl hp) (ev_pot1 rfl hp) I1 I1 ?_) intP_S) intP_S ev_int (by decide)) intDraw ev_int (by decide) (by decide)) intP_S) intP_S (ev_var rfl) h0) ?_
  · rintro i j ⟨x, hx, hy, e⟩ ⟨y, hx', hy', e2⟩
    cases e; cases e2
    exact mulW64 (by omega) (by omega)
  · rintro d ⟨x, hx, hy, rfl⟩
    exact ⟨a, n, x, rfl, hx, hy, rfl⟩
end K16

namespace K16
open PySem PySem.Spec PyProof.Rows L2 Lk
structure C_common_ (P : Program) (w : World) (K : PySem.W.Frag) (mg : Str → Option Value) (base : Heap) (cls : Cl) : Prop where
  none : True
theorem ok_common_ {P : Program} {w : World} {K : PySem.W.Frag} {mg : Str → Option Value} {base : Heap} {cls : Cl} {f : Addr} {fd : FuncData} (F : Fun K "_law_common" "_law_common" s_common_ f fd) (Z : Bt mg) (Gc : Gcs mg) (C : C_common_ P w K mg base cls) (hK : cls.K = K) :
    GOk P w K mg base 1 f fd ["_law_one", "_law_other"] (spT cls 2 m_common_) := by
  have sc := sc_common_
  refine gok_t (m := 0) F sc rfl rfl fun cdv A out s H E hg hr => ⟨_, (pss_cons (ps_par (i := 0) (j := 1) (by rfl) sc.nd rfl rfl (by decide) rfl rfl (pa_cons (pe_callB kAbs (by rfl) Z.abs (by decide +kernel) (pa_cons (pv 0) pa_nil)) (pa_cons (pe_callB kAbs (by rfl) Z.abs (by decide +kernel) (pa_cons (pv 1) pa_nil)) pa_nil)) (by rfl))
      (pss_cons (ps_while PassesOwn.never (pt_cmpR op_gt (pv 1) pe_int (nomark _)) (pss_one (ps_par (i := 0) (j := 1) (by rfl) sc.nd rfl rfl (by decide) rfl rfl (pa_cons (pv 1) (pa_cons (pe_op op_mod (pe_callTy kInt (by rfl) Z.int (by decide +kernel) (pa_cons (pv 0) pa_nil)) (pv 1)) pa_nil)) (by rfl))))
      (pss_one (ps_ret (pv 0))))), ?_⟩
  exact (jx_seq (jx_par (ja_cons (j_cb rc_absX (jas_cons (JE.s (j_var 0)) jas_nil)) (ja_cons (j_cb rc_absX (jas_cons (JE.s (j_var 1)) jas_nil)) ja_nil)))
      (jx_seq (jx_kill (vs := [1]) (jx_while (j_test (j_op rv_cmp (JE.s (j_var 1)) (JE.s j_int))) (jx_par (ja_cons (j_var 1) (ja_cons (j_op rv_mod (JE.s (j_cb rc_intX (jas_cons (JE.s (j_var 0)) jas_nil))) (JE.s (j_var 1))) ja_nil)))))
      (jx_ret (j_var 0))))
end K16

namespace K16
open PySem PySem.Spec PyProof.Rows L2 Lk
structure C_is_row (P : Program) (w : World) (K : PySem.W.Frag) (mg : Str → Option Value) (base : Heap) (cls : Cl) : Prop where
  is_integer : Cal P w K mg base "is_integer" 1 ["value"] [] (spT cls 1 m_is_integer)
  is_list : Cal P w K mg base "is_list" 1 ["value"] [] (spT cls 1 m_is_list)
theorem ok_is_row {P : Program} {w : World} {K : PySem.W.Frag} {mg : Str → Option Value} {base : Heap} {cls : Cl} {f : Addr} {fd : FuncData} (F : Fun K "is_row" "is_row" s_is_row f fd) (Z : Bt mg) (Gc : Gcs mg) (C : C_is_row P w K mg base cls) (hK : cls.K = K) :
    GOk P w K mg base 2 f fd ["value"] (spT cls 1 m_is_row) := by
  have sc := sc_is_row
  refine gok_t (m := 1) F sc rfl rfl fun cdv A out s H E hg hr => ⟨_, (pss_cons (ps_if (PW.pt (pw_or (pt_not (ptTruth (K := K) (by rfl) (pe_callC C.is_list hg (hr.mono (by decide)) (by rfl) (pa_cons (pv 0) pa_nil)) (by intro _; rfl))) (pw_or1 (pt_not (pt_chain op_le op_le pe_int (pe_callB (kLen (K := K) (by rfl)) (by rfl) Z.len (by decide +kernel) (pa_cons (pv 0) pa_nil)) (pe_glob (v := .int 6) (by rfl) Gc.MOST_COLUMNS.choose_spec ⟨_, rfl⟩)))))) (pss_one (ps_ret pe_bl)) pss_nil)
      (pss_one (ps_ret (pe_callB (kAll (K := K) (by rfl) (by rfl)) (by rfl) Z.all (by decide +kernel) (pa_cons (pe_lc (own := [("number", 1)]) rfl sc.nd (pi_seq (K := K) (by rfl) (pv 0)) (blkOk_by (by kernel_rfl)) (fun _ _ _ _ _ => (pg_name (i := 1) sc.nd rfl (by first | exact Or.inl rfl | exact Or.inr rfl))) (fun _ _ _ _ _ => pts_nil) (fun _ _ _ _ _ => (pe_callC C.is_integer hg (hr.mono (by decide)) (by rfl) (pa_cons (pv 1) pa_nil)))) pa_nil))))), ?_⟩
  exact (jx_seq (jx_if (j_or (j_not (jb_truth (JE.s (j_call (ja_cons (j_var 0) ja_nil))))) (j_not (j_test (j_chain rv_cmp rv_cmp (JE.s j_int) (JE.s (j_cb (rc_lenX hK) (jas_cons (JE.s (j_var 0)) jas_nil))) (JE.s j_int))))) (jx_ret j_bl) jx_next)
      (jx_ret (j_cb rc_allX (jas_cons (JE.s (JF.e (jf_lc (jis_seq (JE.s (j_var 0))) (jg_name 1) j_yes (j_call (ja_cons (j_var 1) ja_nil)) (by decide)))) jas_nil))))
end K16

namespace K16
open PySem PySem.Spec PyProof.Rows L2 Lk
structure C_pick_ (P : Program) (w : World) (K : PySem.W.Frag) (mg : Str → Option Value) (base : Heap) (cls : Cl) : Prop where
  draw_ : Cal P w K mg base "_law_draw" 1 ["_law_pot_here", "_law_size"] [] (spT cls 2 m_drawT)
theorem ok_pick_ {P : Program} {w : World} {K : PySem.W.Frag} {mg : Str → Option Value} {base : Heap} {cls : Cl} {f : Addr} {fd : FuncData} (F : Fun K "_law_pick" "_law_pick" s_pick_ f fd) (Z : Bt mg) (Gc : Gcs mg) (C : C_pick_ P w K mg base cls) (hK : cls.K = K) :
    GOk P w K mg base 2 f fd ["_law_pot_here", "_law_some"] (spT cls 2 m_pick_) := by
  have sc := sc_pick_
  refine gok_t (m := 0) F sc rfl rfl fun cdv A out s H E hg hr => ⟨_, (pss_one (ps_ret (pe_ix (kIx (K := K) (by rfl)) (pv 1) (pe_callC C.draw_ hg (hr.mono (by decide)) (by rfl) (pa_cons (pv 0) (pa_cons (pe_callB (kLen (K := K) (by rfl)) (by rfl) Z.len (by decide +kernel) (pa_cons (pv 1) pa_nil)) pa_nil))) (fun _ _ => rfl)))), ?_⟩
  exact (jx_ret (j_op (rv_ix hK) (JE.s (j_var 1)) (JE.s (j_call (ja_cons (j_var 0) (ja_cons (j_cb (rc_lenX hK) (jas_cons (JE.s (j_var 1)) jas_nil)) ja_nil))))))
end K16

namespace K16
open PySem PySem.Spec PyProof.Rows L2 Lk
structure C_passed_ (P : Program) (w : World) (K : PySem.W.Frag) (mg : Str → Option Value) (base : Heap) (cls : Cl) : Prop where
  draw_ : Cal P w K mg base "_law_draw" 1 ["_law_pot_here", "_law_size"] [] (spT cls 2 m_drawT)
theorem ok_passed_ {P : Program} {w : World} {K : PySem.W.Frag} {mg : Str → Option Value} {base : Heap} {cls : Cl} {f : Addr} {fd : FuncData} (F : Fun K "_law_passed" "_law_passed" s_passed_ f fd) (Z : Bt mg) (Gc : Gcs mg) (C : C_passed_ P w K mg base cls) (hK : cls.K = K) :
    GOk P w K mg base 2 f fd ["_law_pot_here", "_law_row"] (spT cls 2 m_passed_) := by
  have sc := sc_passed_
  refine gok_t (m := 0) F sc rfl rfl fun cdv A out s H E hg hr => ⟨_, (pss_one (ps_ret (pe_ifExp (pt_cmpR (opEqX (K := K) (by rfl) (room_u hr)) (pe_callC C.draw_ hg (hr.mono (by decide)) (by rfl) (pa_cons (pv 0) (pa_cons pe_int pa_nil))) pe_int (nomark _)) (pe_callTy (kList (K := K) (by rfl)) (by rfl) Z.list (by decide +kernel) (pa_cons (pv 1) pa_nil)) (pe_callTy (kTuple (K := K) (by rfl)) (by rfl) Z.tuple (by decide +kernel) (pa_cons (pv 1) pa_nil))))), ?_⟩
  exact (jx_ret (j_if (j_test (j_op rv_eq (JE.s (j_call (ja_cons (j_var 0) (ja_cons j_int ja_nil)))) (JE.s j_int))) (JF.e (j_cbF rc_listX (jas_cons (JE.s (j_var 1)) jas_nil))) (j_cb rc_tupleX (jas_cons (JE.s (j_var 1)) jas_nil))))
end K16

namespace K16
open PySem PySem.Spec PyProof.Rows L2 Lk
structure C_rows_ (P : Program) (w : World) (K : PySem.W.Frag) (mg : Str → Option Value) (base : Heap) (cls : Cl) : Prop where
  draw_ : Cal P w K mg base "_law_draw" 1 ["_law_pot_here", "_law_size"] [] (spT cls 2 m_drawT)
theorem ok_rows_ {P : Program} {w : World} {K : PySem.W.Frag} {mg : Str → Option Value} {base : Heap} {cls : Cl} {f : Addr} {fd : FuncData} (F : Fun K "_law_rows" "_law_rows" s_rows_ f fd) (Z : Bt mg) (Gc : Gcs mg) (C : C_rows_ P w K mg base cls) (hK : cls.K = K) :
    GOk P w K mg base 2 f fd ["_law_pot_here", "_law_many", "_law_wide"] (spT cls 3 m_rows_) := by
  have sc := sc_rows_
  refine gok_t (m := 7) F sc rfl rfl fun cdv A out s H E hg hr => ⟨_, (pss_cons (ps_setLc (i := 3) (own := [("_law_turn", 5)]) rfl sc.nd rfl rfl (sw_true rfl rfl rfl (by decide +kernel)) (pi_range1 (by rfl) Z.range (pa_cons (pv 1) pa_nil)) (blkOk_by (by kernel_rfl)) (fun _ _ _ _ _ => (pg_name (i := 5) sc.nd rfl (by first | exact Or.inl rfl | exact Or.inr rfl))) (fun _ _ _ _ _ => pts_nil) (fun _ _ _ _ _ => (pe_lc (own := [("_law_place", 6)]) rfl sc.nd (pi_range1 (by rfl) Z.range (pa_cons (pv 2) pa_nil)) (blkOk_by (by kernel_rfl)) (fun _ _ _ _ _ => (pg_name (i := 6) sc.nd rfl (by first | exact Or.inl rfl | exact Or.inr rfl))) (fun _ _ _ _ _ => pts_nil) (fun _ _ _ _ _ => (pe_op op_sub (pe_callC C.draw_ hg (hr.mono (by decide)) (by rfl) (pa_cons (pv 0) (pa_cons pe_int pa_nil))) pe_int)))))
      (pss_cons (ps_set (i := 4) sc.nd rfl (by first | exact Or.inl rfl | exact Or.inr rfl) (pe_callC C.draw_ hg (hr.mono (by decide)) (by rfl) (pa_cons (pv 0) (pa_cons pe_int pa_nil))))
      (pss_cons (ps_if (pt_cmpR (opEqX (K := K) (by rfl) (room_u hr)) (pv 4) pe_int (nomark _)) (pss_one (ps_asg (pe_lc (own := [("_law_number", 7)]) rfl sc.nd (pi_seq (K := K) (by rfl) (pe_ix (kIx (K := K) (by rfl)) (pv 3) pe_int (fun _ _ => rfl))) (blkOk_by (by kernel_rfl)) (fun _ _ _ _ _ => (pg_name (i := 7) sc.nd rfl (by first | exact Or.inl rfl | exact Or.inr rfl))) (fun _ _ _ _ _ => pts_nil) (fun _ _ _ _ _ => (pe_op (opMulX (K := K) (by rfl)) (pv 7) pe_int))) (pg_sub (pv 3) pe_int set_list))) (pss_one (ps_if (PW.pt (pw_and (pt_cmpR (opEqX (K := K) (by rfl) (room_u hr)) (pv 4) pe_int (nomark _)) (pw_and1 (pt_cmpR op_gt (pv 1) pe_int (nomark _))))) (pss_one (ps_asg (pe_lc (own := [("_law_one", 8), ("_law_two", 9)]) rfl sc.nd (piZip (K := K) (by rfl) (by rfl) Z.zip (pa_cons (pe_ix (kIx (K := K) (by rfl)) (pv 3) pe_int (fun _ _ => rfl)) (pa_cons (pe_ix (kIx (K := K) (by rfl)) (pv 3) pe_int (fun _ _ => rfl)) pa_nil))) (blkOk_by (by kernel_rfl)) (fun _ _ _ _ _ => (pgTup (n := 2) (K := K) (by rfl) (by rfl) (pgs_cons (pg_name (i := 8) sc.nd rfl (by first | exact Or.inl rfl | exact Or.inr rfl)) (pgs_cons (pg_name (i := 9) sc.nd rfl (by first | exact Or.inl rfl | exact Or.inr rfl)) pgs_nil)))) (fun _ _ _ _ _ => pts_nil) (fun _ _ _ _ _ => (pe_op (opAddX (K := K) (by rfl)) (pv 8) (pe_op (opMulX (K := K) (by rfl)) pe_int (pv 9))))) (pg_sub (pv 3) pe_int set_list))) (pss_one (ps_if (PW.pt (pw_and (pt_cmpR (opEqX (K := K) (by rfl) (room_u hr)) (pv 4) pe_int (nomark _)) (pw_and1 (pt_cmpR op_gt (pv 1) pe_int (nomark _))))) (pss_one (ps_asg (pe_lc (own := [("_law_number", 7)]) rfl sc.nd (pi_seq (K := K) (by rfl) (pe_ix (kIx (K := K) (by rfl)) (pv 3) pe_int (fun _ _ => rfl))) (blkOk_by (by kernel_rfl)) (fun _ _ _ _ _ => (pg_name (i := 7) sc.nd rfl (by first | exact Or.inl rfl | exact Or.inr rfl))) (fun _ _ _ _ _ => pts_nil) (fun _ _ _ _ _ => (pe_op (opMulX (K := K) (by rfl)) pe_int (pv 7)))) (pg_sub (pv 3) pe_int set_list))) (pss_one (ps_if (pt_cmpR (opEqX (K := K) (by rfl) (room_u hr)) (pv 4) pe_int (nomark _)) (pss_one (ps_asg (pe_lc (own := [("_law_number", 7)]) rfl sc.nd (pi_seq (K := K) (by rfl) (pe_ix (kIx (K := K) (by rfl)) (pv 3) (pe_un un_neg pe_int) (fun _ _ => rfl))) (blkOk_by (by kernel_rfl)) (fun _ _ _ _ _ => (pg_name (i := 7) sc.nd rfl (by first | exact Or.inl rfl | exact Or.inr rfl))) (fun _ _ _ _ _ => pts_nil) (fun _ _ _ _ _ => (pe_op (opMulX (K := K) (by rfl)) (pv 7) pe_int))) (pg_sub (pv 3) (pe_un un_neg pe_int) set_list))) pss_nil)))))))
      (pss_one (ps_ret (pv 3)))))), ?_⟩
  exact (jx_seq (jx_kill (vs := [2]) (jx_new (i := 3) (jf_lc (jis_of (ji_rng1 (ja_cons (j_var 1) ja_nil))) (jg_name 5) j_yes (JF.e (jf_lc (jis_of (ji_rng1 (ja_cons (j_var 2) ja_nil))) (jg_name 6) j_yes (j_op rv_sub (JE.s (j_call (ja_cons (j_var 0) (ja_cons j_int ja_nil)))) (JE.s j_int)) (by decide))) (by decide))))
      (jx_seq (jx_kill (vs := [0]) (jx_asg (j_call (ja_cons (j_var 0) (ja_cons j_int ja_nil))) (jg_name 4)))
      (jx_seq (jx_kill (vs := [1, 4]) (jx_if (j_test (j_op rv_eq (JE.s (j_var 4)) (JE.s j_int))) (jx_item (i := 3) (JF.e (jf_lc (jis_seq (JE.s (j_op (rv_ix hK) (j_varS 3) (JE.s j_int)))) (jg_name 7) j_yes (j_op rv_mul (JE.s (j_var 7)) (JE.s j_int)) (by decide))) j_int) (jx_kill (vs := [1, 4]) (jx_if (j_and (j_test (j_op rv_eq (JE.s (j_var 4)) (JE.s j_int))) (j_test (j_op rv_cmp (JE.s (j_var 1)) (JE.s j_int)))) (jx_item (i := 3) (JF.e (jf_lc (jis_zip (jas_cons (JE.s (j_op (rv_ix hK) (j_varS 3) (JE.s j_int))) (jas_cons (JE.s (j_op (rv_ix hK) (j_varS 3) (JE.s j_int))) jas_nil))) (jg_tup (n := 2) (jgs_cons (jg_name 8) (jgs_cons (jg_name 9) jgs_nil)) rfl) j_yes (j_op rv_addX (JE.s (j_var 8)) (JE.s (j_op rv_mul (JE.s j_int) (JE.s (j_var 9))))) (by decide))) j_int) (jx_kill (vs := [1, 4]) (jx_if (j_and (j_test (j_op rv_eq (JE.s (j_var 4)) (JE.s j_int))) (j_test (j_op rv_cmp (JE.s (j_var 1)) (JE.s j_int)))) (jx_item (i := 3) (JF.e (jf_lc (jis_seq (JE.s (j_op (rv_ix hK) (j_varS 3) (JE.s j_int)))) (jg_name 7) j_yes (j_op rv_mul (JE.s j_int) (JE.s (j_var 7))) (by decide))) j_int) (jx_kill (vs := [4]) (jx_if (j_test (j_op rv_eq (JE.s (j_var 4)) (JE.s j_int))) (jx_item (i := 3) (JF.e (jf_lc (jis_seq (JE.s (j_op (rv_ix hK) (j_varS 3) (JE.s (j_neg j_int))))) (jg_name 7) j_yes (j_op rv_mul (JE.s (j_var 7)) (JE.s j_int)) (by decide))) (j_neg j_int)) jx_next))))))))
      (jx_retOwnD 3))))
end K16

namespace K16
open PySem PySem.Spec PyProof.Rows L2 Lk
structure C_are_rows (P : Program) (w : World) (K : PySem.W.Frag) (mg : Str → Option Value) (base : Heap) (cls : Cl) : Prop where
  is_row : Cal P w K mg base "is_row" 2 ["value"] [] (spT cls 1 m_is_row)
  is_list : Cal P w K mg base "is_list" 1 ["value"] [] (spT cls 1 m_is_list)
theorem ok_are_rows {P : Program} {w : World} {K : PySem.W.Frag} {mg : Str → Option Value} {base : Heap} {cls : Cl} {f : Addr} {fd : FuncData} (F : Fun K "are_rows" "are_rows" s_are_rows f fd) (Z : Bt mg) (Gc : Gcs mg) (C : C_are_rows P w K mg base cls) (hK : cls.K = K) :
    GOk P w K mg base 3 f fd ["value"] (spT cls 1 m_are_rows) := by
  have sc := sc_are_rows
  refine gok_t (m := 1) F sc rfl rfl fun cdv A out s H E hg hr => ⟨_, (pss_cons (ps_if (PW.pt (pw_or (pt_not (ptTruth (K := K) (by rfl) (pe_callC C.is_list hg (hr.mono (by decide)) (by rfl) (pa_cons (pv 0) pa_nil)) (by intro _; rfl))) (pw_or1 (pt_not (pt_chain op_le op_le pe_int (pe_callB (kLen (K := K) (by rfl)) (by rfl) Z.len (by decide +kernel) (pa_cons (pv 0) pa_nil)) (pe_glob (v := .int 6) (by rfl) Gc.MOST_COLUMNS.choose_spec ⟨_, rfl⟩)))))) (pss_one (ps_ret pe_bl)) pss_nil)
      (pss_one (ps_ret (pe_and (pe_callB (kAll (K := K) (by rfl) (by rfl)) (by rfl) Z.all (by decide +kernel) (pa_cons (pe_lc (own := [("row", 1)]) rfl sc.nd (pi_seq (K := K) (by rfl) (pv 0)) (blkOk_by (by kernel_rfl)) (fun _ _ _ _ _ => (pg_name (i := 1) sc.nd rfl (by first | exact Or.inl rfl | exact Or.inr rfl))) (fun _ _ _ _ _ => pts_nil) (fun _ _ _ _ _ => (pe_callC C.is_row hg (hr.mono (by decide)) (by rfl) (pa_cons (pv 1) pa_nil)))) pa_nil)) (pe_one (pe_callB (kAll (K := K) (by rfl) (by rfl)) (by rfl) Z.all (by decide +kernel) (pa_cons (pe_lc (own := [("row", 1)]) rfl sc.nd (pi_seq (K := K) (by rfl) (pv 0)) (blkOk_by (by kernel_rfl)) (fun _ _ _ _ _ => (pg_name (i := 1) sc.nd rfl (by first | exact Or.inl rfl | exact Or.inr rfl))) (fun _ _ _ _ _ => pts_nil) (fun _ _ _ _ _ => (pe_cmpR (opEqX (K := K) (by rfl) (room_u hr)) (pe_callB (kLen (K := K) (by rfl)) (by rfl) Z.len (by decide +kernel) (pa_cons (pv 1) pa_nil)) (pe_callB (kLen (K := K) (by rfl)) (by rfl) Z.len (by decide +kernel) (pa_cons (pe_ix (kIx (K := K) (by rfl)) (pv 0) pe_int (fun _ _ => rfl)) pa_nil)) (nomark _)))) pa_nil))))))), ?_⟩
  exact (jx_seq (jx_if (j_or (j_not (jb_truth (JE.s (j_call (ja_cons (j_var 0) ja_nil))))) (j_not (j_test (j_chain rv_cmp rv_cmp (JE.s j_int) (JE.s (j_cb (rc_lenX hK) (jas_cons (JE.s (j_var 0)) jas_nil))) (JE.s j_int))))) (jx_ret j_bl) jx_next)
      (jx_ret (j_andV (j_cb rc_allX (jas_cons (JE.s (JF.e (jf_lc (jis_seq (JE.s (j_var 0))) (jg_name 1) j_yes (j_call (ja_cons (j_var 1) ja_nil)) (by decide)))) jas_nil)) (j_cb rc_allX (jas_cons (JE.s (JF.e (jf_lc (jis_seq (JE.s (j_var 0))) (jg_name 1) j_yes (j_op rv_eq (JE.s (j_cb (rc_lenX hK) (jas_cons (JE.s (j_var 1)) jas_nil))) (JE.s (j_cb (rc_lenX hK) (jas_cons (JE.s (j_op (rv_ix hK) (JE.s (j_var 0)) (JE.s j_int))) jas_nil)))) (by decide)))) jas_nil)))))
end K16

namespace K16
open PySem PySem.Spec PyProof.Rows L2 Lk
structure C_determinant (P : Program) (w : World) (K : PySem.W.Frag) (mg : Str → Option Value) (base : Heap) (cls : Cl) (n : Nat) : Prop where
  self : Cal P w K mg base "determinant" (0 + n) ["rows"] [] (spT cls 1 (m_determinant n))
theorem ok_determinant {P : Program} {w : World} {K : PySem.W.Frag} {mg : Str → Option Value} {base : Heap} {cls : Cl} {n : Nat} {f : Addr} {fd : FuncData} (F : Fun K "determinant" "determinant" s_determinant f fd) (Z : Bt mg) (Gc : Gcs mg) (C : C_determinant P w K mg base cls n) (hK : cls.K = K) :
    GOk P w K mg base (0 + n + 1) f fd ["rows"] (spT cls 1 (m_determinant (n + 1))) := by
  have sc := sc_determinant
  refine gok_t (m := 5) F sc rfl rfl fun cdv A out s H E hg hr => ⟨_, (pss_cons (ps_if (pt_not (ptTruth (K := K) (by rfl) (pv 0) (by intro _; rfl))) (pss_one (ps_ret pe_int)) pss_nil)
      (pss_cons (ps_set (i := 1) sc.nd rfl (by first | exact Or.inl rfl | exact Or.inr rfl) pe_int)
      (pss_cons (ps_set (i := 2) sc.nd rfl (by first | exact Or.inl rfl | exact Or.inr rfl) pe_int)
      (pss_cons (ps_for PassesOwn.never rfl (pi_enumS (K := K) (by rfl) (by rfl) Z.enumerate (pa_cons (pe_ix (kIx (K := K) (by rfl)) (pv 0) pe_int (fun _ _ => rfl)) pa_nil)) (pgTup (n := 2) (K := K) (by rfl) (by rfl) (pgs_cons (pg_name (i := 3) sc.nd rfl (by first | exact Or.inl rfl | exact Or.inr rfl)) (pgs_cons (pg_name (i := 4) sc.nd rfl (by first | exact Or.inl rfl | exact Or.inr rfl)) pgs_nil))) (pss_cons (ps_if (pt_cmpR (opNeX (K := K) (by rfl) (room_u hr)) (pv 4) pe_int (nomark _)) (pss_one (ps_aug (i := 1) sc.nd rfl (by first | exact Or.inl rfl | exact Or.inr rfl) (pe_op (opMulX (K := K) (by rfl)) (pe_op (opMulX (K := K) (by rfl)) (pv 2) (pv 4)) (pe_callC C.self hg (hr.mono (by omega)) (by rfl) (pa_cons (pe_lc (own := [("row", 5)]) rfl sc.nd (pi_seq (K := K) (by rfl) (pe_slice (kSl2 (K := K) (by rfl)) (pv 0) (po_some pe_int) po_none)) (blkOk_by (by kernel_rfl)) (fun _ _ _ _ _ => (pg_name (i := 5) sc.nd rfl (by first | exact Or.inl rfl | exact Or.inr rfl))) (fun _ _ _ _ _ => pts_nil) (fun _ _ _ _ _ => (pe_op (opAddX (K := K) (by rfl)) (pe_slice (kSl2 (K := K) (by rfl)) (pv 5) po_none (po_some (pv 3))) (pe_slice (kSl2 (K := K) (by rfl)) (pv 5) (po_some (pe_op (opAddX (K := K) (by rfl)) (pv 3) pe_int)) po_none)))) pa_nil))) ip_add)) pss_nil)
      (pss_one (ps_set (i := 2) sc.nd rfl (by first | exact Or.inl rfl | exact Or.inr rfl) (pe_un un_neg (pv 2))))))
      (pss_one (ps_ret (pv 1))))))), ?_⟩
  exact (jx_seq (jx_if (j_not (jb_truth (JE.s (j_var 0)))) (jx_ret j_int) jx_next)
      (jx_seq (jx_asg j_int (jg_name 1))
      (jx_seq (jx_asg j_int (jg_name 2))
      (jx_seq (jx_kill (vs := [0, 2, 3, 4]) (jx_for (ji_enum (ja_cons (j_op (rv_ix hK) (JE.s (j_var 0)) (JE.s j_int)) ja_nil)) (jg_tup (n := 2) (jgs_cons (jg_name 3) (jgs_cons (jg_name 4) jgs_nil)) rfl) (jx_seq (jx_kill (vs := [3, 4]) (jx_if (j_test (j_op rv_ne (JE.s (j_var 4)) (JE.s j_int))) (jx_kill (vs := [3, 4]) (jx_aug (j_op rv_mul (JE.s (j_op rv_mul (JE.s (j_var 2)) (JE.s (j_var 4)))) (JE.s (j_call (ja_cons (JF.e (jf_lc (jis_seq (JE.s (j_sl (JE.s (j_var 0)) (jo_some j_int) jo_none))) (jg_name 5) j_yes (j_op rv_addX (JE.s (j_sl (JE.s (j_var 5)) jo_none (jo_some (j_var 3)))) (JE.s (j_sl (JE.s (j_var 5)) (jo_some (j_op rv_addX (JE.s (j_var 3)) (JE.s j_int))) jo_none))) (by decide))) ja_nil)))))) jx_next))
      (jx_asg (j_neg (j_var 2)) (jg_name 2)))))
      (jx_ret (j_var 1))))))
end K16

namespace K16
open PySem PySem.Spec PyProof.Rows L2 Lk
structure C_minor_ (P : Program) (w : World) (K : PySem.W.Frag) (mg : Str → Option Value) (base : Heap) (cls : Cl) (n : Nat) : Prop where
  self : Cal P w K mg base "_law_minor" (0 + n) ["_law_rows_here", "_law_places"] [] (spT cls 2 (m_minor_ n))
theorem ok_minor_ {P : Program} {w : World} {K : PySem.W.Frag} {mg : Str → Option Value} {base : Heap} {cls : Cl} {n : Nat} {f : Addr} {fd : FuncData} (F : Fun K "_law_minor" "_law_minor" s_minor_ f fd) (Z : Bt mg) (Gc : Gcs mg) (C : C_minor_ P w K mg base cls n) (hK : cls.K = K) :
    GOk P w K mg base (0 + n + 1) f fd ["_law_rows_here", "_law_places"] (spT cls 2 (m_minor_ (n + 1))) := by
  have sc := sc_minor_
  refine gok_t (m := 3) F sc rfl rfl fun cdv A out s H E hg hr => ⟨_, (pss_cons (ps_if (pt_cmpR (opEqX (K := K) (by rfl) (room_u hr)) (pv 0) (pe_lst pa_nil) (nomark _)) (pss_one (ps_ret pe_int)) pss_nil)
      (pss_cons (ps_asg (pe_tup (pa_cons pe_int (pa_cons pe_int pa_nil))) (pgTup (n := 2) (K := K) (by rfl) (by rfl) (pgs_cons (pg_name (i := 2) sc.nd rfl (by first | exact Or.inl rfl | exact Or.inr rfl)) (pgs_cons (pg_name (i := 3) sc.nd rfl (by first | exact Or.inl rfl | exact Or.inr rfl)) pgs_nil))))
      (pss_cons (ps_for PassesOwn.never rfl (pi_range1 (by rfl) Z.range (pa_cons (pe_callB (kLen (K := K) (by rfl)) (by rfl) Z.len (by decide +kernel) (pa_cons (pv 1) pa_nil)) pa_nil)) (pg_name (i := 4) sc.nd rfl (by first | exact Or.inl rfl | exact Or.inr rfl)) (pss_cons (ps_if (pt_cmpR (opNeX (K := K) (by rfl) (room_u hr)) (pe_ix (kIx (K := K) (by rfl)) (pe_ix (kIx (K := K) (by rfl)) (pv 0) pe_int (fun _ _ => rfl)) (pe_ix (kIx (K := K) (by rfl)) (pv 1) (pv 4) (fun _ _ => rfl)) (fun _ _ => rfl)) pe_int (nomark _)) (pss_one (ps_set (i := 2) sc.nd rfl (by first | exact Or.inl rfl | exact Or.inr rfl) (pe_op (opAddX (K := K) (by rfl)) (pv 2) (pe_op (opMulX (K := K) (by rfl)) (pe_op (opMulX (K := K) (by rfl)) (pv 3) (pe_ix (kIx (K := K) (by rfl)) (pe_ix (kIx (K := K) (by rfl)) (pv 0) pe_int (fun _ _ => rfl)) (pe_ix (kIx (K := K) (by rfl)) (pv 1) (pv 4) (fun _ _ => rfl)) (fun _ _ => rfl))) (pe_callC C.self hg (hr.mono (by omega)) (by rfl) (pa_cons (pe_slice (kSl2 (K := K) (by rfl)) (pv 0) (po_some pe_int) po_none) (pa_cons (pe_op (opAddX (K := K) (by rfl)) (pe_slice (kSl2 (K := K) (by rfl)) (pv 1) po_none (po_some (pv 4))) (pe_slice (kSl2 (K := K) (by rfl)) (pv 1) (po_some (pe_op (opAddX (K := K) (by rfl)) (pv 4) pe_int)) po_none)) pa_nil))))))) pss_nil)
      (pss_one (ps_set (i := 3) sc.nd rfl (by first | exact Or.inl rfl | exact Or.inr rfl) (pe_op op_sub pe_int (pv 3))))))
      (pss_one (ps_ret (pv 2)))))), ?_⟩
  exact (jx_seq (jx_if (j_test (j_op rv_eq (JE.s (j_var 0)) (JE.s (JF.e (j_list ja_nil))))) (jx_ret j_int) jx_next)
      (jx_seq (jx_asg (j_tup (ja_cons j_int (ja_cons j_int ja_nil))) (jg_tup (n := 2) (jgs_cons (jg_name 2) (jgs_cons (jg_name 3) jgs_nil)) rfl))
      (jx_seq (jx_kill (vs := [0, 1, 3, 4]) (jx_for (ji_rng1 (ja_cons (j_cb (rc_lenX hK) (jas_cons (JE.s (j_var 1)) jas_nil)) ja_nil)) (jg_name 4) (jx_seq (jx_kill (vs := [4]) (jx_if (j_test (j_op rv_ne (JE.s (j_op (rv_ix hK) (JE.s (j_op (rv_ix hK) (JE.s (j_var 0)) (JE.s j_int))) (JE.s (j_op (rv_ix hK) (JE.s (j_var 1)) (JE.s (j_var 4)))))) (JE.s j_int))) (jx_kill (vs := [4]) (jx_asg (j_op rv_addX (JE.s (j_var 2)) (JE.s (j_op rv_mul (JE.s (j_op rv_mul (JE.s (j_var 3)) (JE.s (j_op (rv_ix hK) (JE.s (j_op (rv_ix hK) (JE.s (j_var 0)) (JE.s j_int))) (JE.s (j_op (rv_ix hK) (JE.s (j_var 1)) (JE.s (j_var 4)))))))) (JE.s (j_call (ja_cons (j_sl (JE.s (j_var 0)) (jo_some j_int) jo_none) (ja_cons (j_op rv_addX (JE.s (j_sl (JE.s (j_var 1)) jo_none (jo_some (j_var 4)))) (JE.s (j_sl (JE.s (j_var 1)) (jo_some (j_op rv_addX (JE.s (j_var 4)) (JE.s j_int))) jo_none))) ja_nil))))))) (jg_name 2))) jx_next))
      (jx_asg (j_op rv_sub (JE.s j_int) (JE.s (j_var 3))) (jg_name 3)))))
      (jx_ret (j_var 2)))))
end K16

namespace K16
open PySem PySem.Spec PyProof.Rows L2 Lk
structure C_choices_ (P : Program) (w : World) (K : PySem.W.Frag) (mg : Str → Option Value) (base : Heap) (cls : Cl) (n : Nat) : Prop where
  self : Cal P w K mg base "_law_choices" (0 + n) ["_law_some", "_law_many"] [] (spT cls 2 (m_choices_ n))
theorem ok_choices_ {P : Program} {w : World} {K : PySem.W.Frag} {mg : Str → Option Value} {base : Heap} {cls : Cl} {n : Nat} {f : Addr} {fd : FuncData} (F : Fun K "_law_choices" "_law_choices" s_choices_ f fd) (Z : Bt mg) (Gc : Gcs mg) (C : C_choices_ P w K mg base cls n) (hK : cls.K = K) :
    GOk P w K mg base (0 + n + 1) f fd ["_law_some", "_law_many"] (spT cls 2 (m_choices_ (n + 1))) := by
  have sc := sc_choices_
  refine gok_t (m := 3) F sc rfl rfl fun cdv A out s H E hg hr => ⟨_, (pss_cons (ps_if (pt_cmpR (opEqX (K := K) (by rfl) (room_u hr)) (pv 1) pe_int (nomark _)) (pss_one (ps_ret (pe_lst (pa_cons (pe_lst pa_nil) pa_nil)))) pss_nil)
      (pss_cons (ps_set (i := 2) sc.nd rfl (by first | exact Or.inl rfl | exact Or.inr rfl) (pe_lst pa_nil))
      (pss_cons (ps_for PassesOwn.never rfl (pi_range1 (by rfl) Z.range (pa_cons (pe_op (opAddX (K := K) (by rfl)) (pe_op op_sub (pe_callB (kLen (K := K) (by rfl)) (by rfl) Z.len (by decide +kernel) (pa_cons (pv 0) pa_nil)) (pv 1)) pe_int) pa_nil)) (pg_name (i := 3) sc.nd rfl (by first | exact Or.inl rfl | exact Or.inr rfl)) (pss_one (ps_expr (pe_bm PySem.F.plainAttrs_list PySem.F.slot_list_extend PySem.F.type_list_extend mt_extend (pv 2) (pa_cons (pe_lc (own := [("_law_rest", 4)]) rfl sc.nd (pi_seq (K := K) (by rfl) (pe_callC C.self hg (hr.mono (by omega)) (by rfl) (pa_cons (pe_slice (kSl2 (K := K) (by rfl)) (pv 0) (po_some (pe_op (opAddX (K := K) (by rfl)) (pv 3) pe_int)) po_none) (pa_cons (pe_op op_sub (pv 1) pe_int) pa_nil)))) (blkOk_by (by kernel_rfl)) (fun _ _ _ _ _ => (pg_name (i := 4) sc.nd rfl (by first | exact Or.inl rfl | exact Or.inr rfl))) (fun _ _ _ _ _ => pts_nil) (fun _ _ _ _ _ => (pe_op (opAddX (K := K) (by rfl)) (pe_lst (pa_cons (pe_ix (kIx (K := K) (by rfl)) (pv 0) (pv 3) (fun _ _ => rfl)) pa_nil)) (pv 4)))) pa_nil)))))
      (pss_one (ps_ret (pv 2)))))), ?_⟩
  exact (jx_seq (jx_if (j_test (j_op rv_eq (JE.s (j_var 1)) (JE.s j_int))) (jx_ret (JF.e (j_list (ja_cons (JF.e (j_list ja_nil)) ja_nil)))) jx_next)
      (jx_seq (jx_new (i := 2) (j_list ja_nil))
      (jx_seq (jx_kill (vs := [0, 1, 3]) (jx_for (ji_rng1 (ja_cons (j_op rv_addX (JE.s (j_op rv_sub (JE.s (j_cb (rc_lenX hK) (jas_cons (JE.s (j_var 0)) jas_nil))) (JE.s (j_var 1)))) (JE.s j_int)) ja_nil)) (jg_name 3) (jx_kill (vs := [3]) (jx_ext (i := 2) (JF.e (jf_lc (jis_seq (JE.s (j_call (ja_cons (j_sl (JE.s (j_var 0)) (jo_some (j_op rv_addX (JE.s (j_var 3)) (JE.s j_int))) jo_none) (ja_cons (j_op rv_sub (JE.s (j_var 1)) (JE.s j_int)) ja_nil))))) (jg_name 4) j_yes (j_op rv_addX (JE.s (JF.e (j_list (ja_cons (j_op (rv_ix hK) (JE.s (j_var 0)) (JE.s (j_var 3))) ja_nil)))) (JE.s (j_var 4))) (by decide)))))))
      (jx_retOwnD 2))))
end K16

namespace K16
open PySem PySem.Spec PyProof.Rows L2 Lk
structure C_divisor_of (P : Program) (w : World) (K : PySem.W.Frag) (mg : Str → Option Value) (base : Heap) (cls : Cl) : Prop where
  places_among : Cal P w K mg base "places_among" 1 ["columns", "many"] [] (spT cls 2 m_places_among)
  determinant : Cal P w K mg base "determinant" 40 ["rows"] [] (spT cls 1 (m_determinant 40))
  taken : Cal P w K mg base "taken" 1 ["rows", "places"] [] (spT cls 2 m_taken)
theorem ok_divisor_of {P : Program} {w : World} {K : PySem.W.Frag} {mg : Str → Option Value} {base : Heap} {cls : Cl} {f : Addr} {fd : FuncData} (F : Fun K "divisor_of" "divisor_of" s_divisor_of f fd) (Z : Bt mg) (Gc : Gcs mg) (C : C_divisor_of P w K mg base cls) (hK : cls.K = K) :
    GOk P w K mg base 41 f fd ["rows"] (spT cls 1 m_divisor_of) := by
  have sc := sc_divisor_of
  refine gok_t (m := 2) F sc rfl rfl fun cdv A out s H E hg hr => ⟨_, (pss_cons (ps_set (i := 1) sc.nd rfl (by first | exact Or.inl rfl | exact Or.inr rfl) pe_int)
      (pss_cons (ps_for PassesOwn.never rfl (pi_seq (K := K) (by rfl) (pe_callC C.places_among hg (hr.mono (by decide)) (by rfl) (pa_cons (pe_callB (kLen (K := K) (by rfl)) (by rfl) Z.len (by decide +kernel) (pa_cons (pe_ix (kIx (K := K) (by rfl)) (pv 0) pe_int (fun _ _ => rfl)) pa_nil)) (pa_cons (pe_callB (kLen (K := K) (by rfl)) (by rfl) Z.len (by decide +kernel) (pa_cons (pv 0) pa_nil)) pa_nil)))) (pg_name (i := 2) sc.nd rfl (by first | exact Or.inl rfl | exact Or.inr rfl)) (pss_one (ps_set (i := 1) sc.nd rfl (by first | exact Or.inl rfl | exact Or.inr rfl) (pe_callBfun cr_gcd (by rfl) Gc.i_gcd (pa_cons (pv 1) (pa_cons (pe_callC C.determinant hg (hr.mono (by decide)) (by rfl) (pa_cons (pe_callC C.taken hg (hr.mono (by decide)) (by rfl) (pa_cons (pv 0) (pa_cons (pv 2) pa_nil))) pa_nil)) pa_nil))))))
      (pss_one (ps_ret (pv 1))))), ?_⟩
  exact (jx_seq (jx_asg j_int (jg_name 1))
      (jx_seq (jx_kill (vs := [0, 2]) (jx_for (ji_seq (j_call (ja_cons (j_cb (rc_lenX hK) (jas_cons (JE.s (j_op (rv_ix hK) (JE.s (j_var 0)) (JE.s j_int))) jas_nil)) (ja_cons (j_cb (rc_lenX hK) (jas_cons (JE.s (j_var 0)) jas_nil)) ja_nil)))) (jg_name 2) (jx_kill (vs := [2]) (jx_asg (j_cb rc_gcdX (jas_cons (JE.s (j_var 1)) (jas_cons (JE.s (j_call (ja_cons (j_call (ja_cons (j_var 0) (ja_cons (j_var 2) ja_nil))) ja_nil))) jas_nil))) (jg_name 1)))))
      (jx_ret (j_var 1))))
end K16

namespace K16
open PySem PySem.Spec PyProof.Rows L2 Lk
structure C_divisor_ (P : Program) (w : World) (K : PySem.W.Frag) (mg : Str → Option Value) (base : Heap) (cls : Cl) : Prop where
  choices_ : Cal P w K mg base "_law_choices" 40 ["_law_some", "_law_many"] [] (spT cls 2 (m_choices_ 40))
  common_ : Cal P w K mg base "_law_common" 1 ["_law_one", "_law_other"] [] (spT cls 2 m_common_)
  minor_ : Cal P w K mg base "_law_minor" 40 ["_law_rows_here", "_law_places"] [] (spT cls 2 (m_minor_ 40))
theorem ok_divisor_ {P : Program} {w : World} {K : PySem.W.Frag} {mg : Str → Option Value} {base : Heap} {cls : Cl} {f : Addr} {fd : FuncData} (F : Fun K "_law_divisor" "_law_divisor" s_divisor_ f fd) (Z : Bt mg) (Gc : Gcs mg) (C : C_divisor_ P w K mg base cls) (hK : cls.K = K) :
    GOk P w K mg base 41 f fd ["_law_rows_here"] (spT cls 1 m_divisor_) := by
  have sc := sc_divisor_
  refine gok_t (m := 2) F sc rfl rfl fun cdv A out s H E hg hr => ⟨_, (pss_cons (ps_set (i := 1) sc.nd rfl (by first | exact Or.inl rfl | exact Or.inr rfl) pe_int)
      (pss_cons (ps_for PassesOwn.never rfl (pi_seq (K := K) (by rfl) (pe_callC C.choices_ hg (hr.mono (by decide)) (by rfl) (pa_cons (pe_listRg (by rfl) (by rfl) Z.list (prg_1 (by rfl) Z.range (pe_callB (kLen (K := K) (by rfl)) (by rfl) Z.len (by decide +kernel) (pa_cons (pe_ix (kIx (K := K) (by rfl)) (pv 0) pe_int (fun _ _ => rfl)) pa_nil)))) (pa_cons (pe_callB (kLen (K := K) (by rfl)) (by rfl) Z.len (by decide +kernel) (pa_cons (pv 0) pa_nil)) pa_nil)))) (pg_name (i := 2) sc.nd rfl (by first | exact Or.inl rfl | exact Or.inr rfl)) (pss_one (ps_set (i := 1) sc.nd rfl (by first | exact Or.inl rfl | exact Or.inr rfl) (pe_callC C.common_ hg (hr.mono (by decide)) (by rfl) (pa_cons (pv 1) (pa_cons (pe_callC C.minor_ hg (hr.mono (by decide)) (by rfl) (pa_cons (pv 0) (pa_cons (pv 2) pa_nil))) pa_nil))))))
      (pss_one (ps_ret (pv 1))))), ?_⟩
  exact (jx_seq (jx_asg j_int (jg_name 1))
      (jx_seq (jx_kill (vs := [0, 2]) (jx_for (ji_seq (j_call (ja_cons (JF.e (jf_lrg1 (j_cb (rc_lenX hK) (jas_cons (JE.s (j_op (rv_ix hK) (JE.s (j_var 0)) (JE.s j_int))) jas_nil)))) (ja_cons (j_cb (rc_lenX hK) (jas_cons (JE.s (j_var 0)) jas_nil)) ja_nil)))) (jg_name 2) (jx_kill (vs := [2]) (jx_asg (j_call (ja_cons (j_var 1) (ja_cons (j_call (ja_cons (j_var 0) (ja_cons (j_var 2) ja_nil))) ja_nil))) (jg_name 1)))))
      (jx_ret (j_var 1))))
end K16

namespace K16
open PySem PySem.Spec PyProof.Rows L2 Lk
structure C_divisor (P : Program) (w : World) (K : PySem.W.Frag) (mg : Str → Option Value) (base : Heap) (cls : Cl) : Prop where
  divisor_of : Cal P w K mg base "divisor_of" 41 ["rows"] [] (spT cls 1 m_divisor_of)
  are_rows : Cal P w K mg base "are_rows" 3 ["value"] [] (spT cls 1 m_are_rows)
theorem ok_divisor {P : Program} {w : World} {K : PySem.W.Frag} {mg : Str → Option Value} {base : Heap} {cls : Cl} {f : Addr} {fd : FuncData} (F : Fun K "divisor" "divisor" s_divisor f fd) (Z : Bt mg) (Gc : Gcs mg) (C : C_divisor P w K mg base cls) (hK : cls.K = K) :
    GOk P w K mg base 42 f fd ["rows"] (spT cls 1 m_divisor) := by
  have sc := sc_divisor
  refine gok_t (m := 0) F sc rfl rfl fun cdv A out s H E hg hr => ⟨_, (pss_cons (ps_if (pt_not (ptTruth (K := K) (by rfl) (pe_callC C.are_rows hg (hr.mono (by decide)) (by rfl) (pa_cons (pv 0) pa_nil)) (by intro _; rfl))) (pss_one ps_never) pss_nil)
      (pss_one (ps_ret (pe_callC C.divisor_of hg (hr.mono (by decide)) (by rfl) (pa_cons (pv 0) pa_nil))))), ?_⟩
  exact (jx_seq (jx_if (j_not (jb_truth (JE.s (j_call (ja_cons (j_var 0) ja_nil))))) jx_never jx_next)
      (jx_ret (j_call (ja_cons (j_var 0) ja_nil))))
end K16

namespace K16
open PySem PySem.Spec PyProof.Rows L2 Lk
structure C_one_right_ (P : Program) (w : World) (K : PySem.W.Frag) (mg : Str → Option Value) (base : Heap) (cls : Cl) : Prop where
  divisor : Cal P w K mg base "divisor" 42 ["rows"] [(["rows"], [0])] (spT cls 1 m_divisor)
  pick_ : Cal P w K mg base "_law_pick" 2 ["_law_pot_here", "_law_some"] [] (spT cls 2 m_pick_)
  draw_ : Cal P w K mg base "_law_draw" 1 ["_law_pot_here", "_law_size"] [] (spT cls 2 m_drawT)
  divisor_ : Cal P w K mg base "_law_divisor" 41 ["_law_rows_here"] [] (spT cls 1 m_divisor_)
  passed_ : Cal P w K mg base "_law_passed" 2 ["_law_pot_here", "_law_row"] [] (spT cls 2 m_passed_)
theorem ok_one_right_ {P : Program} {w : World} {K : PySem.W.Frag} {mg : Str → Option Value} {base : Heap} {cls : Cl} {f : Addr} {fd : FuncData} (F : Fun K "_law_one_right" "_law_one_right" s_one_right_ f fd) (Z : Bt mg) (Gc : Gcs mg) (C : C_one_right_ P w K mg base cls) (hK : cls.K = K) :
    GOk P w K mg base 43 f fd ["_law_pot_here", "_law_rows_here"] (spT cls 2 m_one_right_) := by
  have sc := sc_one_right_
  refine gok_t (m := 12) F sc rfl rfl fun cdv A out s H E hg hr => ⟨_, (pss_cons (ps_par (i := 2) (j := 3) (by rfl) sc.nd rfl rfl (by decide) rfl rfl (pa_cons (pe_callC C.divisor_ hg (hr.mono (by decide)) (by rfl) (pa_cons (pv 1) pa_nil)) (pa_cons (pe_lc (own := [("_law_row", 10)]) rfl sc.nd (pi_seq (K := K) (by rfl) (pv 1)) (blkOk_by (by kernel_rfl)) (fun _ _ _ _ _ => (pg_name (i := 10) sc.nd rfl (by first | exact Or.inl rfl | exact Or.inr rfl))) (fun _ _ _ _ _ => pts_nil) (fun _ _ _ _ _ => (pe_callC C.passed_ hg (hr.mono (by decide)) (by rfl) (pa_cons (pv 0) (pa_cons (pv 10) pa_nil))))) pa_nil)) (by rfl))
      (pss_cons (ps_set (i := 4) sc.nd rfl (by first | exact Or.inl rfl | exact Or.inr rfl) (pe_callB (kShE cls hg (room_u hr)) (by rfl) Z.repr (by decide +kernel) (pa_cons (pv 3) pa_nil)))
      (pss_cons (ps_if (PW.pt (pw_or (pt_cmpR (opNeX (K := K) (by rfl) (room_u hr)) (pe_callB (kShE cls hg (room_u hr)) (by rfl) Z.repr (by decide +kernel) (pa_cons (pe_lst (pa_cons (pe_callC C.divisor hg (hr.mono (by decide)) (by rfl) (pa_cons (pv 3) pa_nil)) (pa_cons (pe_keyC (ks := ["rows"]) (is := [0]) C.divisor (by decide) hg (hr.mono (by decide)) (by rfl) (pk_cons (pe_callTy (kTuple (K := K) (by rfl)) (by rfl) Z.tuple (by decide +kernel) (pa_cons (pv 3) pa_nil)) pk_nil)) pa_nil))) pa_nil)) (pe_callB (kShE cls hg (room_u hr)) (by rfl) Z.repr (by decide +kernel) (pa_cons (pe_lst (pa_cons (pv 2) (pa_cons (pv 2) pa_nil))) pa_nil)) (nomark _)) (pw_or1 (pt_cmpR (opNeX (K := K) (by rfl) (room_u hr)) (pe_callB (kShE cls hg (room_u hr)) (by rfl) Z.repr (by decide +kernel) (pa_cons (pv 3) pa_nil)) (pv 4) (nomark _))))) (pss_one (ps_ret pe_bl)) pss_nil)
      (pss_cons (ps_asg (pe_tup (pa_cons (pe_callC C.draw_ hg (hr.mono (by decide)) (by rfl) (pa_cons (pv 0) (pa_cons (pe_callB (kLen (K := K) (by rfl)) (by rfl) Z.len (by decide +kernel) (pa_cons (pv 1) pa_nil)) pa_nil))) (pa_cons (pe_callC C.pick_ hg (hr.mono (by decide)) (by rfl) (pa_cons (pv 0) (pa_cons (pe_lst (pa_cons pe_int (pa_cons (pe_un un_neg pe_int) (pa_cons pe_int (pa_cons (pe_un un_neg pe_int) pa_nil))))) pa_nil))) pa_nil))) (pgTup (n := 2) (K := K) (by rfl) (by rfl) (pgs_cons (pg_name (i := 5) sc.nd rfl (by first | exact Or.inl rfl | exact Or.inr rfl)) (pgs_cons (pg_name (i := 6) sc.nd rfl (by first | exact Or.inl rfl | exact Or.inr rfl)) pgs_nil))))
      (pss_cons (ps_setLc (i := 7) (own := [("_law_place", 11), ("_law_row", 10)]) rfl sc.nd rfl rfl (sw_true rfl rfl rfl (by decide +kernel)) (pi_enumS (K := K) (by rfl) (by rfl) Z.enumerate (pa_cons (pv 1) pa_nil)) (blkOk_by (by kernel_rfl)) (fun _ _ _ _ _ => (pgTup (n := 2) (K := K) (by rfl) (by rfl) (pgs_cons (pg_name (i := 11) sc.nd rfl (by first | exact Or.inl rfl | exact Or.inr rfl)) (pgs_cons (pg_name (i := 10) sc.nd rfl (by first | exact Or.inl rfl | exact Or.inr rfl)) pgs_nil)))) (fun _ _ _ _ _ => pts_nil) (fun _ _ _ _ _ => (pe_ifExp (pt_cmpR (opEqX (K := K) (by rfl) (room_u hr)) (pv 11) (pv 5) (nomark _)) (pe_lc (own := [("_law_one", 12)]) rfl sc.nd (pi_seq (K := K) (by rfl) (pv 10)) (blkOk_by (by kernel_rfl)) (fun _ _ _ _ _ => (pg_name (i := 12) sc.nd rfl (by first | exact Or.inl rfl | exact Or.inr rfl))) (fun _ _ _ _ _ => pts_nil) (fun _ _ _ _ _ => (pe_op (opMulX (K := K) (by rfl)) (pv 6) (pv 12)))) (pv 10))))
      (pss_cons (ps_if (PW.pt (pw_or (pt_cmpR (opNeX (K := K) (by rfl) (room_u hr)) (pe_callC C.divisor hg (hr.mono (by decide)) (by rfl) (pa_cons (pv 7) pa_nil)) (pe_op (opMulX (K := K) (by rfl)) (pv 2) (pe_callB kAbs (by rfl) Z.abs (by decide +kernel) (pa_cons (pv 6) pa_nil))) (nomark _)) (pw_or (pt_cmpR (opNeX (K := K) (by rfl) (room_u hr)) (pe_callC C.divisor hg (hr.mono (by decide)) (by rfl) (pa_cons (pe_rev (K := K) (by rfl) (pv 1) po_none po_none (po_some (pe_un un_neg pe_int))) pa_nil)) (pv 2) (nomark _)) (pw_or1 (pt_cmpR (opNeX (K := K) (by rfl) (room_u hr)) (pe_callC C.divisor hg (hr.mono (by decide)) (by rfl) (pa_cons (pe_lc (own := [("_law_row", 10)]) rfl sc.nd (pi_seq (K := K) (by rfl) (pv 1)) (blkOk_by (by kernel_rfl)) (fun _ _ _ _ _ => (pg_name (i := 10) sc.nd rfl (by first | exact Or.inl rfl | exact Or.inr rfl))) (fun _ _ _ _ _ => pts_nil) (fun _ _ _ _ _ => (pe_rev (K := K) (by rfl) (pv 10) po_none po_none (po_some (pe_un un_neg pe_int))))) pa_nil)) (pv 2) (nomark _)))))) (pss_one (ps_ret pe_bl)) pss_nil)
      (pss_cons (ps_if (pt_cmpR op_gt (pe_callB (kLen (K := K) (by rfl)) (by rfl) Z.len (by decide +kernel) (pa_cons (pv 1) pa_nil)) pe_int (nomark _)) (pss_cons (ps_set (i := 8) sc.nd rfl (by first | exact Or.inl rfl | exact Or.inr rfl) (pe_op op_sub (pv 5) pe_int))
      (pss_cons (ps_setLc (i := 9) (own := [("_law_place", 11), ("_law_row", 10)]) rfl sc.nd rfl rfl (sw_true rfl rfl rfl (by decide +kernel)) (pi_enumS (K := K) (by rfl) (by rfl) Z.enumerate (pa_cons (pv 1) pa_nil)) (blkOk_by (by kernel_rfl)) (fun _ _ _ _ _ => (pgTup (n := 2) (K := K) (by rfl) (by rfl) (pgs_cons (pg_name (i := 11) sc.nd rfl (by first | exact Or.inl rfl | exact Or.inr rfl)) (pgs_cons (pg_name (i := 10) sc.nd rfl (by first | exact Or.inl rfl | exact Or.inr rfl)) pgs_nil)))) (fun _ _ _ _ _ => pts_nil) (fun _ _ _ _ _ => (pe_ifExp (pt_cmpR (opEqX (K := K) (by rfl) (room_u hr)) (pv 11) (pv 5) (nomark _)) (pe_lc (own := [("_law_one", 12), ("_law_two", 13)]) rfl sc.nd (piZip (K := K) (by rfl) (by rfl) Z.zip (pa_cons (pv 10) (pa_cons (pe_ix (kIx (K := K) (by rfl)) (pv 1) (pv 8) (fun _ _ => rfl)) pa_nil))) (blkOk_by (by kernel_rfl)) (fun _ _ _ _ _ => (pgTup (n := 2) (K := K) (by rfl) (by rfl) (pgs_cons (pg_name (i := 12) sc.nd rfl (by first | exact Or.inl rfl | exact Or.inr rfl)) (pgs_cons (pg_name (i := 13) sc.nd rfl (by first | exact Or.inl rfl | exact Or.inr rfl)) pgs_nil)))) (fun _ _ _ _ _ => pts_nil) (fun _ _ _ _ _ => (pe_op (opAddX (K := K) (by rfl)) (pv 12) (pe_op (opMulX (K := K) (by rfl)) (pv 6) (pv 13))))) (pv 10))))
      (pss_one (ps_if (pt_cmpR (opNeX (K := K) (by rfl) (room_u hr)) (pe_callC C.divisor hg (hr.mono (by decide)) (by rfl) (pa_cons (pv 9) pa_nil)) (pv 2) (nomark _)) (pss_one (ps_ret pe_bl)) pss_nil)))) pss_nil)
      (pss_one (ps_ret (pe_cmpR (opEqX (K := K) (by rfl) (room_u hr)) (pe_callC C.divisor hg (hr.mono (by decide)) (by rfl) (pa_cons (pe_op (opAddX (K := K) (by rfl)) (pv 1) (pe_slice (kSl2 (K := K) (by rfl)) (pv 1) po_none (po_some pe_int))) pa_nil)) pe_int (nomark _))))))))))), ?_⟩
  exact (jx_seq (jx_par (ja_cons (j_call (ja_cons (j_var 1) ja_nil)) (ja_cons (JF.e (jf_lc (jis_seq (JE.s (j_var 1))) (jg_name 10) j_yes (j_call (ja_cons (j_var 0) (ja_cons (j_var 10) ja_nil))) (by decide))) ja_nil)))
      (jx_seq (jx_asg (j_cb rc_repr (jas_cons (JE.s (j_var 3)) jas_nil)) (jg_name 4))
      (jx_seq (jx_kill (vs := [3, 4]) (jx_if (j_or (j_test (j_op rv_ne (JE.s (j_cb rc_repr (jas_cons (JE.s (JF.e (j_list (ja_cons (j_call (ja_cons (j_var 3) ja_nil)) (ja_cons (j_key (ja_cons (j_cb rc_tupleX (jas_cons (JE.s (j_var 3)) jas_nil)) ja_nil)) ja_nil))))) jas_nil))) (JE.s (j_cb rc_repr (jas_cons (JE.s (JF.e (j_list (ja_cons (j_var 2) (ja_cons (j_var 2) ja_nil))))) jas_nil))))) (j_test (j_op rv_ne (JE.s (j_cb rc_repr (jas_cons (JE.s (j_var 3)) jas_nil))) (JE.s (j_var 4))))) (jx_ret j_bl) jx_next))
      (jx_seq (jx_kill (vs := [0]) (jx_asg (j_tup (ja_cons (j_call (ja_cons (j_var 0) (ja_cons (j_cb (rc_lenX hK) (jas_cons (JE.s (j_var 1)) jas_nil)) ja_nil))) (ja_cons (j_call (ja_cons (j_var 0) (ja_cons (JF.e (j_list (ja_cons j_int (ja_cons (j_neg j_int) (ja_cons j_int (ja_cons (j_neg j_int) ja_nil)))))) ja_nil))) ja_nil))) (jg_tup (n := 2) (jgs_cons (jg_name 5) (jgs_cons (jg_name 6) jgs_nil)) rfl)))
      (jx_seq (jx_asg (JF.e (jf_lc (jis_enum (jas_cons (JE.s (j_var 1)) jas_nil)) (jg_tup (n := 2) (jgs_cons (jg_name 11) (jgs_cons (jg_name 10) jgs_nil)) rfl) j_yes (j_if (j_test (j_op rv_eq (JE.s (j_var 11)) (JE.s (j_var 5)))) (JF.e (jf_lc (jis_seq (JE.s (j_var 10))) (jg_name 12) j_yes (j_op rv_mul (JE.s (j_var 6)) (JE.s (j_var 12))) (by decide))) (j_var 10)) (by decide))) (jg_name 7))
      (jx_seq (jx_kill (vs := [7]) (jx_if (j_or (j_test (j_op rv_ne (JE.s (j_call (ja_cons (j_var 7) ja_nil))) (JE.s (j_op rv_mul (JE.s (j_var 2)) (JE.s (j_cb rc_absX (jas_cons (JE.s (j_var 6)) jas_nil))))))) (j_or (j_test (j_op rv_ne (JE.s (j_call (ja_cons (JF.e (j_rev (JE.s (j_var 1)) jo_none jo_none (jo_some (j_neg j_int)))) ja_nil))) (JE.s (j_var 2)))) (j_test (j_op rv_ne (JE.s (j_call (ja_cons (JF.e (jf_lc (jis_seq (JE.s (j_var 1))) (jg_name 10) j_yes (JF.e (j_rev (JE.s (j_var 10)) jo_none jo_none (jo_some (j_neg j_int)))) (by decide))) ja_nil))) (JE.s (j_var 2)))))) (jx_ret j_bl) jx_next))
      (jx_seq (jx_kill (vs := [2, 5, 6, 8, 9]) (jx_if (j_test (j_op rv_cmp (JE.s (j_cb (rc_lenX hK) (jas_cons (JE.s (j_var 1)) jas_nil))) (JE.s j_int))) (jx_seq (jx_asg (j_op rv_sub (JE.s (j_var 5)) (JE.s j_int)) (jg_name 8))
      (jx_seq (jx_kill (vs := [5, 6, 8]) (jx_asg (JF.e (jf_lc (jis_enum (jas_cons (JE.s (j_var 1)) jas_nil)) (jg_tup (n := 2) (jgs_cons (jg_name 11) (jgs_cons (jg_name 10) jgs_nil)) rfl) j_yes (j_if (j_test (j_op rv_eq (JE.s (j_var 11)) (JE.s (j_var 5)))) (JF.e (jf_lc (jis_zip (jas_cons (JE.s (j_var 10)) (jas_cons (JE.s (j_op (rv_ix hK) (JE.s (j_var 1)) (JE.s (j_var 8)))) jas_nil))) (jg_tup (n := 2) (jgs_cons (jg_name 12) (jgs_cons (jg_name 13) jgs_nil)) rfl) j_yes (j_op rv_addX (JE.s (j_var 12)) (JE.s (j_op rv_mul (JE.s (j_var 6)) (JE.s (j_var 13))))) (by decide))) (j_var 10)) (by decide))) (jg_name 9)))
      (jx_kill (vs := [2, 9]) (jx_if (j_test (j_op rv_ne (JE.s (j_call (ja_cons (j_var 9) ja_nil))) (JE.s (j_var 2)))) (jx_ret j_bl) jx_next)))) jx_next))
      (jx_ret (j_op rv_eq (JE.s (j_call (ja_cons (j_op rv_addX (JE.s (j_var 1)) (JE.s (j_sl (JE.s (j_var 1)) jo_none (jo_some j_int)))) ja_nil))) (JE.s j_int))))))))))
end K16

namespace K16
open PySem PySem.Spec PyProof.Rows L2 Lk
structure C_right_ (P : Program) (w : World) (K : PySem.W.Frag) (mg : Str → Option Value) (base : Heap) (cls : Cl) : Prop where
  divisor : Cal P w K mg base "divisor" 42 ["rows"] [(["rows"], [0])] (spT cls 1 m_divisor)
  one_right_ : Cal P w K mg base "_law_one_right" 43 ["_law_pot_here", "_law_rows_here"] [] (spT cls 2 m_one_right_)
  rows_ : Cal P w K mg base "_law_rows" 2 ["_law_pot_here", "_law_many", "_law_wide"] [] (spT cls 3 m_rows_)
  draw_ : Cal P w K mg base "_law_draw" 1 ["_law_pot_here", "_law_size"] [] (spT cls 2 m_drawT)
theorem ok_right_ {P : Program} {w : World} {K : PySem.W.Frag} {mg : Str → Option Value} {base : Heap} {cls : Cl} {f : Addr} {fd : FuncData} (F : Fun K "_law_right" "_law_right" s_right_ f fd) (Z : Bt mg) (Gc : Gcs mg) (C : C_right_ P w K mg base cls) (hK : cls.K = K) :
    GOk P w K mg base 44 f fd ["_law_pot_here"] (spT cls 1 m_right_) := by
  have sc := sc_right_
  refine gok_t (m := 3) F sc rfl rfl fun cdv A out s H E hg hr => ⟨_, (pss_cons (ps_for PassesOwn.never rfl (pi_range1 (by rfl) Z.range (pa_cons pe_int pa_nil)) (pg_name (i := 1) sc.nd rfl (by first | exact Or.inl rfl | exact Or.inr rfl)) (pss_cons (ps_par (i := 2) (j := 3) (by rfl) sc.nd rfl rfl (by decide) rfl rfl (pa_cons (pe_op (opAddX (K := K) (by rfl)) pe_int (pe_callC C.draw_ hg (hr.mono (by decide)) (by rfl) (pa_cons (pv 0) (pa_cons pe_int pa_nil)))) (pa_cons (pe_op (opAddX (K := K) (by rfl)) pe_int (pe_callC C.draw_ hg (hr.mono (by decide)) (by rfl) (pa_cons (pv 0) (pa_cons pe_int pa_nil)))) pa_nil)) (by rfl))
      (pss_one (ps_if (pt_not (ptTruth (K := K) (by rfl) (pe_callC C.one_right_ hg (hr.mono (by decide)) (by rfl) (pa_cons (pv 0) (pa_cons (pe_callC C.rows_ hg (hr.mono (by decide)) (by rfl) (pa_cons (pv 0) (pa_cons (pv 2) (pa_cons (pv 3) pa_nil)))) pa_nil))) (by intro _; rfl))) (pss_one (ps_ret pe_bl)) pss_nil))))
      (pss_one (ps_ret (pe_and (pe_cmpR (opEqX (K := K) (by rfl) (room_u hr)) (pe_callC C.divisor hg (hr.mono (by decide)) (by rfl) (pa_cons (pe_lst (pa_cons (pe_lst (pa_cons pe_int (pa_cons (pe_un un_neg pe_int) (pa_cons pe_int pa_nil)))) pa_nil)) pa_nil)) pe_int (nomark _)) (pe_and (pe_cmpR (opEqX (K := K) (by rfl) (room_u hr)) (pe_callC C.divisor hg (hr.mono (by decide)) (by rfl) (pa_cons (pe_lst (pa_cons (pe_lst (pa_cons pe_int (pa_cons pe_int pa_nil))) pa_nil)) pa_nil)) pe_int (nomark _)) (pe_and (pe_cmpR (opEqX (K := K) (by rfl) (room_u hr)) (pe_callC C.divisor hg (hr.mono (by decide)) (by rfl) (pa_cons (pe_lst (pa_cons (pe_lst (pa_cons pe_int pa_nil)) (pa_cons (pe_lst (pa_cons pe_int pa_nil)) pa_nil))) pa_nil)) pe_int (nomark _)) (pe_one (pe_cmpR (opEqX (K := K) (by rfl) (room_u hr)) (pe_callC C.divisor hg (hr.mono (by decide)) (by rfl) (pa_cons (pe_lst (pa_cons (pe_lst (pa_cons pe_int (pa_cons pe_int (pa_cons pe_int pa_nil)))) (pa_cons (pe_lst (pa_cons pe_int (pa_cons pe_int (pa_cons pe_int pa_nil)))) pa_nil))) pa_nil)) pe_int (nomark _))))))))), ?_⟩
  exact (jx_seq (jx_kill (vs := [0, 1, 2, 3]) (jx_for (ji_rng1 (ja_cons j_int ja_nil)) (jg_name 1) (jx_seq (jx_par (ja_cons (j_op rv_addX (JE.s j_int) (JE.s (j_call (ja_cons (j_var 0) (ja_cons j_int ja_nil))))) (ja_cons (j_op rv_addX (JE.s j_int) (JE.s (j_call (ja_cons (j_var 0) (ja_cons j_int ja_nil))))) ja_nil)))
      (jx_kill (vs := [2, 3]) (jx_if (j_not (jb_truth (JE.s (j_call (ja_cons (j_var 0) (ja_cons (j_call (ja_cons (j_var 0) (ja_cons (j_var 2) (ja_cons (j_var 3) ja_nil)))) ja_nil)))))) (jx_ret j_bl) jx_next)))))
      (jx_ret (j_andV (j_op rv_eq (JE.s (j_call (ja_cons (JF.e (j_list (ja_cons (JF.e (j_list (ja_cons j_int (ja_cons (j_neg j_int) (ja_cons j_int ja_nil))))) ja_nil))) ja_nil))) (JE.s j_int)) (j_andV (j_op rv_eq (JE.s (j_call (ja_cons (JF.e (j_list (ja_cons (JF.e (j_list (ja_cons j_int (ja_cons j_int ja_nil)))) ja_nil))) ja_nil))) (JE.s j_int)) (j_andV (j_op rv_eq (JE.s (j_call (ja_cons (JF.e (j_list (ja_cons (JF.e (j_list (ja_cons j_int ja_nil))) (ja_cons (JF.e (j_list (ja_cons j_int ja_nil))) ja_nil)))) ja_nil))) (JE.s j_int)) (j_op rv_eq (JE.s (j_call (ja_cons (JF.e (j_list (ja_cons (JF.e (j_list (ja_cons j_int (ja_cons j_int (ja_cons j_int ja_nil))))) (ja_cons (JF.e (j_list (ja_cons j_int (ja_cons j_int (ja_cons j_int ja_nil))))) ja_nil)))) ja_nil))) (JE.s j_int)))))))
end K16

namespace K16
open PySem PySem.Spec PyProof.Rows L2 Lk
structure C_law (P : Program) (w : World) (K : PySem.W.Frag) (mg : Str → Option Value) (base : Heap) (cls : Cl) : Prop where
  right_ : Cal P w K mg base "_law_right" 44 ["_law_pot_here"] [] (spG cls 1 preR isTrue1)
  pot_ : Cal P w K mg base "_law_pot" 1 ["_law_script", "_law_k"] [] (spPot cls)
theorem ok_law {P : Program} {w : World} {K : PySem.W.Frag} {mg : Str → Option Value} {base : Heap} {cls : Cl} {f : Addr} {fd : FuncData} (F : Fun K "law" "law" s_law f fd) (Z : Bt mg) (Gc : Gcs mg) (C : C_law P w K mg base cls) (hK : cls.K = K) :
    GOk P w K mg base 45 f fd ["_law_script"] (spG cls 1 preLaw isTrue1) := by
  have sc := sc_law
  refine gok_ev (m := 1) F sc rfl rfl fun cdv A out s H E hg hr => ⟨_, (pss_one (ps_ret (pe_callB (kAll (K := K) (by rfl) (by rfl)) (by rfl) Z.all (by decide +kernel) (pa_cons (pe_lc (own := [("_law_k", 1)]) rfl sc.nd (pi_range1 (by rfl) Z.range (pa_cons (pe_callB (kMax (by rfl)) (by rfl) Z.max (by decide +kernel) (pa_cons pe_int (pa_cons (pe_callB (kMin (by rfl)) (by rfl) Z.min (by decide +kernel) (pa_cons pe_int (pa_cons (pe_callB (kLen (K := K) (by rfl)) (by rfl) Z.len (by decide +kernel) (pa_cons (pv 0) pa_nil)) pa_nil))) pa_nil))) pa_nil)) (blkOk_by (by kernel_rfl)) (fun _ _ _ _ _ => (pg_name (i := 1) sc.nd rfl (by first | exact Or.inl rfl | exact Or.inr rfl))) (fun _ _ _ _ _ => pts_nil) (fun _ _ _ _ _ => (pe_callC C.right_ hg (hr.mono (by decide)) (by rfl) (pa_cons (pe_callC C.pot_ hg (hr.mono (by decide)) (by rfl) (pa_cons (pv 0) (pa_cons (pv 1) pa_nil))) pa_nil)))) pa_nil)))), ?_⟩
  intro p xs hl hp
  obtain ⟨hp0, ns, rfl, hl⟩ := hp
  have hpe : p = fun _ => False := funext fun a => propext ⟨hp0 a, fun z => z.elim⟩
  subst hpe
  let top : Int := if (if (ns.length : Int) < 3 then (ns.length : Int) else 3) > 1 then (if (ns.length : Int) < 3 then (ns.length : Int) else 3) else 1
  have ht : 1 ≤ top ∧ top ≤ 3 := by
    show 1 ≤ (if (if (ns.length : Int) < 3 then (ns.length : Int) else 3) > 1 then (if (ns.length : Int) < 3 then (ns.length : Int) else 3) else 1) ∧ (if (if (ns.length : Int) < 3 then (ns.length : Int) else 3) > 1 then (if (ns.length : Int) < 3 then (ns.length : Int) else 3) else 1) ≤ 3
    split <;> split <;> constructor <;> omega
  refine sv_ret (ev_all (bs := (irng 0 top.toNat).map fun _ => true) (Ev.mono (ev_lcF (js := [1]) (xs := irng 0 top.toNat) (f := fun _ => .bl true) (ei_rng (n := top) ((ea1 (ev_max ev_int (ev_min ev_int (ev_lenS (ev_var rfl) hK)))).mono fun xs ⟨x, ex, e⟩ => by rw [e, ex]) (by omega) (by omega)) ?_ (by decide) rfl fun x hx => ?_) fun d e => by rw [e, List.map_map]; rfl)) fun d e => ?_
  · unfold irng
    rw [List.length_map, List.length_range]
    omega
  · have key : ∃ kk : Int, x = .int kk ∧ 0 ≤ kk ∧ kk < 1000 := by
      unfold irng at hx
      obtain ⟨j, hj, rfl⟩ := List.mem_map.mp hx
      have := List.mem_range.mp hj
      exact ⟨_, rfl, by omega, by omega⟩
    obtain ⟨kk, rfl, k0, k1⟩ := key
    exact ⟨_, eg_name, rfl, ev_potCall (ns := ns) (kk := kk) ((ea2 (ev_var rfl) (ev_var rfl)).mono fun xs ⟨x, y, ex, ey, e⟩ => by rw [e, ex, ey]) k0 k1 (fun a p h => ⟨a, rfl, h⟩) (fun a d h => h) fun d e => ⟨true, e⟩⟩
  · rw [e, List.all_map]
    exact congrArg D.bl (List.all_eq_true.mpr fun x _ => rfl)
end K16

namespace K16
open PySem PySem.Spec PyProof.Rows L2 Lk
theorem all_mk {w : World} {K : PySem.W.Frag} {h : Heap} {mg : Str → Option Value} {fa : Addr} (X : K.In h) (G : h.Ns mainGlobals mg) (hfa : mg "law" = some (.ref fa)) (Z : Bt mg) (Gc : Gcs mg)
    (d_is_integer : ∃ f fd, Df K "is_integer" s_is_integer f fd)
    (d_is_list : ∃ f fd, Df K "is_list" s_is_list f fd)
    (d_taken : ∃ f fd, Df K "taken" s_taken f fd)
    (d_places_among : ∃ f fd, Df K "places_among" s_places_among f fd)
    (d_pot_ : ∃ f fd, Df K "_law_pot" s_pot_ f fd)
    (d_draw_ : ∃ f fd, Df K "_law_draw" s_draw_ f fd)
    (d_common_ : ∃ f fd, Df K "_law_common" s_common_ f fd)
    (d_is_row : ∃ f fd, Df K "is_row" s_is_row f fd)
    (d_pick_ : ∃ f fd, Df K "_law_pick" s_pick_ f fd)
    (d_passed_ : ∃ f fd, Df K "_law_passed" s_passed_ f fd)
    (d_rows_ : ∃ f fd, Df K "_law_rows" s_rows_ f fd)
    (d_are_rows : ∃ f fd, Df K "are_rows" s_are_rows f fd)
    (d_determinant : ∃ f fd, Df K "determinant" s_determinant f fd)
    (d_minor_ : ∃ f fd, Df K "_law_minor" s_minor_ f fd)
    (d_choices_ : ∃ f fd, Df K "_law_choices" s_choices_ f fd)
    (d_divisor_of : ∃ f fd, Df K "divisor_of" s_divisor_of f fd)
    (d_divisor_ : ∃ f fd, Df K "_law_divisor" s_divisor_ f fd)
    (d_divisor : ∃ f fd, Df K "divisor" s_divisor f fd)
    (d_one_right_ : ∃ f fd, Df K "_law_one_right" s_one_right_ f fd)
    (d_right_ : ∃ f fd, Df K "_law_right" s_right_ f fd)
    (d_law : ∃ f fd, Df K "law" s_law f fd)
    : ∃ fd : FuncData, (∀ (s : Shared) (u : Value), BindsTo s fd ⟨[u], []⟩ [("_law_script", u)]) ∧ ∀ base : Heap, K.In base → base.Ns mainGlobals mg → GOk PySem.Challenge.pw_likestreets_k16_whole_divisors_of_minors w K mg base 45 fa fd ["_law_script"] (spG ⟨K, fun _ => mainGlobals⟩ 1 preLaw isTrue1) := by
  obtain ⟨f_is_integer, fd_is_integer, d_is_integer⟩ := d_is_integer
  obtain ⟨f_is_list, fd_is_list, d_is_list⟩ := d_is_list
  obtain ⟨f_taken, fd_taken, d_taken⟩ := d_taken
  obtain ⟨f_places_among, fd_places_among, d_places_among⟩ := d_places_among
  obtain ⟨f_pot_, fd_pot_, d_pot_⟩ := d_pot_
  obtain ⟨f_draw_, fd_draw_, d_draw_⟩ := d_draw_
  obtain ⟨f_common_, fd_common_, d_common_⟩ := d_common_
  obtain ⟨f_is_row, fd_is_row, d_is_row⟩ := d_is_row
  obtain ⟨f_pick_, fd_pick_, d_pick_⟩ := d_pick_
  obtain ⟨f_passed_, fd_passed_, d_passed_⟩ := d_passed_
  obtain ⟨f_rows_, fd_rows_, d_rows_⟩ := d_rows_
  obtain ⟨f_are_rows, fd_are_rows, d_are_rows⟩ := d_are_rows
  obtain ⟨f_determinant, fd_determinant, d_determinant⟩ := d_determinant
  obtain ⟨f_minor_, fd_minor_, d_minor_⟩ := d_minor_
  obtain ⟨f_choices_, fd_choices_, d_choices_⟩ := d_choices_
  obtain ⟨f_divisor_of, fd_divisor_of, d_divisor_of⟩ := d_divisor_of
  obtain ⟨f_divisor_, fd_divisor_, d_divisor_⟩ := d_divisor_
  obtain ⟨f_divisor, fd_divisor, d_divisor⟩ := d_divisor
  obtain ⟨f_one_right_, fd_one_right_, d_one_right_⟩ := d_one_right_
  obtain ⟨f_right_, fd_right_, d_right_⟩ := d_right_
  obtain ⟨f_law, fd_law, d_law⟩ := d_law
  have e0 := hfa.symm.trans (PySem.W.mg_of X G d_law.a)
  cases e0
  refine ⟨fd_law, fun s u => ?_, fun base _ _ => ?_⟩
  · obtain ⟨oc, od, kV, doc, pm, an, cdv, ct, osl, rfl, lk, hcd⟩ := d_law.F.ex
    exact .of_eq rfl
  let cls : Cl := ⟨K, fun _ => mainGlobals⟩
  have hK : cls.K = K := rfl
  have g_is_integer : GOk PySem.Challenge.pw_likestreets_k16_whole_divisors_of_minors w K mg base 1 f_is_integer fd_is_integer ["value"] (spT cls 1 m_is_integer) := ok_is_integer d_is_integer.F Z Gc ⟨trivial⟩ hK
  have c_is_integer : Cal PySem.Challenge.pw_likestreets_k16_whole_divisors_of_minors w K mg base "is_integer" 1 ["value"] [] (spT cls 1 m_is_integer) := cal_mk d_is_integer X G g_is_integer (fun _ _ _ _ _ _ us hl => match us, hl with | [_], _ => rfl) (fun q hq => nomatch hq)
  have g_is_list : GOk PySem.Challenge.pw_likestreets_k16_whole_divisors_of_minors w K mg base 1 f_is_list fd_is_list ["value"] (spT cls 1 m_is_list) := ok_is_list d_is_list.F Z Gc ⟨trivial⟩ hK
  have c_is_list : Cal PySem.Challenge.pw_likestreets_k16_whole_divisors_of_minors w K mg base "is_list" 1 ["value"] [] (spT cls 1 m_is_list) := cal_mk d_is_list X G g_is_list (fun _ _ _ _ _ _ us hl => match us, hl with | [_], _ => rfl) (fun q hq => nomatch hq)
  have g_taken : GOk PySem.Challenge.pw_likestreets_k16_whole_divisors_of_minors w K mg base 1 f_taken fd_taken ["rows", "places"] (spT cls 2 m_taken) := ok_taken d_taken.F Z Gc ⟨trivial⟩ hK
  have c_taken : Cal PySem.Challenge.pw_likestreets_k16_whole_divisors_of_minors w K mg base "taken" 1 ["rows", "places"] [] (spT cls 2 m_taken) := cal_mk d_taken X G g_taken (fun _ _ _ _ _ _ us hl => match us, hl with | [_, _], _ => rfl) (fun q hq => nomatch hq)
  have g_places_among : GOk PySem.Challenge.pw_likestreets_k16_whole_divisors_of_minors w K mg base 1 f_places_among fd_places_among ["columns", "many"] (spT cls 2 m_places_among) := ok_places_among d_places_among.F Z Gc ⟨trivial⟩ hK
  have c_places_among : Cal PySem.Challenge.pw_likestreets_k16_whole_divisors_of_minors w K mg base "places_among" 1 ["columns", "many"] [] (spT cls 2 m_places_among) := cal_mk d_places_among X G g_places_among (fun _ _ _ _ _ _ us hl => match us, hl with | [_, _], _ => rfl) (fun q hq => nomatch hq)
  have g_pot_ : GOk PySem.Challenge.pw_likestreets_k16_whole_divisors_of_minors w K mg base 1 f_pot_ fd_pot_ ["_law_script", "_law_k"] (spPot cls) := ok_pot_ d_pot_.F Z Gc ⟨trivial⟩ hK
  have c_pot_ : Cal PySem.Challenge.pw_likestreets_k16_whole_divisors_of_minors w K mg base "_law_pot" 1 ["_law_script", "_law_k"] [] (spPot cls) := cal_mk d_pot_ X G g_pot_ (fun _ _ _ _ _ _ us hl => match us, hl with | [_, _], _ => rfl) (fun q hq => nomatch hq)
  have g_draw_ : GOk PySem.Challenge.pw_likestreets_k16_whole_divisors_of_minors w K mg base 1 f_draw_ fd_draw_ ["_law_pot_here", "_law_size"] (spT cls 2 m_drawT) := gok_GT (ok_draw_ d_draw_.F Z Gc ⟨trivial⟩ hK) draw_conv
  have c_draw_ : Cal PySem.Challenge.pw_likestreets_k16_whole_divisors_of_minors w K mg base "_law_draw" 1 ["_law_pot_here", "_law_size"] [] (spT cls 2 m_drawT) := cal_mk d_draw_ X G g_draw_ (fun _ _ _ _ _ _ us hl => match us, hl with | [_, _], _ => rfl) (fun q hq => nomatch hq)
  have g_common_ : GOk PySem.Challenge.pw_likestreets_k16_whole_divisors_of_minors w K mg base 1 f_common_ fd_common_ ["_law_one", "_law_other"] (spT cls 2 m_common_) := ok_common_ d_common_.F Z Gc ⟨trivial⟩ hK
  have c_common_ : Cal PySem.Challenge.pw_likestreets_k16_whole_divisors_of_minors w K mg base "_law_common" 1 ["_law_one", "_law_other"] [] (spT cls 2 m_common_) := cal_mk d_common_ X G g_common_ (fun _ _ _ _ _ _ us hl => match us, hl with | [_, _], _ => rfl) (fun q hq => nomatch hq)
  have g_is_row : GOk PySem.Challenge.pw_likestreets_k16_whole_divisors_of_minors w K mg base 2 f_is_row fd_is_row ["value"] (spT cls 1 m_is_row) := ok_is_row d_is_row.F Z Gc ⟨c_is_integer, c_is_list⟩ hK
  have c_is_row : Cal PySem.Challenge.pw_likestreets_k16_whole_divisors_of_minors w K mg base "is_row" 2 ["value"] [] (spT cls 1 m_is_row) := cal_mk d_is_row X G g_is_row (fun _ _ _ _ _ _ us hl => match us, hl with | [_], _ => rfl) (fun q hq => nomatch hq)
  have g_pick_ : GOk PySem.Challenge.pw_likestreets_k16_whole_divisors_of_minors w K mg base 2 f_pick_ fd_pick_ ["_law_pot_here", "_law_some"] (spT cls 2 m_pick_) := ok_pick_ d_pick_.F Z Gc ⟨c_draw_⟩ hK
  have c_pick_ : Cal PySem.Challenge.pw_likestreets_k16_whole_divisors_of_minors w K mg base "_law_pick" 2 ["_law_pot_here", "_law_some"] [] (spT cls 2 m_pick_) := cal_mk d_pick_ X G g_pick_ (fun _ _ _ _ _ _ us hl => match us, hl with | [_, _], _ => rfl) (fun q hq => nomatch hq)
  have g_passed_ : GOk PySem.Challenge.pw_likestreets_k16_whole_divisors_of_minors w K mg base 2 f_passed_ fd_passed_ ["_law_pot_here", "_law_row"] (spT cls 2 m_passed_) := ok_passed_ d_passed_.F Z Gc ⟨c_draw_⟩ hK
  have c_passed_ : Cal PySem.Challenge.pw_likestreets_k16_whole_divisors_of_minors w K mg base "_law_passed" 2 ["_law_pot_here", "_law_row"] [] (spT cls 2 m_passed_) := cal_mk d_passed_ X G g_passed_ (fun _ _ _ _ _ _ us hl => match us, hl with | [_, _], _ => rfl) (fun q hq => nomatch hq)
  have g_rows_ : GOk PySem.Challenge.pw_likestreets_k16_whole_divisors_of_minors w K mg base 2 f_rows_ fd_rows_ ["_law_pot_here", "_law_many", "_law_wide"] (spT cls 3 m_rows_) := ok_rows_ d_rows_.F Z Gc ⟨c_draw_⟩ hK
  have c_rows_ : Cal PySem.Challenge.pw_likestreets_k16_whole_divisors_of_minors w K mg base "_law_rows" 2 ["_law_pot_here", "_law_many", "_law_wide"] [] (spT cls 3 m_rows_) := cal_mk d_rows_ X G g_rows_ (fun _ _ _ _ _ _ us hl => match us, hl with | [_, _, _], _ => rfl) (fun q hq => nomatch hq)
  have g_are_rows : GOk PySem.Challenge.pw_likestreets_k16_whole_divisors_of_minors w K mg base 3 f_are_rows fd_are_rows ["value"] (spT cls 1 m_are_rows) := ok_are_rows d_are_rows.F Z Gc ⟨c_is_row, c_is_list⟩ hK
  have c_are_rows : Cal PySem.Challenge.pw_likestreets_k16_whole_divisors_of_minors w K mg base "are_rows" 3 ["value"] [] (spT cls 1 m_are_rows) := cal_mk d_are_rows X G g_are_rows (fun _ _ _ _ _ _ us hl => match us, hl with | [_], _ => rfl) (fun q hq => nomatch hq)
  have r_determinant : ∀ n, GOk PySem.Challenge.pw_likestreets_k16_whole_divisors_of_minors w K mg base (0 + n) f_determinant fd_determinant ["rows"] (spT cls 1 (m_determinant n)) := by
    intro n
    induction n with
    | zero => exact gok_bad rfl fun _ => rfl
    | succ n ih =>
      have c_self : Cal PySem.Challenge.pw_likestreets_k16_whole_divisors_of_minors w K mg base "determinant" (0 + n) ["rows"] [] (spT cls 1 (m_determinant n)) := cal_mk d_determinant X G ih (fun _ _ _ _ _ _ us hl => match us, hl with | [_], _ => rfl) (fun q hq => nomatch hq)
      exact ok_determinant d_determinant.F Z Gc ⟨c_self⟩ hK
  have g_determinant : GOk PySem.Challenge.pw_likestreets_k16_whole_divisors_of_minors w K mg base 40 f_determinant fd_determinant ["rows"] (spT cls 1 (m_determinant 40)) := r_determinant 40
  have c_determinant : Cal PySem.Challenge.pw_likestreets_k16_whole_divisors_of_minors w K mg base "determinant" 40 ["rows"] [] (spT cls 1 (m_determinant 40)) := cal_mk d_determinant X G g_determinant (fun _ _ _ _ _ _ us hl => match us, hl with | [_], _ => rfl) (fun q hq => nomatch hq)
  have r_minor_ : ∀ n, GOk PySem.Challenge.pw_likestreets_k16_whole_divisors_of_minors w K mg base (0 + n) f_minor_ fd_minor_ ["_law_rows_here", "_law_places"] (spT cls 2 (m_minor_ n)) := by
    intro n
    induction n with
    | zero => exact gok_bad rfl fun _ => rfl
    | succ n ih =>
      have c_self : Cal PySem.Challenge.pw_likestreets_k16_whole_divisors_of_minors w K mg base "_law_minor" (0 + n) ["_law_rows_here", "_law_places"] [] (spT cls 2 (m_minor_ n)) := cal_mk d_minor_ X G ih (fun _ _ _ _ _ _ us hl => match us, hl with | [_, _], _ => rfl) (fun q hq => nomatch hq)
      exact ok_minor_ d_minor_.F Z Gc ⟨c_self⟩ hK
  have g_minor_ : GOk PySem.Challenge.pw_likestreets_k16_whole_divisors_of_minors w K mg base 40 f_minor_ fd_minor_ ["_law_rows_here", "_law_places"] (spT cls 2 (m_minor_ 40)) := r_minor_ 40
  have c_minor_ : Cal PySem.Challenge.pw_likestreets_k16_whole_divisors_of_minors w K mg base "_law_minor" 40 ["_law_rows_here", "_law_places"] [] (spT cls 2 (m_minor_ 40)) := cal_mk d_minor_ X G g_minor_ (fun _ _ _ _ _ _ us hl => match us, hl with | [_, _], _ => rfl) (fun q hq => nomatch hq)
  have r_choices_ : ∀ n, GOk PySem.Challenge.pw_likestreets_k16_whole_divisors_of_minors w K mg base (0 + n) f_choices_ fd_choices_ ["_law_some", "_law_many"] (spT cls 2 (m_choices_ n)) := by
    intro n
    induction n with
    | zero => exact gok_bad rfl fun _ => rfl
    | succ n ih =>
      have c_self : Cal PySem.Challenge.pw_likestreets_k16_whole_divisors_of_minors w K mg base "_law_choices" (0 + n) ["_law_some", "_law_many"] [] (spT cls 2 (m_choices_ n)) := cal_mk d_choices_ X G ih (fun _ _ _ _ _ _ us hl => match us, hl with | [_, _], _ => rfl) (fun q hq => nomatch hq)
      exact ok_choices_ d_choices_.F Z Gc ⟨c_self⟩ hK
  have g_choices_ : GOk PySem.Challenge.pw_likestreets_k16_whole_divisors_of_minors w K mg base 40 f_choices_ fd_choices_ ["_law_some", "_law_many"] (spT cls 2 (m_choices_ 40)) := r_choices_ 40
  have c_choices_ : Cal PySem.Challenge.pw_likestreets_k16_whole_divisors_of_minors w K mg base "_law_choices" 40 ["_law_some", "_law_many"] [] (spT cls 2 (m_choices_ 40)) := cal_mk d_choices_ X G g_choices_ (fun _ _ _ _ _ _ us hl => match us, hl with | [_, _], _ => rfl) (fun q hq => nomatch hq)
  have g_divisor_of : GOk PySem.Challenge.pw_likestreets_k16_whole_divisors_of_minors w K mg base 41 f_divisor_of fd_divisor_of ["rows"] (spT cls 1 m_divisor_of) := ok_divisor_of d_divisor_of.F Z Gc ⟨c_places_among, c_determinant, c_taken⟩ hK
  have c_divisor_of : Cal PySem.Challenge.pw_likestreets_k16_whole_divisors_of_minors w K mg base "divisor_of" 41 ["rows"] [] (spT cls 1 m_divisor_of) := cal_mk d_divisor_of X G g_divisor_of (fun _ _ _ _ _ _ us hl => match us, hl with | [_], _ => rfl) (fun q hq => nomatch hq)
  have g_divisor_ : GOk PySem.Challenge.pw_likestreets_k16_whole_divisors_of_minors w K mg base 41 f_divisor_ fd_divisor_ ["_law_rows_here"] (spT cls 1 m_divisor_) := ok_divisor_ d_divisor_.F Z Gc ⟨c_choices_, c_common_, c_minor_⟩ hK
  have c_divisor_ : Cal PySem.Challenge.pw_likestreets_k16_whole_divisors_of_minors w K mg base "_law_divisor" 41 ["_law_rows_here"] [] (spT cls 1 m_divisor_) := cal_mk d_divisor_ X G g_divisor_ (fun _ _ _ _ _ _ us hl => match us, hl with | [_], _ => rfl) (fun q hq => nomatch hq)
  have g_divisor : GOk PySem.Challenge.pw_likestreets_k16_whole_divisors_of_minors w K mg base 42 f_divisor fd_divisor ["rows"] (spT cls 1 m_divisor) := ok_divisor d_divisor.F Z Gc ⟨c_divisor_of, c_are_rows⟩ hK
  have c_divisor : Cal PySem.Challenge.pw_likestreets_k16_whole_divisors_of_minors w K mg base "divisor" 42 ["rows"] [(["rows"], [0])] (spT cls 1 m_divisor) := cal_mk d_divisor X G g_divisor (fun _ _ _ _ _ _ us hl => match us, hl with | [_], _ => rfl) (fun q hq => by
    rcases List.mem_cons.mp hq with rfl | hq
    · exact fun _ _ _ _ _ _ ws hl => match ws, hl with | [_], _ => rfl
    · cases hq)
  have g_one_right_ : GOk PySem.Challenge.pw_likestreets_k16_whole_divisors_of_minors w K mg base 43 f_one_right_ fd_one_right_ ["_law_pot_here", "_law_rows_here"] (spT cls 2 m_one_right_) := ok_one_right_ d_one_right_.F Z Gc ⟨c_divisor, c_pick_, c_draw_, c_divisor_, c_passed_⟩ hK
  have c_one_right_ : Cal PySem.Challenge.pw_likestreets_k16_whole_divisors_of_minors w K mg base "_law_one_right" 43 ["_law_pot_here", "_law_rows_here"] [] (spT cls 2 m_one_right_) := cal_mk d_one_right_ X G g_one_right_ (fun _ _ _ _ _ _ us hl => match us, hl with | [_, _], _ => rfl) (fun q hq => nomatch hq)
  have g_right_ : GOk PySem.Challenge.pw_likestreets_k16_whole_divisors_of_minors w K mg base 44 f_right_ fd_right_ ["_law_pot_here"] (spT cls 1 m_right_) := ok_right_ d_right_.F Z Gc ⟨c_divisor, c_one_right_, c_rows_, c_draw_⟩ hK
  have c_right_ : Cal PySem.Challenge.pw_likestreets_k16_whole_divisors_of_minors w K mg base "_law_right" 44 ["_law_pot_here"] [] (spT cls 1 m_right_) := cal_mk d_right_ X G g_right_ (fun _ _ _ _ _ _ us hl => match us, hl with | [_], _ => rfl) (fun q hq => nomatch hq)
  have c_rightG : Cal PySem.Challenge.pw_likestreets_k16_whole_divisors_of_minors w K mg base "_law_right" 44 ["_law_pot_here"] [] (spG cls 1 preR isTrue1) := cal_mk d_right_ X G (gok_TG g_right_ fun p xs hp => by obtain ⟨a, rfl, hp⟩ := hp; exact right_ok a p hp) (fun _ _ _ _ _ _ us hl => match us, hl with | [_], _ => rfl) (fun q hq => nomatch hq)
  exact ok_law d_law.F Z Gc ⟨c_rightG, c_pot_⟩ hK
end K16
open PySem PySem.W PyProof.Rows
set_option maxHeartbeats 0 in
theorem PySem.Challenge.cw_likestreets_k16_whole_divisors_of_minors_holds : PySem.Challenge.rw_likestreets_k16_whole_divisors_of_minors.Holds := by
  w_on; o_law; k_head; (case hw => w_witness2)
  k_fill
  refine Lk.walk_end0 (l := PySem.Challenge.rw_likestreets_k16_whole_divisors_of_minors) (k := 45) (x := "_law_script") rfl rfl ⟨rfl, by decide, by decide⟩ (fun w h Y => PySem.W.kIn_of Y) ?F
  case F =>
    intro w mg fa h KX G hmg
    have Z : Lk.Bt mg := by
      refine Lk.bt_mk KX G ?bz
      intro x hx
      rcases List.mem_cons.mp hx with rfl | hx
      · k_is
      rcases List.mem_cons.mp hx with rfl | hx
      · k_is
      rcases List.mem_cons.mp hx with rfl | hx
      · k_is
      rcases List.mem_cons.mp hx with rfl | hx
      · k_is
      rcases List.mem_cons.mp hx with rfl | hx
      · k_is
      rcases List.mem_cons.mp hx with rfl | hx
      · k_is
      rcases List.mem_cons.mp hx with rfl | hx
      · k_is
      rcases List.mem_cons.mp hx with rfl | hx
      · k_is
      rcases List.mem_cons.mp hx with rfl | hx
      · k_is
      rcases List.mem_cons.mp hx with rfl | hx
      · k_is
      rcases List.mem_cons.mp hx with rfl | hx
      · k_is
      rcases List.mem_cons.mp hx with rfl | hx
      · k_is
      rcases List.mem_cons.mp hx with rfl | hx
      · k_is
      rcases List.mem_cons.mp hx with rfl | hx
      · k_is
      rcases List.mem_cons.mp hx with rfl | hx
      · k_is
      rcases List.mem_cons.mp hx with rfl | hx
      · k_is
      rcases List.mem_cons.mp hx with rfl | hx
      · k_is
      rcases List.mem_cons.mp hx with rfl | hx
      · k_is
      rcases List.mem_cons.mp hx with rfl | hx
      · k_is
      rcases List.mem_cons.mp hx with rfl | hx
      · k_is
      cases hx
    have Gc : K16.Gcs mg := by
      refine' ⟨Lk.gc_mk KX G ?g_MOST_COLUMNS, PySem.W.mg_of KX G ?i_gcd⟩
      case g_MOST_COLUMNS => k_is
      case i_gcd => k_is
    refine' K16.all_mk KX G hmg Z Gc (Lk.df_mk ?a_is_integer ?l_is_integer ?c_is_integer ?k_is_integer) (Lk.df_mk ?a_is_list ?l_is_list ?c_is_list ?k_is_list) (Lk.df_mk ?a_taken ?l_taken ?c_taken ?k_taken) (Lk.df_mk ?a_places_among ?l_places_among ?c_places_among ?k_places_among) (Lk.df_mk ?a_pot_ ?l_pot_ ?c_pot_ ?k_pot_) (Lk.df_mk ?a_draw_ ?l_draw_ ?c_draw_ ?k_draw_) (Lk.df_mk ?a_common_ ?l_common_ ?c_common_ ?k_common_) (Lk.df_mk ?a_is_row ?l_is_row ?c_is_row ?k_is_row) (Lk.df_mk ?a_pick_ ?l_pick_ ?c_pick_ ?k_pick_) (Lk.df_mk ?a_passed_ ?l_passed_ ?c_passed_ ?k_passed_) (Lk.df_mk ?a_rows_ ?l_rows_ ?c_rows_ ?k_rows_) (Lk.df_mk ?a_are_rows ?l_are_rows ?c_are_rows ?k_are_rows) (Lk.df_mk ?a_determinant ?l_determinant ?c_determinant ?k_determinant) (Lk.df_mk ?a_minor_ ?l_minor_ ?c_minor_ ?k_minor_) (Lk.df_mk ?a_choices_ ?l_choices_ ?c_choices_ ?k_choices_) (Lk.df_mk ?a_divisor_of ?l_divisor_of ?c_divisor_of ?k_divisor_of) (Lk.df_mk ?a_divisor_ ?l_divisor_ ?c_divisor_ ?k_divisor_) (Lk.df_mk ?a_divisor ?l_divisor ?c_divisor ?k_divisor) (Lk.df_mk ?a_one_right_ ?l_one_right_ ?c_one_right_ ?k_one_right_) (Lk.df_mk ?a_right_ ?l_right_ ?c_right_ ?k_right_) (Lk.df_mk ?a_law ?l_law ?c_law ?k_law)
    (case a_is_integer => k_is); (case l_is_integer => k_is); (case c_is_integer => k_is); (case k_is_integer => k_is)
    (case a_is_list => k_is); (case l_is_list => k_is); (case c_is_list => k_is); (case k_is_list => k_is)
    (case a_taken => k_is); (case l_taken => k_is); (case c_taken => k_is); (case k_taken => k_is)
    (case a_places_among => k_is); (case l_places_among => k_is); (case c_places_among => k_is); (case k_places_among => k_is)
    (case a_pot_ => k_is); (case l_pot_ => k_is); (case c_pot_ => k_is); (case k_pot_ => k_is)
    (case a_draw_ => k_is); (case l_draw_ => k_is); (case c_draw_ => k_is); (case k_draw_ => k_is)
    (case a_common_ => k_is); (case l_common_ => k_is); (case c_common_ => k_is); (case k_common_ => k_is)
    (case a_is_row => k_is); (case l_is_row => k_is); (case c_is_row => k_is); (case k_is_row => k_is)
    (case a_pick_ => k_is); (case l_pick_ => k_is); (case c_pick_ => k_is); (case k_pick_ => k_is)
    (case a_passed_ => k_is); (case l_passed_ => k_is); (case c_passed_ => k_is); (case k_passed_ => k_is)
    (case a_rows_ => k_is); (case l_rows_ => k_is); (case c_rows_ => k_is); (case k_rows_ => k_is)
    (case a_are_rows => k_is); (case l_are_rows => k_is); (case c_are_rows => k_is); (case k_are_rows => k_is)
    (case a_determinant => k_is); (case l_determinant => k_is); (case c_determinant => k_is); (case k_determinant => k_is)
    (case a_minor_ => k_is); (case l_minor_ => k_is); (case c_minor_ => k_is); (case k_minor_ => k_is)
    (case a_choices_ => k_is); (case l_choices_ => k_is); (case c_choices_ => k_is); (case k_choices_ => k_is)
    (case a_divisor_of => k_is); (case l_divisor_of => k_is); (case c_divisor_of => k_is); (case k_divisor_of => k_is)
    (case a_divisor_ => k_is); (case l_divisor_ => k_is); (case c_divisor_ => k_is); (case k_divisor_ => k_is)
    (case a_divisor => k_is); (case l_divisor => k_is); (case c_divisor => k_is); (case k_divisor => k_is)
    (case a_one_right_ => k_is); (case l_one_right_ => k_is); (case c_one_right_ => k_is); (case k_one_right_ => k_is)
    (case a_right_ => k_is); (case l_right_ => k_is); (case c_right_ => k_is); (case k_right_ => k_is)
    (case a_law => k_is); (case l_law => k_is); (case c_law => k_is); (case k_law => k_is)
