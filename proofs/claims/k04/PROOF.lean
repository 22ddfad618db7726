import PyProof.Rows.All
import Wide.All
import OpenK.AllK
import Wide.FinOn
import HandS.ForMost
import HandS.ForExc
import HandS.Codes
import HandS.IsInst
import HandS.Zip
import HandS.Walk
import HandS.TupAny
import HandS.TupMul
import HandS.Conv
import HandS.Flow
import HandS.ExcInit
import HandS.SortOrd
import HandS.SortRule
import HandS.SortKw
import HandS.NamedTupSort
import KE.KDictPairs
import HandS.OwnEq
import HandS.Style
import PyProof.InstEq
import HandS.ExcField
import HandS.CallSlots
import HandS.More
import HandS.Lambda
import HandS.EndOwn
import HandS.NestedK
import HandS.Wide
import HandS.TupLen
import HandS.Defaults
import HandS.ExcIs
import PySem.Challenge.RW_budwright_k04_sums_too_wide
set_option Elab.async false
set_option linter.all false
set_option maxRecDepth 100000
namespace Bw
open PySem PySem.Spec PyProof.Rows L2
/-! ### a def that may be called, by its name -/
structure Cal (P : Program) (w : World) (K : PySem.W.Frag) (mg : Str → Option Value) (base : Heap) (CX : CXT) (k : Nat) (x : Str) (ps : List Str) (sp : Sp) : Prop where
  ex : ∃ (f : Addr) (fd : FuncData), FnOk P w K mg base CX k f fd ps sp ∧ mg x = some (.ref f) ∧ PySem.W.keepIn K (.ref f) = true ∧ Binds K fd ps []
section
variable {X : Cx} {x : Str} {ps : List Str} {sp : Sp} {k : Nat} {e : Expr} {es : List Expr} {p pos : Pos} {t : TA}
theorem pe_cal (C : Cal X.prog X.w X.K X.mg X.base CX0 k x ps sp) (hr : Room k X.A) (hg : Gl X x) (ha : PA X (e :: es) t) (hdb : (x == ("__debug__" : Str)) = false := by decide) (he : starEach (e :: es) X.env = (false, eval e X.env) :: starEach es X.env := by rfl)
    (hpl : (backTo pos (starEach es X.env)).any (·.1) = false := by rfl) : PE X (.Call (.Name x p) (e :: es) [] pos) (tCall sp [] E0 t) := by
  obtain ⟨f, fd, F, hm, hk, hb⟩ := C.ex
  exact pe_call F hr hg hm hk hb .nil pass0 ha hdb he hpl
end
/-! ### the rules with the written part named: within comprehensions the reading must not hang on the block -/
section
variable {X : Cx} {K : PySem.W.Frag}
def rTupOf (K : PySem.W.Frag) : List V → Hp → VK → Prop := fun xs H Q => ∃ p ys, xs = [V.ref p] ∧ ((SqL K H p ys ∧ ∀ l, H l = none → Q (.ref l) (upd H l (.tup ys))) ∨ (SqT K H p ys ∧ Q (.ref p) H))
def rLstOf (K : PySem.W.Frag) : List V → Hp → VK → Prop := fun xs H Q => ∃ p ys, xs = [V.ref p] ∧ (SqL K H p ys ∨ SqT K H p ys) ∧ ∀ l, H l = none → Q (.ref l) (upd H l (.lst ys))
def rLenOf (K : PySem.W.Frag) : List V → Hp → VK → Prop := fun xs H Q => ∃ p ys, xs = [V.ref p] ∧ (SqL K H p ys ∨ SqT K H p ys) ∧ Q (.int ys.length) H
theorem c_tup (h : X.K = K := by rfl) : CallR X (.type "tuple") (rTupOf K) := by
  subst h
  exact call_tuple_of
theorem c_lst (h : X.K = K := by rfl) : CallR X (.type "list") (rLstOf K) := by
  subst h
  exact call_list_of
theorem c_len (h : X.K = K := by rfl) : CallR X (.builtin "len") (rLenOf K) := by
  subst h
  exact call_len_seq
theorem c_isi (h : X.K = K := by rfl) : CallR X (.builtin "isinstance") (rIsi K) := by
  subst h
  exact call_isi
theorem c_isiT (h : X.K = K := by rfl) : CallR X (.builtin "isinstance") (rIsiT K) := by
  subst h
  exact call_isiT
theorem c_all (hc : X.calm = true) (h : X.K = K := by rfl) : CallR X (.builtin "all") (rAll K) := by
  subst h
  exact cr_all hc
theorem c_any (hc : X.calm = true) (h : X.K = K := by rfl) : CallR X (.builtin "any") (rAny K) := by
  subst h
  exact cr_any hc
theorem i_list (h : X.K = K := by rfl) : IxR X (rIxL K) := by
  subst h
  exact ix_list
theorem i_tup (h : X.K = K := by rfl) : IxR X (rIxT K) := by
  subst h
  exact ix_tup
theorem l_list (h : X.K = K := by rfl) : SlR X (rSlL K) := by
  subst h
  exact sl_list
theorem l_tup (h : X.K = K := by rfl) : SlR X (rSlA K) := by
  subst h
  exact sl_tupA
theorem o_cat (h : X.K = K := by rfl) : OpR X (binaryOp .Add) (rCatA K) := by
  subst h
  exact op_catA
theorem o_in (h : X.K = K := by rfl) : OpR X (compareOp .In) (rIn K false) := by
  subst h
  exact op_in_seq
theorem o_notin (h : X.K = K := by rfl) : OpR X (compareOp .NotIn) (rIn K true) := by
  subst h
  exact op_notIn_seq
theorem p_list {tg l : Expr} {tl : TE} (hl : PE X l tl) (h : X.K = K := by rfl) : PI X tg l (iList K tl) := by
  subst h
  exact pi_list hl
theorem p_tup {tg l : Expr} {tl : TE} (hl : PE X l tl) (h : X.K = K := by rfl) : PI X tg l (iTup K tl) := by
  subst h
  exact pi_tup hl
theorem g_tup {es : List Expr} {k : Nat} {t : TGs} {n : Nat} {pos : Pos} (hc : X.calm = true) (h : PGs X es t) (hn : (assignEach es X.env).length = n := by rfl) (hst : (assignEach es X.env).findIdx? (·.1) = none := by rfl) (hK : X.K = K := by rfl) : PG X (.Tuple es k pos) (gTup K n t) := by
  subst hK
  exact pg_tup hc h hn hst
theorem pe_gint {x : Str} {pos : Pos} {i : Int} (hg : Gl X x) (hm : ∃ t, X.mg x = some (.int i t)) (hdb : (x == ("__debug__" : Str)) = false := by decide) : PE X (.Name x pos) (tC (.int i)) := by
  obtain ⟨t, hm⟩ := hm
  exact pe_glob hg hm ⟨t, rfl⟩ (hd := hdb)
end
/-! ### heaps -/
theorem same_upd {H : Hp} {p : Addr} {o : HO} (h : H p = none) : Same H (upd H p o) := fun b x e => by
  rw [upd_ne (ne_of_none e h)]
  exact e
/-- all but what stands at f is as it was -/
def SameBut (f : Addr) (H H' : Hp) : Prop := ∀ b o, b ≠ f → H b = some o → H' b = some o
theorem SameBut.refl (f : Addr) (H : Hp) : SameBut f H H := fun _ _ _ h => h
theorem SameBut.trans {f : Addr} {H H1 H2 : Hp} (a : SameBut f H H1) (b : SameBut f H1 H2) : SameBut f H H2 := fun c o n h => b c o n (a c o n h)
theorem SameBut.upd {f : Addr} {H H1 : Hp} {o : HO} (a : SameBut f H H1) : SameBut f H (upd H1 f o) := fun c o n h => by
  rw [upd_ne n]
  exact a c o n h
theorem SameBut.new {f p : Addr} {H H1 : Hp} {o : HO} (a : SameBut f H H1) (h : H1 p = none) : SameBut f H (L2.upd H1 p o) := fun c o n q => by
  have z := a c o n q
  rw [upd_ne (ne_of_none z h)]
  exact z
theorem _root_.L2.Same.but {f : Addr} {H H1 : Hp} (a : Same H H1) : SameBut f H H1 := fun c o _ h => a c o h
theorem SameBut.same {f : Addr} {H0 H H1 : Hp} (a : SameBut f H H1) (h : H0 f = none) (s : Same H0 H) : Same H0 H1 := fun c o q => a c o (ne_of_none q h) (s c o q)
/-! ### what the law draws from -/
def FeedAt (H : Hp) (f l : Addr) : Prop := ∃ (ns : List Int) (i : Nat) (n m c : Int), l ≠ f ∧ H f = some (.lst [.ref l, .int i, .int n, .int m, .int c]) ∧ H l = some (.lst (ns.map V.int)) ∧ i ≤ ns.length ∧ 0 ≤ n ∧ 0 ≤ m ∧ m < 2147483647
theorem FeedAt.same {H H' : Hp} {f l : Addr} (s : Same H H') (h : FeedAt H f l) : FeedAt H' f l := by
  obtain ⟨ns, i, n, m, c, a, b, d, r⟩ := h
  exact ⟨ns, i, n, m, c, a, s _ _ b, s _ _ d, r⟩
theorem FeedAt.put {H : Hp} {f l b : Addr} {o : HO} (h : FeedAt H f l) (n1 : b ≠ f) (n2 : b ≠ l) : FeedAt (upd H b o) f l := by
  obtain ⟨ns, i, n, m, c, a, b', d, r⟩ := h
  exact ⟨ns, i, n, m, c, a, by rw [upd_ne (Ne.symm n1)]; exact b', by rw [upd_ne (Ne.symm n2)]; exact d, r⟩
theorem FeedAt.ne {H : Hp} {f l p : Addr} (h : FeedAt H f l) (n : H p = none) : p ≠ f := by
  obtain ⟨_, _, _, _, _, _, b, _⟩ := h
  exact Ne.symm (ne_of_none b n)
theorem FeedAt.ne2 {H : Hp} {f l p : Addr} (h : FeedAt H f l) (n : H p = none) : p ≠ l := by
  obtain ⟨_, _, _, _, _, _, _, d, _⟩ := h
  exact Ne.symm (ne_of_none d n)
theorem FeedAt.tup {H : Hp} {f l p : Addr} {xs : List V} (h : FeedAt H f l) (n : H p = some (.tup xs)) : p ≠ f := by
  obtain ⟨_, _, _, _, _, _, b, _⟩ := h
  exact ne_of n b (by intro z; cases z)
theorem SameBut.updN {f b : Addr} {H H1 : Hp} {o : HO} (a : SameBut f H H1) (h : H b = none) : SameBut f H (L2.upd H1 b o) := fun c o n q => by
  rw [upd_ne (ne_of_none q h)]
  exact a c o n q
theorem int_at {ns : List Int} {i : Nat} {y : V} (h : (ns.map V.int)[i]? = some y) : ∃ u, ns[i]? = some u ∧ y = .int u := by
  rw [List.getElem?_map] at h
  cases e : ns[i]? with
  | none =>
    rw [e] at h
    cases h
  | some u =>
    rw [e] at h
    exact ⟨u, rfl, (Option.some.inj h).symm⟩
end Bw
set_option Elab.async false
set_option linter.all false
set_option maxRecDepth 100000
set_option maxHeartbeats 4000000
namespace Bw
open PySem PySem.Spec PyProof.Rows L2
theorem tuple_mul1 (l : Addr) (items : Array Value) (n : Nat) (dd : Option Addr) (sl : Array (Option Value)) (u : Tok) :
    Meets (Builtin.«tuple.__mul__» ⟨[.ref l, .int 1 u], []⟩) (fun _ R s => s.heap.get? l = some { cls := .type "tuple", dict := dd, data := .seq items n, slots := sl } ∧ R (.ok (.ret (Value.ref l))) s) :=
  .of_wp fun prog w A R s h => by
    obtain ⟨hp, g, d, tk, os⟩ := s
    obtain ⟨hl, h⟩ := h
    have f1 := AutoSeq1.idx_int
    have c1 : (items.isEmpty || (1 : Int) == 1) = true := by simp
    wp_walk using wpAny_loadPart' hl
    repeat (first
      | (refine wpAny_ite_true (decide_eq_true c1) ?_; wp_walk using wpAny_loadPart' hl)
      | (refine wpAny_ite_false (by decide) ?_; wp_walk using wpAny_loadPart' hl))
    exact ⟨_, rfl, h⟩
/-- t * k, k from 1 on -/
def rRep1 (K : PySem.W.Frag) : R2 := fun x y H Q => ∃ l k xs, x = .ref l ∧ y = .int k ∧ SqT K H l xs ∧ xs ≠ [] ∧ 1 ≤ k ∧ k ≤ 1000 ∧ xs.length ≤ 1000 ∧ (k = 1 → Q (.ref l) H) ∧ (2 ≤ k → ∀ p, H p = none → Q (.ref p) (upd H p (.tup (List.replicate k.toNat xs).flatten)))
theorem o_rep {X : Cx} {K : PySem.W.Frag} (hK : X.K = K := by rfl) : OpR X (binaryOp .Mult) (rRep1 K) := by
  subst hK
  intro pins s σ H x y v u Q I rx ry h
  obtain ⟨l, k, xs, rfl, rfl, hT, hne, h1, h2, hz, q1, q2⟩ := h
  by_cases hk : k = 1
  · subst hk
    cases rx
    obtain ⟨t, rfl⟩ := ry
    obtain ⟨its, r, ⟨⟨cls, dd, data, sl⟩, ho, hc, n, hd⟩, hs⟩ := I.tuple hT
    simp only at hc hd
    subst hc hd
    refine wpAny_binaryOp_repeat_ref (T := "tuple") (U := "int") (by decide) ⟨_, ho, rfl⟩ (fun s' => typeIs_int s' 1 t) noFill_tuple_mul F.fills_int_mul F.slot_int_rmul repeat_tuple F.slot_int_index.lookup
      (call_meets F.slot_int_rmul (typeIs_int s 1 t) F.entry_int_rmul (F.args_int_rmul_2 _ _) (int_rmul_tuple 1 t l its.toArray n dd sl)
        ⟨ho, rfl, ⟨_, ho, rfl⟩, call_meets F.slot_tuple_mul ⟨_, ho, rfl⟩ F.entry_tuple_mul (F.args_tuple_mul_2 _ _) (tuple_mul1 l its.toArray n dd sl t) ⟨ho, ?_⟩⟩)
    exact ⟨.ref l, H, I, rfl, q1 rfl⟩
  · exact op_repT pins s σ H _ _ v u Q I rx ry ⟨l, k, xs, rfl, rfl, hT, hne, by omega, h2, hz, q2 (by omega)⟩
end Bw
set_option Elab.async false
set_option linter.all false
set_option maxRecDepth 100000
set_option maxHeartbeats 4000000
namespace Bw
open PySem PySem.Spec PyProof.Rows L2
/-! ### tuples of ints in order -/
def IsTupI (h : Heap) (v : Value) (p : List Int) : Prop := ∃ a o its n, v = .ref a ∧ h.get? a = some o ∧ o.cls = .type "tuple" ∧ o.data = .seq its n ∧ IntsAre its.toList p
theorem IsTupI.keeps {h h' : Heap} {v : Value} {p : List Int} (x : IsTupI h v p) (k : ∀ b o, h.get? b = some o → o.cls = .type "tuple" → h'.get? b = some o) : IsTupI h' v p := by
  obtain ⟨a, o, its, n, e, ho, hc, hd, hi⟩ := x
  exact ⟨a, o, its, n, e, k _ _ ho hc, hc, hd, hi⟩
section
variable {prog : Program} {w : World} {A : Around} {s : Shared}
theorem kat_ints {b : Bool} {Q : Bool → Shared → Prop} : ∀ {ps : List Value} {p : List Int}, IntsAre ps p → ∀ {qs : List Value} {q : List Int}, IntsAre qs q → ∀ (i : Nat) (fin : Bool), fin = decide (ps.length < qs.length) → Q (HT.lexLt p q) s → PySem.W.KatLex prog w A b fin Q (ps.zip qs) i s
  | _, _, .nil, _, _, .nil, i, fin, hf, hq => by
    subst hf
    exact PySem.W.kat_nil hq
  | _, _, .nil, _, _, .cons _ _ _, i, fin, hf, hq => by
    have e : fin = true := by
      rw [hf]
      exact decide_eq_true (by rw [List.length_cons]; exact Nat.succ_pos _)
    subst e
    exact PySem.W.kat_nil hq
  | _, _, .cons _ _ _, _, _, .nil, i, fin, hf, hq => by
    have e : fin = false := by
      rw [hf]
      exact decide_eq_false (by rw [List.length_nil]; omega)
    subst e
    exact PySem.W.kat_nil hq
  | _, _, .cons x t r, _, _, .cons y u r', i, fin, hf, hq => by
    rw [List.zip_cons_cons]
    refine PySem.W.kat_cons (SeqAt.EqAt.int_int _ _ _ _ prog w _ _ ?_)
    rw [HT.lexLt_cons] at hq
    refine PySem.W.kat_go (fun e1 => ?_) (fun e1 => ?_)
    · have ex : x = y := by simpa using e1
      rw [if_pos ex] at hq
      exact PySem.W.kat_yes (kat_ints r r' (i + 1) fin (by rw [hf, List.length_cons, List.length_cons]; congr 1; simp) hq)
    · have ex : ¬ x = y := by simpa using e1
      rw [if_neg ex] at hq
      exact PySem.W.kat_no (TS.oneLt_ints _ hq)
theorem tup_cmp {vs : List Value} {k : Value → List Int} (hp : ∀ v ∈ vs, IsTupI s.heap v (k v)) : SrtO.Cmp prog w A s (tuples' true) (fun p => p.1 ∈ vs) (SrtO.lt2 fun v u => HT.lexLt (k v) (k u)) := by
  intro p q hm hm'
  obtain ⟨a, o, its, n, e, ho, hc, hd, hi⟩ := hp _ hm
  obtain ⟨a', o', its', n', e', ho', hc', hd', hi'⟩ := hp _ hm'
  show wpAny (model prog w) A (keyLt' (tuples' true) p.1 q.1) (fun r s' => s' = s ∧ r = HT.lexLt (k p.1) (k q.1)) (fun _ _ => False) s
  generalize k p.1 = x at hi ⊢
  generalize k q.1 = y at hi' ⊢
  rw [e, e']
  exact PySem.W.kat_lt ho hd ho' hd' (kat_ints hi hi' 0 _ (by rw [Array.length_toList, Array.length_toList]) ⟨rfl, rfl⟩)
theorem firsts_tup {h : Heap} : ∀ {vs : List Value}, (∀ v ∈ vs, ∃ x p, IsTupI h v (x :: p)) → ∃ fs : List Value, PySem.W.KatTups h vs fs ∧ fs.length = vs.length ∧ ∀ f ∈ fs, ∃ x t, f = Value.int x t
  | [], _ => ⟨[], PySem.W.KatTups.nil, rfl, fun _ hm => by simp at hm⟩
  | v :: vs, hp => by
    obtain ⟨fs, h1, h2, h3⟩ := firsts_tup (vs := vs) fun v' hm => hp v' (List.mem_cons_of_mem _ hm)
    obtain ⟨x, p, a, o, its, n, e, ho, hc, hd, hi⟩ := hp v (List.mem_cons_self ..)
    subst e
    cases hl : its.toList with
    | nil =>
      rw [hl] at hi
      cases hi
    | cons f r =>
      rw [hl] at hi
      cases hi with
      | cons _ t hr =>
        refine ⟨.int x t :: fs, PySem.W.KatTups.cons ho hc hd (by rw [← Array.getElem?_toList, hl]; rfl) h1, by rw [List.length_cons, List.length_cons, h2], fun g hg => ?_⟩
        rcases List.mem_cons.mp hg with rfl | hg
        · exact ⟨x, t, rfl⟩
        · exact h3 g hg
theorem tups_sortable {a : Addr} {vs : List Value} {k : Value → List Int} (h0 : 0 < vs.length) (hp : ∀ v ∈ vs, IsTupI s.heap v (k v)) (hne : ∀ v ∈ vs, k v ≠ []) (ha : ∀ o, s.heap.get? a = some o → o.cls ≠ .type "tuple") : SrtO.SortableO prog w A s a vs fun v u => HT.lexLt (k v) (k u) := by
  intro h' keep
  have hp' : ∀ v ∈ vs, IsTupI h' v (k v) := fun v hm => (hp v hm).keeps fun b o e c => keep b o (fun z => by subst z; exact ha o e c) e
  obtain ⟨fs, h1, h2, h3⟩ := firsts_tup fun v hm => by
    have x := hp' v hm
    cases e : k v with
    | nil => exact absurd e (hne v hm)
    | cons y p =>
      rw [e] at x
      exact ⟨y, p, x⟩
  refine ⟨tuples' true, fun Q E hq => ?_, tup_cmp hp'⟩
  have e0 : (Value.type "int" != Value.type "tuple") = true := by decide +kernel
  refine PySem.W.kat_kind (T := .type "int") h1 (by rw [h2]; exact h0) (fun g hg => ?_) rfl (by rw [e0]; exact hq)
  obtain ⟨x, t, rfl⟩ := h3 g hg
  exact PySem.W.Looks.now
end
/-! ### as rules of the layer -/
def unInt : V → Int
  | .int i => i
  | _ => 0
def unRef : Value → Addr
  | .ref a => a
  | _ => 0
/-- the ints of the tuple at b -/
def keyOf (H : Hp) (b : Addr) : List Int := match H b with
  | some (.tup xs) => xs.map unInt
  | _ => []
theorem keyOf_at {H : Hp} {b : Addr} {q : List Int} (h : H b = some (.tup (q.map V.int))) : keyOf H b = q := by
  unfold keyOf
  rw [h]
  show (q.map V.int).map unInt = q
  rw [List.map_map]
  have e : unInt ∘ V.int = id := rfl
  rw [e, List.map_id]
theorem unRef_map : ∀ {us : List Value} {ts : List Addr}, us = ts.map Value.ref → us.map unRef = ts
  | _, ts, rfl => by
    rw [List.map_map]
    have e : unRef ∘ Value.ref = id := rfl
    rw [e, List.map_id]
theorem ref_map : ∀ {us : List Value} {ts : List Addr}, (∀ u ∈ us, u ∈ ts.map Value.ref) → us = (us.map unRef).map Value.ref
  | [], _, _ => rfl
  | u :: us, ts, h => by
    obtain ⟨t, _, e⟩ := List.mem_map.mp (h u (List.mem_cons_self ..))
    subst e
    show _ = Value.ref t :: (us.map unRef).map Value.ref
    rw [← ref_map (ts := ts) fun v hv => h v (List.mem_cons_of_mem _ hv)]
section
variable {X : Cx}
theorem tupI_of {pins : List (Addr × Obj)} {s : Shared} {σ : L2.St} {H : Hp} (I : L2.Inv X pins σ H s) {t : Addr} {q : List Int} (ht : H t = some (.tup (q.map V.int))) : IsTupI s.heap (.ref t) (keyOf H t) := by
  rw [keyOf_at ht]
  obtain ⟨_, its2, r2, o, ho, hc, n, hd⟩ := I.hok _ _ ht
  exact ⟨t, o, _, n, rfl, ho, hc, hd, r2.ints⟩
/-- sorted(xs), a list of tuples of ints: rising -/
def rSortTI (K : PySem.W.Frag) : List V → Hp → VK → Prop := fun vs H Q => ∃ (a : Addr) (ts : List Addr), vs = [V.ref a] ∧ SqL K H a (ts.map V.ref) ∧ (∀ t ∈ ts, ∃ q : List Int, H t = some (.tup (q.map V.int))) ∧ (2 ≤ ts.length → ∀ t ∈ ts, keyOf H t ≠ []) ∧
  ∀ (ts' : List Addr) (p : Addr), ts'.Perm ts → ts'.Pairwise (fun x y => HT.lexLt (keyOf H y) (keyOf H x) = false) → H p = none → Q (.ref p) (upd H p (.lst (ts'.map V.ref)))
theorem cr_sortTI {K : PySem.W.Frag} (hK : X.K = K := by rfl) : CallR X (.builtin "sorted") (rSortTI K) := by
  subst hK
  intro pins s σ H vs us Q I r h
  obtain ⟨a, ts, rfl, hs, hx, hne, q⟩ := h
  obtain ⟨its, rv, hl, hz⟩ := I.list hs
  obtain ⟨u, rfl, ru⟩ := vals1 r
  obtain rfl : u = Value.ref a := ru
  have ei := refs_at rv
  have lz : its.length ≤ sizeLine := by
    rw [← rv.length]
    exact hz
  have hk : ∀ (h₁ : Heap), (∀ b o, s.heap.get? b = some o → h₁.get? b = some o) → ∀ v ∈ its, IsTupI h₁ v (keyOf H (unRef v)) := fun h₁ kk v hv => by
    rw [ei] at hv
    obtain ⟨t, ht, rfl⟩ := List.mem_map.mp hv
    obtain ⟨q', hq'⟩ := hx t ht
    exact (tupI_of I hq').keeps fun b o e _ => kk b o e
  refine SrtO.sorted_ord (NtL.swo_lexL fun v => keyOf H (unRef v)) hl.isList lz (fun h2 h₁ a' ha kk => ?_) fun out hs hb => ?_
  · refine tups_sortable (s := { s with heap := h₁ }) (by omega) (hk h₁ fun b o e => (kk b o e).2) (fun v hv => ?_) fun o e => ?_
    · rw [ei] at hv h2
      obtain ⟨t, ht, rfl⟩ := List.mem_map.mp hv
      rw [List.length_map] at h2
      exact hne h2 t ht
    · have e' : some o = some (seqObj "list" its.toArray 0) := e.symm.trans ha
      cases e'
      intro c
      exact absurd (Value.type.inj c) (by decide)
  · have hm : ∀ u ∈ out, u ∈ ts.map Value.ref := fun u hu => by
      rw [← ei]
      exact hb.perm.mem_iff.mp hu
    have eo := ref_map hm
    have hp : (out.map unRef).Perm ts := by
      have z := hb.perm.map unRef
      rw [unRef_map ei] at z
      exact z
    obtain ⟨n, hn⟩ := PyProof.Rows.sortedAll_at s.heap its out.toArray
    refine ⟨.ref (s.heap.objs.size + 1), upd H (s.heap.objs.size + 1) (.lst ((out.map unRef).map V.ref)), I.laid (t' := s.toks) (fun b o e => PyProof.Rows.sortedAll_old e) (Nat.le_succ _) ⟨?_, out, n, ?_, hn⟩, rfl, q _ _ hp (List.pairwise_map.mpr hs) (I.hok.fresh (Nat.le_succ _))⟩
    · rw [List.length_map, hp.length_eq, ← List.length_map (f := V.ref)]
      exact hz
    · have z := vals_refs (out.map unRef)
      rw [← eo] at z
      exact z
/-- the key tuples of a dict, as they are collected -/
theorem acc_keys {P : Program} {w : World} {es : Array DictEntry} {ks : List (List Key × Addr × Value)} {acc : Array Value} (he : es.toList = ks.map (entryOfKey (tupleKind (mixKind P w)))) (it : ItemsOf (fun i v => ∃ en : DictEntry, es[i]? = some en ∧ v = en.key) acc es.size) :
    acc.toList = (ks.map fun x => x.2.1).map Value.ref := by
  have l1 : es.size = ks.length := size_of_entries he
  apply List.ext_getElem?
  intro j
  rw [List.getElem?_map, List.getElem?_map]
  cases hj : acc.toList[j]? with
  | none =>
    have h1 := List.getElem?_eq_none_iff.mp hj
    rw [Array.length_toList, it.1] at h1
    rw [List.getElem?_eq_none (show ks.length ≤ j by omega)]
    rfl
  | some v =>
    obtain ⟨en, hen, hv⟩ := it.2 j v (by rw [← Array.getElem?_toList]; exact hj)
    have qe := entry_at he j
    rw [hen] at qe
    cases hb : ks[j]? with
    | none =>
      rw [hb] at qe
      cases qe
    | some b =>
      rw [hb] at qe
      have e2 := Option.some.inj qe
      rw [hv, e2]
      rfl
/-- the keys of a dict, tuples of ints -/
def KeysI (kvs : List (List Key × V)) (ps : List (List Int)) : Prop := kvs.map (·.1) = ps.map (List.map Sum.inl)
/-- sorted(d, reverse=True), a dict whose keys are tuples of ints: falling -/
def rSortDT : List V → List V → Hp → VK → Prop := fun vs zs H Q => ∃ (d : Addr) (kvs : List (List Key × V)) (ps : List (List Int)), vs = [V.ref d] ∧ zs = [.bl true] ∧ Rd H d (.dT kvs) ∧ KeysI kvs ps ∧ (2 ≤ ps.length → ∀ q ∈ ps, q ≠ []) ∧
  ∀ (bs : List Addr) (p : Addr), (∀ b ∈ bs, ∃ q : List Int, H b = some (.tup (q.map V.int))) → (bs.map (keyOf H)).Perm ps → bs.Pairwise (fun x y => HT.lexLt (keyOf H x) (keyOf H y) = false) → H p = none → Q (.ref p) (upd H p (.lst (bs.map V.ref)))
theorem keys_kt {H : Hp} : ∀ {kvs : List (List Key × V)} {ks : List (List Key × Addr × Value)} {ps : List (List Int)}, KT H kvs ks → KeysI kvs ps → (∀ b ∈ ks.map (fun x => x.2.1), ∃ q : List Int, H b = some (.tup (q.map V.int))) ∧ (ks.map fun x => x.2.1).map (keyOf H) = ps
  | _, _, ps, .nil, h => by
    cases ps with
    | nil => exact ⟨fun b hb => by simp at hb, rfl⟩
    | cons q ps => cases h
  | _, _, ps, .cons (a := kv) (b := x) hx t, h => by
    cases ps with
    | nil => cases h
    | cons q ps =>
      have h' : kv.1 :: _ = q.map Sum.inl :: ps.map (List.map Sum.inl) := h
      obtain ⟨e1, e2⟩ := List.cons.inj h'
      obtain ⟨i1, i2⟩ := keys_kt t e2
      have hq : H x.2.1 = some (.tup (q.map V.int)) := by
        rw [hx.2.1, e1, List.map_map]
        rfl
      refine ⟨fun b hb => ?_, ?_⟩
      · rcases List.mem_cons.mp hb with rfl | hb
        · exact ⟨q, hq⟩
        · exact i1 b hb
      · show keyOf H x.2.1 :: _ = q :: ps
        rw [keyOf_at hq, i2]
theorem cr_sortDT (hc : X.calm = true) : CallRK X (.builtin "sorted") [Str.ofString "reverse"] rSortDT := by
  intro pins s σ H vs zs us ws Q I r rz h
  obtain ⟨d, kvs, ps, rfl, rfl, hd, hK, hne, q⟩ := h
  obtain rfl := Vals.ref1 r
  obtain ⟨w1, rfl, e1⟩ := vals1 rz
  obtain rfl : w1 = Value.bool true := e1
  obtain ⟨z, hs, ks, pr, o, es, ep, ho, hx, hdt, he, hn⟩ := (show ObjOk X.prog X.w H s.heap d (.dT kvs) from hd.ok I.hok)
  have l1 : es.size = ks.length := size_of_entries he
  have l2 : kvs.length = ks.length := Paired.length pr
  obtain ⟨k1, k2⟩ := keys_kt pr hK
  have l3 : ks.length = ps.length := by
    rw [← k2, List.length_map, List.length_map]
  show wpAny (model X.prog X.w) X.A (call (.builtin "sorted") [.ref d] [(Str.ofString "reverse", .bool true)]) _ _ _
  refine PyProof.Rows.call_function_entry_kw PyProof.Rows.kind_sorted PyProof.Rows.plain_sorted PyProof.Rows.entry_sorted (PyProof.Rows.args_sorted_rev _ _) ?_
  unfold Builtin.«sorted»
  refine wpAny_bind (m := checkCount "sorted" 1 1 _) (wpAny_pure ?_)
  refine wpAny_bind (PySem.W.kdu_collect (A := X.A.in1) (kdl_raw hs hx hdt) (I.ok.hd hc) ho (by omega) fun h' tk acc hk hacc => ?_)
  have ea := acc_keys he hacc
  generalize (ks.map fun x => x.2.1) = ts at ea k1 k2
  have I1 : Inv X pins σ H { s with heap := h', toks := tk } := I.kept hk
  have lts : ts.length = ps.length := by
    rw [← k2, List.length_map]
  have lz : acc.toList.length ≤ sizeLine := by
    rw [ea, List.length_map]
    omega
  refine wpAny_bind (wpAny_newList ?_ lz)
  have hoL : (h'.push (seqObj "list" acc.toList.toArray 0)).get? h'.objs.size = some (seqObj "list" acc.toList.toArray 0) := Heap.get?_push_size _ rfl
  show wpAny _ _ _ _ _ { s with heap := h'.push (seqObj "list" acc.toList.toArray 0), toks := tk }
  have kp : ∀ b o, h'.get? b = some o → b ≠ h'.objs.size ∧ (h'.push (seqObj "list" acc.toList.toArray 0)).get? b = some o := fun b o e => ⟨Nat.ne_of_lt (Heap.lt_size e), Heap.get?_push_of_some _ e⟩
  refine wpAny_bind (wpAny_holding (wpAny_call_entry_kw PyProof.Rows.slot_list_sort ⟨_, hoL, rfl⟩ PyProof.Rows.entry_list_sort (SrtR.list_sort_ordR (b := true) (s := { s with heap := h'.push (seqObj "list" acc.toList.toArray 0), toks := tk }) (NtL.swo_lexL fun v => keyOf H (unRef v)) hoL lz (fun h2 => ?_) fun out g1 g2 => ⟨_, rfl, ?_⟩) (PyProof.Rows.args_list_sort_rev _ _)))
  · refine tups_sortable (s := { s with heap := h'.push (seqObj "list" acc.toList.toArray 0), toks := tk }) (by omega) (fun v hv => ?_) (fun v hv => ?_) fun o e => ?_
    · rw [ea] at hv
      obtain ⟨t, ht, rfl⟩ := List.mem_map.mp hv
      obtain ⟨q', hq'⟩ := k1 t ht
      exact (tupI_of I1 hq').keeps fun b o e _ => (kp b o e).2
    · rw [ea] at hv
      obtain ⟨t, ht, rfl⟩ := List.mem_map.mp hv
      rw [ea, List.length_map, lts] at h2
      refine hne h2 _ ?_
      rw [← k2]
      exact List.mem_map.mpr ⟨t, ht, rfl⟩
    · have e' : some o = some (seqObj "list" acc.toList.toArray 0) := e.symm.trans hoL
      cases e'
      intro c
      exact absurd (Value.type.inj c) (by decide)
  · rw [if_pos rfl] at g2
    have hm : ∀ u ∈ out, u ∈ ts.map Value.ref := fun u hu => by
      rw [← ea]
      exact List.mem_reverse.mp (g2.perm.mem_iff.mp hu)
    have eo := ref_map hm
    have hp : (out.map unRef).Perm ts := by
      have z := (g2.perm.trans (List.reverse_perm _)).map unRef
      rw [unRef_map ea] at z
      exact z
    obtain ⟨n, hn'⟩ := PyProof.Rows.sortedHeap_at (vs := acc.toList) (out := out.toArray.reverse) hoL
    have er : (out.toArray.reverse) = (out.reverse).toArray := by simp
    refine wpAny_pure ⟨_, rfl, .ref h'.objs.size, upd H h'.objs.size (.lst ((out.map unRef).reverse.map V.ref)), I1.laid (t' := tk) (fun b u e => ?_) (Nat.le_refl _) ⟨?_, out.reverse, n, ?_, ?_⟩, rfl, q _ _ (fun b hb => k1 b (hp.mem_iff.mp (List.mem_reverse.mp hb))) ?_ ?_ (I1.hok.fresh (Nat.le_refl _))⟩
    · have hb : b < h'.objs.size := Heap.lt_size e
      rw [if_pos rfl, PyProof.Rows.sortedHeap_old (Nat.ne_of_lt hb) (by rw [size_push']; exact Nat.lt_succ_of_lt hb)]
      exact Heap.get?_push_of_some _ e
    · rw [List.length_map, List.length_reverse, hp.length_eq]
      omega
    · have z := vals_refs (out.map unRef).reverse
      rw [List.map_reverse, List.map_reverse, ← eo] at z
      rw [List.map_reverse]
      exact z
    · rw [if_pos rfl, ← er]
      exact hn'
    · rw [← k2]
      exact ((List.reverse_perm _).trans hp).map (keyOf H)
    · rw [List.pairwise_reverse]
      exact List.pairwise_map.mpr g1
end
end Bw
set_option Elab.async false
set_option linter.all false
set_option maxRecDepth 100000
set_option maxHeartbeats 4000000
namespace Bw
open PySem PySem.Spec PyProof.Rows L2
def mergeT (kvs more : List (List Key × V)) : List (List Key × V) := more.foldl (fun acc kv => putK acc kv.1 kv.2) kvs
/-- dict(xs), a list of pairs (key, value), the keys tuples: later ones win, at the first one's place -/
def rDictPT (K : PySem.W.Frag) : List V → Hp → VK → Prop := fun vs H Q => ∃ (a : Addr) (ts : List Addr) (its : List (List Key × Addr × V)), vs = [V.ref a] ∧ SqL K H a (ts.map V.ref) ∧
  Paired (fun t (x : List Key × Addr × V) => H t = some (.tup [.ref x.2.1, x.2.2]) ∧ H x.2.1 = some (.tup (x.1.map kV))) ts its ∧ ∀ p, H p = none → Q (.ref p) (upd H p (.dT (mergeT [] (its.map fun x => (x.1, x.2.2)))))
section
variable {X : Cx} {pins : List (Addr × Obj)} {s : Shared} {σ : L2.St} {H : Hp}
theorem pairsT_of (I : L2.Inv X pins σ H s) : ∀ {ts : List Addr} {its : List (List Key × Addr × V)}, Paired (fun t (x : List Key × Addr × V) => H t = some (.tup [.ref x.2.1, x.2.2]) ∧ H x.2.1 = some (.tup (x.1.map kV))) ts its →
    ∃ ps : List (List Key × Addr × Value), Paired (fun (x : List Key × Addr × V) (q : List Key × Addr × Value) => x.1 = q.1 ∧ H q.2.1 = some (.tup (q.1.map kV)) ∧ RelV x.2.2 q.2.2) its ps ∧ ps.length = ts.length ∧
      ∀ (j : Nat) (q : List Key × Addr × Value), ps[j]? = some q → ∃ t, ts[j]? = some t ∧ s.heap.IsTuple t #[.ref q.2.1, q.2.2]
  | _, _, .nil => ⟨[], .nil, rfl, fun j q e => by simp at e⟩
  | _, _, .cons (a := t) (b := x) h r => by
    obtain ⟨ps, r1, hl, hp⟩ := pairsT_of I r
    obtain ⟨_, us, rv, hT⟩ := I.hok _ _ h.1
    obtain ⟨u1, u2, rfl, e1, e2⟩ := vals2 rv
    obtain rfl : u1 = Value.ref x.2.1 := e1
    refine ⟨(x.1, x.2.1, u2) :: ps, .cons ⟨rfl, h.2, e2⟩ r1, by rw [List.length_cons, List.length_cons, hl], fun j q e => ?_⟩
    cases j with
    | zero =>
      cases (Option.some.inj e)
      exact ⟨t, rfl, hT⟩
    | succ j => exact hp j q e
theorem kt_merge {H' : Hp} : ∀ {its : List (List Key × Addr × V)} {ps : List (List Key × Addr × Value)} {kvs : List (List Key × V)} {xs : List (List Key × Addr × Value)}, Paired (fun (x : List Key × Addr × V) (q : List Key × Addr × Value) => x.1 = q.1 ∧ H' q.2.1 = some (.tup (q.1.map kV)) ∧ RelV x.2.2 q.2.2) its ps → KT H' kvs xs →
    KT H' (mergeT kvs (its.map fun x => (x.1, x.2.2))) (storedAllH xs ps)
  | _, _, _, _, .nil, k => k
  | _, _, kvs, xs, .cons (a := x) (b := q) h r, k => by
    have z := KT.put k q.1 h.2.1 h.2.2
    rw [← h.1] at z
    have z2 := kt_merge (kvs := putK kvs x.1 x.2.2) (xs := storedH xs x.1 q.2.1 q.2.2) r z
    show KT H' (mergeT (putK kvs x.1 x.2.2) _) (storedAllH (storedH xs q.1 q.2.1 q.2.2) _)
    rw [← h.1]
    exact z2
theorem putT_len (kvs : List (List Key × V)) (k : List Key) (v : V) : (putK kvs k v).length ≤ kvs.length + 1 := length_putK kvs k v
theorem mergeT_len : ∀ (more kvs : List (List Key × V)), (mergeT kvs more).length ≤ kvs.length + more.length
  | [], kvs => Nat.le_refl _
  | m :: more, kvs => by
    show (mergeT (putK kvs m.1 m.2) more).length ≤ _
    have h1 := mergeT_len more (putK kvs m.1 m.2)
    have h2 := putT_len kvs m.1 m.2
    rw [List.length_cons]
    omega
end
theorem cr_dictPT {X : Cx} {K : PySem.W.Frag} (hc : X.calm = true) (hu : X.A.units + 64 < cLine) (hK : X.K = K := by rfl) : CallR X (.type "dict") (rDictPT K) := by
  subst hK
  intro pins s σ H vs us Q I r h
  obtain ⟨a, ts, its, rfl, hs, hp, q⟩ := h
  obtain ⟨vs, rv, hl, hz⟩ := I.list hs
  obtain ⟨u, rfl, ru⟩ := vals1 r
  obtain rfl : u = Value.ref a := ru
  have ei := refs_at rv
  obtain ⟨o, n, ho, hcl, hd, hdat⟩ := hl
  obtain ⟨ps, r1, lp, hpt⟩ := pairsT_of I hp
  have lts : ts.length ≤ sizeLine := by
    rw [List.length_map] at hz
    exact hz
  let vps : List (Value × Value) := ps.map fun q => (Value.ref q.2.1, q.2.2)
  have lv : vps.length = ts.length := by
    show (ps.map _).length = _
    rw [List.length_map, lp]
  have hkey : ∀ x ∈ ps, H x.2.1 = some (.tup (x.1.map kV)) := by
    clear hpt lp lv vps hp q
    induction r1 with
    | nil => intro x hx; simp at hx
    | cons h t ih =>
      intro x hx
      rcases List.mem_cons.mp hx with rfl | hx
      · exact h.2.1
      · exact ih x hx
  refine call_dict_pairsH (knd := tupleKind (mixKind X.prog X.w)) (ps := ps) (PairArg.list a vs.toArray (fun j => (ts[j]?).getD 0) vps) (I.ok.hd hc) (show (X.A.in1.in1).units < cLine from ?_) ⟨⟨o, n, ho, hcl, hd, hdat⟩, ?_, fun j k v e => ?_⟩ ⟨by rw [lv, lp], fun i key v e => ?_⟩ (fun h' hk x hx => ?_) (by rw [lv]; exact lts) fun h' tk hd' hk => ?_
  · show X.A.units + 1 + 1 < cLine
    omega
  · rw [List.size_toArray, ei, List.length_map, lv]
  · obtain ⟨x, ex, e2⟩ : ∃ x, ps[j]? = some x ∧ (Value.ref x.2.1, x.2.2) = (k, v) := by
      have e' : (ps.map fun q => (Value.ref q.2.1, q.2.2))[j]? = some (k, v) := e
      rw [List.getElem?_map] at e'
      cases hx : ps[j]? with
      | none =>
        rw [hx] at e'
        cases e'
      | some x =>
        rw [hx] at e'
        exact ⟨x, rfl, Option.some.inj e'⟩
    cases e2
    obtain ⟨t, et, hT⟩ := hpt j x ex
    have eg : (ts[j]?).getD 0 = t := by
      rw [et]
      rfl
    refine ⟨?_, .inl ?_⟩
    · show vs.toArray[j]? = some (Value.ref ((ts[j]?).getD 0))
      rw [eg, ei, List.getElem?_toArray, List.getElem?_map, et]
      rfl
    · show s.heap.IsTuple ((ts[j]?).getD 0) _
      rw [eg]
      exact hT
  · have e' : (ps.map fun q => (Value.ref q.2.1, q.2.2))[i]? = some (key, v) := e
    rw [List.getElem?_map] at e'
    cases hx : ps[i]? with
    | none =>
      rw [hx] at e'
      cases e'
    | some x =>
      rw [hx] at e'
      cases (Option.some.inj e')
      exact ⟨x.1, x.2.1, rfl, rfl⟩
  · have hb := key_of I.hok (hkey x hx)
    obtain ⟨ob, items, m, h1, h2, h3, h4⟩ := hb
    exact ⟨ob, items, m, hk _ _ (Nat.ne_of_lt (Heap.lt_size h1)) (by simp) h1, h2, h3, h4⟩
  · have hm : (s.heap.objs.size == sysModules) = false := beq_eq_false_iff_ne.mpr (Nat.ne_of_gt I.big)
    obtain ⟨q', es, ep, hq, h2, h3, h4, _, h5⟩ := hd'
    have hlen : (mergeT [] (its.map fun x => (x.1, x.2.2))).length ≤ sizeLine := by
      have z := mergeT_len (its.map fun x => (x.1, x.2.2)) []
      rw [List.length_map, List.length_nil, ← Paired.length hp] at z
      omega
    have hf : H s.heap.objs.size = none := I.hok.fresh (Nat.le_refl _)
    refine ⟨.ref s.heap.objs.size, upd H s.heap.objs.size (.dT (mergeT [] (its.map fun x => (x.1, x.2.2)))), I.laid (t' := tk) (fun b o e => hk b o (by simp) e) (Nat.le_refl _) ⟨hlen, hm, storedAllH [] ps, (kt_merge r1 .nil).keeps fun b ys hb => ?_, q', es, ep, hq, h2, h3, h4, h5⟩, rfl, q _ hf⟩
    rw [upd_ne (ne_of_none hb hf)]
    exact hb
end Bw
set_option Elab.async false
set_option linter.all false
set_option maxRecDepth 100000
set_option maxHeartbeats 4000000
namespace Bw
open PySem PySem.Spec PyProof.Rows L2
/-! ### t * k, k from 0 on -/
theorem tuple_mul0 (l : Addr) (items : Array Value) (n : Nat) (dd : Option Addr) (sl : Array (Option Value)) (u : Tok) (hne : items.isEmpty = false) :
    Meets (Builtin.«tuple.__mul__» ⟨[.ref l, .int 0 u], []⟩) (fun _ R s => s.heap.get? l = some { cls := .type "tuple", dict := dd, data := .seq items n, slots := sl } ∧ R (.ok (.ret (Value.ref s.heap.objs.size))) { s with heap := s.heap.push { cls := Value.type "tuple", data := Data.seq #[] }, toks := s.toks }) :=
  .of_wp fun prog w A R s h => by
    obtain ⟨hp, g, d, tk, os⟩ := s
    obtain ⟨hl, h⟩ := h
    have f1 := AutoSeq1.idx_int
    have c1 : (items.isEmpty || (0 : Int) == 1) = false := by rw [hne]; rfl
    have c2 : (decide ((0 : Int) ≤ 0) || items.isEmpty) = true := by simp
    wp_walk using wpAny_loadPart' hl
    repeat (first
      | (refine wpAny_ite_true (decide_eq_true c2) ?_; wp_walk using wpAny_loadPart' hl)
      | (refine wpAny_ite_false (by decide) ?_; wp_walk using wpAny_loadPart' hl)
      | (refine wpAny_ite_false (decide_eq_false (by rw [c1]; exact Bool.false_ne_true)) ?_; wp_walk using wpAny_loadPart' hl))
    exact ⟨_, rfl, h⟩
def rRepZ (K : PySem.W.Frag) : R2 := fun x y H Q => ∃ l k xs, x = .ref l ∧ y = .int k ∧ SqT K H l xs ∧ xs ≠ [] ∧ 0 ≤ k ∧ k ≤ 1000 ∧ xs.length ≤ 1000 ∧ (k = 0 → ∀ p, H p = none → Q (.ref p) (upd H p (.tup []))) ∧ (k = 1 → Q (.ref l) H) ∧ (2 ≤ k → ∀ p, H p = none → Q (.ref p) (upd H p (.tup (List.replicate k.toNat xs).flatten)))
theorem o_repZ {X : Cx} {K : PySem.W.Frag} (hK : X.K = K := by rfl) : OpR X (binaryOp .Mult) (rRepZ K) := by
  subst hK
  intro pins s σ H x y v u Q I rx ry h
  obtain ⟨l, k, xs, rfl, rfl, hT, hne, h1, h2, hz, q0, q1, q2⟩ := h
  by_cases hk : k = 0
  · subst hk
    cases rx
    obtain ⟨t, rfl⟩ := ry
    obtain ⟨its, r, ⟨⟨cls, dd, data, sl⟩, ho, hc, n, hd⟩, hs⟩ := I.tuple hT
    simp only at hc hd
    subst hc hd
    have hi : its.toArray.isEmpty = false := by
      cases its with
      | nil =>
        cases r
        exact absurd rfl hne
      | cons a b => rfl
    refine wpAny_binaryOp_repeat_ref (T := "tuple") (U := "int") (by decide) ⟨_, ho, rfl⟩ (fun s' => typeIs_int s' 0 t) noFill_tuple_mul F.fills_int_mul F.slot_int_rmul repeat_tuple F.slot_int_index.lookup
      (call_meets F.slot_int_rmul (typeIs_int s 0 t) F.entry_int_rmul (F.args_int_rmul_2 _ _) (int_rmul_tuple 0 t l its.toArray n dd sl)
        ⟨ho, rfl, ⟨_, ho, rfl⟩, call_meets F.slot_tuple_mul ⟨_, ho, rfl⟩ F.entry_tuple_mul (F.args_tuple_mul_2 _ _) (tuple_mul0 l its.toArray n dd sl t hi) ⟨ho, ?_⟩⟩)
    exact ⟨.ref s.heap.objs.size, _, I.laid (t' := s.toks) (o := .tup []) (fun b ob z => Heap.get?_push_of_some _ z) (Nat.le_refl _) ⟨Nat.zero_le _, [], .nil, IsTup.new _ _⟩, rfl, q0 rfl _ (I.hok.fresh (Nat.le_refl _))⟩
  · exact o_rep (X := X) rfl pins s σ H _ _ v u Q I rx ry ⟨l, k, xs, rfl, rfl, hT, hne, by omega, h2, hz, q1, q2⟩
/-! ### len(x), x == y, x != y of own instances -/
section
variable {X : Cx} {CX : CXT} {C f : Addr} {fd : FuncData} {ps : List Str} {sp : Sp} {n : Nat} {E : XK}
def rLenOwn (C : Addr) (sp : Sp) (E : XK) : List V → Hp → VK → Prop := fun xs H Q => ∃ a dx fs, xs = [V.ref a] ∧ H a = some (.ins C dx fs) ∧ sp [.ref a] H (fun z H' => ∃ i : Int, z = .int i ∧ 0 ≤ i ∧ i < 2 ^ 63 ∧ Q (.int i) H') E
theorem c_lenOwn (hs : PySem.W.findIn X.K (.ref C) "__len__" = some (some (.ref f))) (hf : PySem.W.isFn X.K (.ref f) = true) (F : FnOk X.prog X.w X.K X.mg X.base CX n f fd ps sp) (hr : Room (n + 1) X.A) (hb : Binds X.K fd ps []) (hx : Passes CX X E) : CallR X (.builtin "len") (rLenOwn C sp E) := by
  intro pins s σ H xs us Q I r h
  obtain ⟨a, dx, fs, rfl, ha, q⟩ := h
  obtain ⟨u, rfl, ru⟩ := vals1 r
  obtain rfl : u = Value.ref a := ru
  obtain ⟨mA, J, _⟩ := ins_get I.hok ha
  obtain ⟨od, J, _⟩ := J.look
  obtain ⟨m, hF⟩ := I.fr
  refine PySem.W.len_K hF I.ok.mod.kin J hs hf ?_
  have hl := F.len _ _ _ _ q
  refine wpAny_call (codeAny_mono (F.run X.A.in1 X.stack s H ⟨[.ref a], []⟩ [.ref a] [.ref a] _ E hr.in1 I.env0.in1 (by
    have z := hb s [.ref a] I.kIn (by simpa using hl)
    simpa using z) (.cons rfl .nil) q) fun r s' hq => ?_)
  cases r with
  | error e => exact hx pins σ H s e s' I hq
  | ok fl =>
    cases fl with
    | ret w =>
      obtain ⟨z, H', I', rz, i, ei, i0, i1, qz⟩ := I.after hq
      subst ei
      obtain ⟨t, rfl⟩ := (show ∃ t, w = Value.int i t from rz)
      exact ⟨⟨i0, i1⟩, .int i, H', I'.tok _, ⟨_, rfl⟩, qz⟩
    | next => exact False.elim hq
    | brk => exact False.elim hq
    | cont => exact False.elim hq
def rEqOwn (C : Addr) (sp : Sp) (E : XK) (neg : Bool) : R2 := fun x y H Q => ∃ a dx fs b dy gs, x = .ref a ∧ y = .ref b ∧ H a = some (.ins C dx fs) ∧ H b = some (.ins C dy gs) ∧ sp [.ref a, .ref b] H (fun z H' => ∃ c : Bool, z = .bl c ∧ Q (.bl (if neg then !c else c)) H') E
theorem own_run (F : FnOk X.prog X.w X.K X.mg X.base CX n f fd ps sp) {A : Around} (hr : Room n A) (hfr : A.frames = X.A.frames) (hb : Binds X.K fd ps []) (hx : Passes CX X E) {pins : List (Addr × Obj)} {s : Shared} {σ : L2.St} {H : Hp} {a b : Addr} {Q : Bool → Hp → Prop} (I : L2.Inv X pins σ H s)
    (q : sp [.ref a, .ref b] H (fun z H' => ∃ c : Bool, z = .bl c ∧ Q c H') E) : wpAny (model X.prog X.w) A (call (.ref f) [.ref a, .ref b]) (fun v s' => ∃ (c : Bool) (H' : Hp), v = .bool c ∧ L2.Inv X pins σ H' s' ∧ Q c H') X.xe s := by
  have hl := F.len _ _ _ _ q
  have e0 : Env0 X.prog X.w X.K X.mg X.base A X.stack s H := by
    have e := I.env0
    exact ⟨by rw [hfr]; exact e.frames, e.mod, e.bs, e.bsz, e.funs, e.frf, e.hok, e.bare⟩
  refine wpAny_call (codeAny_mono (F.run A X.stack s H ⟨[.ref a, .ref b], []⟩ [.ref a, .ref b] [.ref a, .ref b] _ E hr e0 (by
    have z := hb s [.ref a, .ref b] I.kIn (by simpa using hl)
    simpa using z) (.cons rfl (.cons rfl .nil)) q) fun r s' hq => ?_)
  cases r with
  | error e => exact hx pins σ H s e s' I hq
  | ok fl =>
    cases fl with
    | ret w =>
      obtain ⟨z, H', I', rz, c, ec, qc⟩ := I.after hq
      subst ec
      obtain rfl : w = Value.bool c := rz
      exact ⟨c, H', rfl, I', qc⟩
    | next => exact False.elim hq
    | brk => exact False.elim hq
    | cont => exact False.elim hq
theorem o_eqOwn (hs : PySem.W.findIn X.K (.ref C) "__eq__" = some (some (.ref f))) (hf : PySem.W.isFn X.K (.ref f) = true) (F : FnOk X.prog X.w X.K X.mg X.base CX n f fd ps sp) (hr : Room n X.A) (hb : Binds X.K fd ps []) (hx : Passes CX X E) : OpR X (compareOp .Eq) (rEqOwn C sp E false) := by
  intro pins s σ H x y v u Q I rx ry h
  obtain ⟨a, dx, fs, b, dy, gs, rfl, rfl, ha, hb', q⟩ := h
  cases rx
  cases ry
  obtain ⟨mA, J, _⟩ := ins_get I.hok ha
  obtain ⟨mB, J', _⟩ := ins_get I.hok hb'
  obtain ⟨od, J, _⟩ := J.look
  obtain ⟨od', J', _⟩ := J'.look
  obtain ⟨m, hF⟩ := I.fr
  show wpAny _ _ (richCompare .Eq (.ref a) (.ref b)) _ _ _
  refine PySem.W.cmp_K (op := .Eq) (tb := .ref C) hr.units0 hF I.ok.mod.kin J J'.type (by simp [PySem.W.notFirst]) hs hf ?_
  refine wpAny_mono (own_run F hr rfl hb hx I q) (fun v s' z => ?_) fun _ _ z => z
  obtain ⟨c, H', rfl, I', qc⟩ := z
  exact ⟨.bl c, H', I', rfl, qc⟩
end
end Bw
set_option Elab.async false
set_option linter.all false
set_option maxRecDepth 100000
set_option maxHeartbeats 4000000
namespace Bw
open PySem PySem.Spec PyProof.Rows L2
section
variable {prog : Program} {w : World} {A : Around} {E : Value → Shared → Prop} {s : Shared} {K : PySem.W.Frag} {x C f : Addr} {ox : Obj} {od : Option Obj} {b : Value}
theorem ifBound_ne {Q : Option Value → Shared → Prop} (X : K.In s.heap) (I : PySem.W.InstAt s.heap x ox C od) (hs : PySem.W.findIn K (.ref C) "__ne__" = some (some (.builtin "object.__ne__")))
    (h : wpAny (model prog w) A (call (.builtin "object.__ne__") [.ref x, b]) (fun v => Q (some v)) E s) : wpAny (model prog w) A (callSpecialIfBound? (.ref x) "__ne__" [b]) Q E s := by
  have S := F.cmp_object.ne
  simp only [callSpecialIfBound?, bindSpecialIfBound?]
  refine wpAny_holding (wpAny_bind (wpAny_bind (wpAny_bind (I.type.here ((PySem.W.looks_findIn X hs).here ?_)))))
  simp only [S.bind]
  refine wpAny_bind (wpAny_askSetting (wpAny_ite ?_))
  have fin : wpAny (model prog w) A (call (.builtin "object.__ne__") ([.ref x] ++ [b]) >>= fun v => pure (some v)) Q E s := wpAny_bind (wpAny_mono h (fun _ _ z => wpAny_pure z) fun _ _ z => z)
  split
  · exact wpAny_bind (wpAny_pure (wpAny_pure fin))
  · exact wpAny_tryCatch (wpAny_bind (wpAny_pure (wpAny_pure fin)))
theorem call_ne {Q : Value → Shared → Prop} (hu : A.units + 1 < cLine) (X : K.In s.heap) (I : PySem.W.InstAt s.heap x ox C od) (hob : PySem.W.mroIn K C (.type "object") = some true) (hs : PySem.W.findIn K (.ref C) "__eq__" = some (some (.ref f))) (hf : PySem.W.isFn K (.ref f) = true)
    (h : wpAny (model prog w) A.in1 (call (.ref f) [.ref x, b]) (fun v s' => ∃ c, v = .bool c ∧ Q (.bool !c) s') E s) : wpAny (model prog w) A (call (.builtin "object.__ne__") [.ref x, b]) Q E s := by
  have sub : PySem.W.Looks (model prog w) s.heap (isInstance (.ref x) (.type "object")) true := I.type.andThen (PySem.W.looks_mroIn X hob)
  refine wpAny_call (codeAny_call_builtin F.cmp_object.ne.plain F.cmpEntry_ne (PySem.W.check_slot F.cmpKind_ne F.cmpSplit_ne sub (F.cmpArgs_ne _ _) ?_))
  unfold Builtin.«object.__ne__»
  have one : wpAny (model prog w) A.in1 (callSpecialIfBound? (.ref x) "__eq__" [b]) (fun r s' => ∃ c, r = some (.bool c) ∧ Q (.bool !c) s') E s := PySem.W.ifBound_K X I hs hf (wpAny_mono h (fun v s' z => by
    obtain ⟨c, rfl, q⟩ := z
    exact ⟨c, rfl, q⟩) fun _ _ z => z)
  repeat (first | with_reducible refine wpAny_cRoomFor hu ?_ | (with_reducible refine wpAny_mono one (fun r s' z => ?_) (fun _ _ e => e); obtain ⟨c, rfl, q⟩ := z) | wp_step)
  exact q
theorem rich_ne {Q : Value → Shared → Prop} (hu : A.units + 1 < cLine) (X : K.In s.heap) (I : PySem.W.InstAt s.heap x ox C od) (hb : PySem.W.Looks (model prog w) s.heap (typeOf b) (.ref C)) (hob : PySem.W.mroIn K C (.type "object") = some true)
    (hn : PySem.W.findIn K (.ref C) "__ne__" = some (some (.builtin "object.__ne__"))) (hs : PySem.W.findIn K (.ref C) "__eq__" = some (some (.ref f))) (hf : PySem.W.isFn K (.ref f) = true)
    (h : wpAny (model prog w) A.in1 (call (.ref f) [.ref x, b]) (fun v s' => ∃ c, v = .bool c ∧ Q (.bool !c) s') E s) : wpAny (model prog w) A (richCompare .NotEq (.ref x) b) Q E s := by
  have one : wpAny (model prog w) A (tryCompare (.ref x) (cmpInfo .NotEq).2.1 b) (fun r s' => ∃ c : Bool, r = some (.bool !c) ∧ Q (.bool !c) s') E s := by
    unfold tryCompare
    have two : wpAny (model prog w) A (call (.builtin "object.__ne__") [.ref x, b]) (fun v s' => ∃ c : Bool, v = .bool !c ∧ Q (.bool !c) s') E s := by
      refine call_ne hu X I hob hs hf (wpAny_mono h (fun v s' z => ?_) fun _ _ z => z)
      obtain ⟨c, e, q⟩ := z
      exact ⟨c, e, c, rfl, q⟩
    refine wpAny_bind (ifBound_ne X I hn (wpAny_mono two (fun v s' y => ?_) fun _ _ y => y))
    obtain ⟨c, rfl, q⟩ := y
    exact wpAny_pure ⟨c, rfl, q⟩
  unfold richCompare
  simp only [oneThing_ref]
  refine wpAny_holding (wpAny_bind (wpAny_cRoomFor (by omega) ?_))
  refine wpAny_bind (I.type.here (wpAny_bind (hb.here ?_)))
  split
  · rename_i q
    simp at q
  · refine wpAny_bind (wpAny_pure ?_)
    simp only [Bool.false_eq_true, if_false]
    refine wpAny_bind (wpAny_mono one (fun r s' z => ?_) fun _ _ e => e)
    obtain ⟨c, rfl, hq⟩ := z
    exact wpAny_pure hq
end
section
variable {X : Cx} {CX : CXT} {C f : Addr} {fd : FuncData} {ps : List Str} {sp : Sp} {n : Nat} {E : XK}
theorem o_neOwn (hob : PySem.W.mroIn X.K C (.type "object") = some true) (hn : PySem.W.findIn X.K (.ref C) "__ne__" = some (some (.builtin "object.__ne__"))) (hs : PySem.W.findIn X.K (.ref C) "__eq__" = some (some (.ref f))) (hf : PySem.W.isFn X.K (.ref f) = true)
    (F : FnOk X.prog X.w X.K X.mg X.base CX n f fd ps sp) (hr : Room (n + 1) X.A) (hb : Binds X.K fd ps []) (hx : Passes CX X E) : OpR X (compareOp .NotEq) (rEqOwn C sp E true) := by
  intro pins s σ H x y v u Q I rx ry h
  obtain ⟨a, dx, fs, b, dy, gs, rfl, rfl, ha, hb', q⟩ := h
  cases rx
  cases ry
  obtain ⟨mA, J, _⟩ := ins_get I.hok ha
  obtain ⟨mB, J', _⟩ := ins_get I.hok hb'
  obtain ⟨od, J, _⟩ := J.look
  obtain ⟨od', J', _⟩ := J'.look
  show wpAny _ _ (richCompare .NotEq (.ref a) (.ref b)) _ _ _
  have hu : X.A.units + 1 < cLine := by
    have z := hr.un
    omega
  refine rich_ne hu I.kIn J J'.type hob hn hs hf (wpAny_mono (own_run F hr.in1 rfl hb hx I q) (fun v s' z => ?_) fun _ _ z => z)
  obtain ⟨c, H', rfl, I', qc⟩ := z
  exact ⟨c, rfl, .bl !c, H', I', rfl, qc⟩
end
end Bw
set_option Elab.async false
set_option linter.all false
set_option maxRecDepth 100000
set_option maxHeartbeats 4000000
namespace Bw
open PySem PySem.Spec PyProof.Rows L2
/-! ### zip of a list and a tuple, either way about: by what is asked of one side -/
structure Src (P : Program) (w : World) (i l : Addr) (St : Nat → Heap → Prop) (Sq : Array Value → Heap → Prop) : Prop where
  obj : ∀ k h, St k h → ∃ o, h.get? i = some o ∧ ∀ v, o.data ≠ .cell v
  keep : ∀ k h h', St k h → (∀ o, h.get? i = some o → h'.get? i = some o) → St k h'
  keepS : ∀ xs h h', Sq xs h → (∀ o, h.get? l = some o → h'.get? l = some o) → Sq xs h'
  item : ∀ (A : Around) (E : Value → Shared → Prop) (s : Shared) (k : Nat) (xs : Array Value) (x : Value) (Q : Value → Shared → Prop), St k s.heap → Sq xs s.heap → xs[k]? = some x →
    (∀ h', St (k + 1) h' → Heap.SameBut i s.heap h' → Q x { s with heap := h' }) → wpAny (model P w) A (Builtin.SmallTypes.nextOf (.ref i)) Q E s
  fin : ∀ (A : Around) (E : Value → Shared → Prop) (s : Shared) (k : Nat) (xs : Array Value) (Q : Value → Shared → Prop), A.handled = none → St k s.heap → Sq xs s.heap → xs[k]? = none →
    (∀ h' e, Heap.ExtBut i s.heap h' → (∃ o, h'.get? e = some o ∧ o.cls = .type "StopIteration") → E (.ref e) { s with heap := h' }) → wpAny (model P w) A (Builtin.SmallTypes.nextOf (.ref i)) Q E s
theorem src_list {P : Program} {w : World} {i l : Addr} : Src P w i l (fun k h => h.IsListIter i l k) (fun xs h => h.IsList l xs) where
  obj := fun k h st => by
    obtain ⟨o, e, _, d⟩ := st
    exact ⟨o, e, fun v q => by rw [d] at q; cases q⟩
  keep := fun k h h' st kp => st.at kp
  keepS := fun xs h h' st kp => st.at kp
  item := fun A E s k xs x Q st sq hx q => wpAny_nextOf_list_item st sq hx q
  fin := fun A E s k xs Q hh st sq hx q => wpAny_nextOf_list_end hh st sq hx q
theorem src_tup {P : Program} {w : World} {i l : Addr} : Src P w i l (fun k h => h.IsTupleIter i l k) (fun xs h => h.IsTuple l xs) where
  obj := fun k h st => by
    obtain ⟨o, e, _, d⟩ := st
    exact ⟨o, e, fun v q => by rw [d] at q; cases q⟩
  keep := fun k h h' st kp => st.at kp
  keepS := fun xs h h' st kp => by
    obtain ⟨o, e, z⟩ := st
    exact ⟨o, kp o e, z⟩
  item := fun A E s k xs x Q st sq hx q => RZ.nextOf_tuple_item st sq hx q
  fin := fun A E s k xs Q hh st sq hx q => RZ.nextOf_tuple_end hh st sq hx q
section
variable {P : Program} {w : World} {A : Around} {E : Value → Shared → Prop} {s : Shared} {z TI TO i1 i2 l1 l2 : Addr} {U1 U2 : Nat → Heap → Prop} {Z1 Z2 : Array Value → Heap → Prop}
theorem zipG_item {k : Nat} {xs ys : Array Value} {x y a b : Value} {Q : Value → Shared → Prop} (S1 : Src P w i1 l1 U1 Z1) (S2 : Src P w i2 l2 U2 Z2) (D : ZipApart z TI TO i1 i2 l1 l2)
    (hz : IsZip s.heap z TI TO .none) (hTI : IsPair s.heap TI (.ref i1) (.ref i2)) (hTO : IsPair s.heap TO a b) (h1 : U1 k s.heap) (h2 : U2 k s.heap) (hl1 : Z1 xs s.heap) (hl2 : Z2 ys s.heap) (hx : xs[k]? = some x) (hy : ys[k]? = some y)
    (hQ : ∀ h', IsZip h' z TI TO (rawInt s.heap.objs.size) → IsPair h' TO x y → U1 (k + 1) h' → U2 (k + 1) h' → IsPair h' s.heap.objs.size x y →
      (∀ c o, c ≠ z → c ≠ TO → c ≠ i1 → c ≠ i2 → s.heap.get? c = some o → h'.get? c = some o) → Q (.ref s.heap.objs.size) { s with heap := h' }) :
    wpAny (model P w) A (Builtin.«zip.__next__» ⟨[.ref z], []⟩) (fun fin s' => ∃ v, fin = .done (.ret v) ∧ Q v s') E s := by
  show wpAny _ _ (field (Value.ref z) 2 >>= _) _ _ _
  refine wpAny_bind (wpAny_field hz (rfl) (x := .bool false) rfl ?_); show wpAny _ _ (field (Value.ref z) 3 >>= _) _ _ _
  refine wpAny_bind (wpAny_field hz (rfl) (x := .ref TI) rfl ?_); refine wpAny_bind (wpAny_seqItems hTI (rfl) ?_)
  show wpAny _ _ (Builtin.SmallTypes.ownedTupleIsFree (Value.ref z) >>= _) _ _ _
  refine wpAny_bind ?_; unfold Builtin.SmallTypes.ownedTupleIsFree
  refine wpAny_bind (wpAny_field hz (rfl) (x := .none) rfl (wpAny_pure ?_)); simp only [if_true]
  refine wpAny_bind (wpAny_rule ?_); refine wpAny_bind (wpAny_field hz (rfl) (x := .ref TO) rfl ?_)
  refine wpAny_bind (wpAny_setField_rec hz (by simp) fun g1 z1 b1 => ?_); replace z1 : IsZip g1 z TI TO .ellipsis := z1
  refine wpAny_bind ?_; simp only [List.zipIdx_cons, List.zipIdx_nil, List.forIn_cons, List.forIn_nil]
  refine wpAny_bind (wpAny_bind (wpAny_onRaise ?_)); show wpAny _ _ (Builtin.SmallTypes.nextOf (Value.ref i1) >>= _) _ _ _
  refine wpAny_bind (S1.item _ _ _ k xs x _ (S1.keep _ _ _ h1 fun o e => b1.extBut _ _ D.i1z e) (S1.keepS _ _ _ hl1 fun o e => b1.extBut _ _ D.l1z e) hx fun g2 u1 b2 => wpAny_pure ?_)
  have p2 : IsPair g2 TO a b := b2.extBut _ _ D.TOi1 (b1.extBut _ _ D.TOz hTO)
  refine wpAny_bind (wpAny_seqItems p2 (rfl) ?_); refine wpAny_bind (wpAny_updateSeq_pair p2 fun g3 p3 b3 => ?_); replace p3 : IsPair g3 TO x b := p3
  refine wpAny_bind (wpAny_letGo (wpAny_pure ?_)); refine wpAny_bind (wpAny_bind (wpAny_onRaise ?_)); show wpAny _ _ (Builtin.SmallTypes.nextOf (Value.ref i2) >>= _) _ _ _
  refine wpAny_bind (S2.item _ _ _ k ys y _ (S2.keep _ _ _ h2 fun o e => b3.extBut _ _ D.TOi2.symm (b2.extBut _ _ D.i12.symm (b1.extBut _ _ D.i2z e)))
    (S2.keepS _ _ _ hl2 fun o e => b3.extBut _ _ D.l2TO (b2.extBut _ _ D.l2i1 (b1.extBut _ _ D.l2z e))) hy fun g4 u2 b4 => wpAny_pure ?_)
  have p4 : IsPair g4 TO x b := b4.extBut _ _ D.TOi2 p3
  refine wpAny_bind (wpAny_seqItems p4 (rfl) ?_); refine wpAny_bind (wpAny_updateSeq_pair p4 fun g5 p5 b5 => ?_); replace p5 : IsPair g5 TO x y := p5
  refine wpAny_bind (wpAny_letGo (wpAny_pure (wpAny_pure ?_))); refine wpAny_bind (wpAny_seqItems p5 (rfl) ?_); refine wpAny_bind (wpAny_newTuple ?_)
  have sz : g5.objs.size = s.heap.objs.size := by rw [b5.1, b4.1, b3.1, b2.1, b1.1]
  have z5 : IsZip g5 z TI TO .ellipsis := b5.extBut _ _ D.TOz.symm (b4.extBut _ _ D.i2z.symm (b3.extBut _ _ D.TOz.symm (b2.extBut _ _ D.i1z.symm z1)))
  have k5 : ∀ c o, c ≠ z → c ≠ TO → c ≠ i1 → c ≠ i2 → s.heap.get? c = some o → g5.get? c = some o := fun c o c1 c2 c3 c4 e => b5.extBut _ _ c2 (b4.extBut _ _ c4 (b3.extBut _ _ c2 (b2.extBut _ _ c3 (b1.extBut _ _ c1 e))))
  have v1 : U1 (k + 1) g5 := S1.keep _ _ _ u1 fun o e => b5.extBut _ _ D.TOi1.symm (b4.extBut _ _ D.i12 (b3.extBut _ _ D.TOi1.symm e))
  have v2 : U2 (k + 1) g5 := S2.keep _ _ _ u2 fun o e => b5.extBut _ _ D.TOi2.symm e
  have zl : z < g5.objs.size := Heap.lt_size z5
  show wpAny _ _ (Builtin.SmallTypes.ownedTupleHandOut (Value.ref z) (.ref g5.objs.size) >>= _) _ _ _
  refine wpAny_bind ?_; unfold Builtin.SmallTypes.ownedTupleHandOut
  have z6 : IsZip (g5.push { cls := .type "tuple", data := .seq #[x, y] }) z TI TO .ellipsis := Heap.get?_push_of_some _ z5
  refine wpAny_bind (wpAny_setField_rec z6 (by simp) fun g7 z7 b7 => ?_); replace z7 : IsZip g7 z TI TO (rawInt g5.objs.size) := z7
  refine wpAny_setField_rec z7 (by simp) fun g8 z8 b8 => ?_; replace z8 : IsZip g8 z TI TO (rawInt g5.objs.size) := z8
  have up : ∀ c o, c ≠ z → g5.get? c = some o → g8.get? c = some o := fun c o c1 e => b8.extBut _ _ c1 (b7.extBut _ _ c1 (Heap.get?_push_of_some _ e))
  have p8 : IsPair g8 g5.objs.size x y := b8.extBut _ _ (Nat.ne_of_gt zl) (b7.extBut _ _ (Nat.ne_of_gt zl) (Heap.get?_push_size _ rfl))
  rw [sz] at z8 p8
  refine wpAny_pure ⟨_, rfl, ?_⟩; show Q (.ref g5.objs.size) _; rw [sz]
  exact hQ g8 z8 (up _ _ D.TOz p5) (S1.keep _ _ _ v1 fun o e => up _ o D.i1z e) (S2.keep _ _ _ v2 fun o e => up _ o D.i2z e) p8 fun c o c1 c2 c3 c4 e => up c o c1 (k5 c o c1 c2 c3 c4 e)
theorem zipG_end {k : Nat} {xs ys : Array Value} {a b : Value} {Q : PySem.Fin → Shared → Prop} (S1 : Src P w i1 l1 U1 Z1) (S2 : Src P w i2 l2 U2 Z2) (hh : A.handled = none) (D : ZipApart z TI TO i1 i2 l1 l2)
    (hz : IsZip s.heap z TI TO .none) (hTI : IsPair s.heap TI (.ref i1) (.ref i2)) (hTO : IsPair s.heap TO a b) (h1 : U1 k s.heap) (h2 : U2 k s.heap) (hl1 : Z1 xs s.heap) (hl2 : Z2 ys s.heap) (hend : xs[k]? = none ∨ ys[k]? = none)
    (hE : ∀ h' e, (∀ c o, c ≠ z → c ≠ TO → c ≠ i1 → c ≠ i2 → s.heap.get? c = some o → h'.get? c = some o) → (∃ o, h'.get? e = some o ∧ o.cls = .type "StopIteration") → E (.ref e) { s with heap := h' }) :
    wpAny (model P w) A (Builtin.«zip.__next__» ⟨[.ref z], []⟩) Q E s := by
  show wpAny _ _ (field (Value.ref z) 2 >>= _) _ _ _
  refine wpAny_bind (wpAny_field hz (rfl) (x := .bool false) rfl ?_); show wpAny _ _ (field (Value.ref z) 3 >>= _) _ _ _
  refine wpAny_bind (wpAny_field hz (rfl) (x := .ref TI) rfl ?_); refine wpAny_bind (wpAny_seqItems hTI (rfl) ?_)
  show wpAny _ _ (Builtin.SmallTypes.ownedTupleIsFree (Value.ref z) >>= _) _ _ _
  refine wpAny_bind ?_; unfold Builtin.SmallTypes.ownedTupleIsFree
  refine wpAny_bind (wpAny_field hz (rfl) (x := .none) rfl (wpAny_pure ?_)); simp only [if_true]
  refine wpAny_bind (wpAny_rule ?_); refine wpAny_bind (wpAny_field hz (rfl) (x := .ref TO) rfl ?_)
  refine wpAny_bind (wpAny_setField_rec hz (by simp) fun g1 z1 b1 => ?_); replace z1 : IsZip g1 z TI TO .ellipsis := z1
  refine wpAny_bind ?_; simp only [List.zipIdx_cons, List.zipIdx_nil, List.forIn_cons, List.forIn_nil]
  refine wpAny_bind (wpAny_bind (wpAny_onRaise ?_)); show wpAny _ _ (Builtin.SmallTypes.nextOf (Value.ref i1) >>= _) _ _ _
  have j1 : U1 k g1 := S1.keep _ _ _ h1 fun o e => b1.extBut _ _ D.i1z e
  have m1 : Z1 xs g1 := S1.keepS _ _ _ hl1 fun o e => b1.extBut _ _ D.l1z e
  cases hx : xs[k]? with
  | none =>
    refine wpAny_bind (S1.fin _ _ _ k xs _ hh j1 m1 hx fun g2 e b2 he => ?_); obtain ⟨oe, hoe, hce⟩ := he
    have z2 : IsZip g2 z TI TO .ellipsis := b2 _ _ D.i1z.symm z1
    have ez : e ≠ z := fun q => by subst q; rw [z2] at hoe; cases hoe; simp at hce
    refine wpAny_setField_rec z2 (by simp) fun g3 _ b3 => hE g3 e (fun c o c1 _ c3 _ q => b3.extBut _ _ c1 (b2 _ _ c3 (b1.extBut _ _ c1 q))) ⟨oe, b3.extBut _ _ ez hoe, hce⟩
  | some x =>
    have hy : ys[k]? = none := by
      rcases hend with h | h
      · rw [hx] at h; cases h
      · exact h
    refine wpAny_bind (S1.item _ _ _ k xs x _ j1 m1 hx fun g2 u1 b2 => wpAny_pure ?_)
    have p2 : IsPair g2 TO a b := b2.extBut _ _ D.TOi1 (b1.extBut _ _ D.TOz hTO)
    refine wpAny_bind (wpAny_seqItems p2 (rfl) ?_); refine wpAny_bind (wpAny_updateSeq_pair p2 fun g3 p3 b3 => ?_)
    refine wpAny_bind (wpAny_letGo (wpAny_pure ?_)); refine wpAny_bind (wpAny_bind (wpAny_onRaise ?_)); show wpAny _ _ (Builtin.SmallTypes.nextOf (Value.ref i2) >>= _) _ _ _
    refine wpAny_bind (S2.fin _ _ _ k ys _ hh (S2.keep _ _ _ h2 fun o e => b3.extBut _ _ D.TOi2.symm (b2.extBut _ _ D.i12.symm (b1.extBut _ _ D.i2z e)))
      (S2.keepS _ _ _ hl2 fun o e => b3.extBut _ _ D.l2TO (b2.extBut _ _ D.l2i1 (b1.extBut _ _ D.l2z e))) hy fun g4 e b4 he => ?_)
    obtain ⟨oe, hoe, hce⟩ := he
    have z4 : IsZip g4 z TI TO .ellipsis := b4 _ _ D.i2z.symm (b3.extBut _ _ D.TOz.symm (b2.extBut _ _ D.i1z.symm z1))
    have ez : e ≠ z := fun q => by subst q; rw [z4] at hoe; cases hoe; simp at hce
    refine wpAny_setField_rec z4 (by simp) fun g5 _ b5 => hE g5 e (fun c o c1 c2 c3 c4 q => b5.extBut _ _ c1 (b4 _ _ c4 (b3.extBut _ _ c2 (b2.extBut _ _ c3 (b1.extBut _ _ c1 q))))) ⟨oe, b5.extBut _ _ ez hoe, hce⟩
end
/-! ### the step of the hand layer -/
/-- how a side is read off the hand layer's heap -/
structure Side (l : Addr) (K : PySem.W.Frag) (R : Hp → List V → Prop) (Sq : Array Value → Heap → Prop) : Prop where
  get : ∀ (X : Cx) (pins : List (Addr × Obj)) (σ : L2.St) (H : Hp) (s : Shared) (xs : List V), X.K = K → L2.Inv X pins σ H s → R H xs → ∃ its : List Value, Vals xs its ∧ Sq its.toArray s.heap ∧ l < s.heap.objs.size
  inj : ∀ (X : Cx) (pins : List (Addr × Obj)) (σ : L2.St) (H : Hp) (s : Shared) (xs ys : List V), X.K = K → L2.Inv X pins σ H s → R H xs → R H ys → xs = ys
theorem side_list {K : PySem.W.Frag} {a : Addr} : Side a K (fun H xs => SqL K H a xs) (fun arr h => h.IsList a arr) where
  get := fun X pins σ H s xs hK I r => by
    subst hK
    obtain ⟨its, rv, p, _⟩ := I.list r
    exact ⟨its, rv, p.isList, p.lt⟩
  inj := fun X pins σ H s xs ys hK I r r' => by
    subst hK
    exact I.list_inj r r'
theorem side_tup {K : PySem.W.Frag} {a : Addr} : Side a K (fun H xs => SqT K H a xs) (fun arr h => h.IsTuple a arr) where
  get := fun X pins σ H s xs hK I r => by
    subst hK
    obtain ⟨its, rv, p, _⟩ := I.tuple r
    obtain ⟨o, ho, _⟩ := id p
    exact ⟨its, rv, p, Heap.lt_size ho⟩
  inj := fun X pins σ H s xs ys hK I r r' => by
    subst hK
    exact I.tuple_inj r r'
def ItzG (R1 R2 : Hp → List V → Prop) : It :=
  ⟨fun i H => ∃ (xs ys : List V) (x y : V), R1 H xs ∧ R2 H ys ∧ xs[i]? = some x ∧ ys[i]? = some y,
    fun i H v H' => ∃ T x y, v = .ref T ∧ H T = none ∧ H' = upd H T (.tup [x, y]) ∧ (∀ xs, R1 H xs → xs[i]? = some x) ∧ ∀ ys, R2 H ys → ys[i]? = some y,
    fun i H => ∃ xs ys : List V, R1 H xs ∧ R2 H ys ∧ (xs.length ≤ i ∨ ys.length ≤ i)⟩
theorem turn_zipG {P : Program} {w : World} {K : PySem.W.Frag} {elts : List Expr} {kk : Nat} {tpos : Pos} {a b z TI TO i1 i2 : Addr} {R1 R2 : Hp → List V → Prop} {U1 U2 : Nat → Heap → Prop} {Z1 Z2 : Array Value → Heap → Prop}
    (S1 : Src P w i1 a U1 Z1) (S2 : Src P w i2 b U2 Z2) (L1 : Side a K R1 Z1) (L2' : Side b K R2 Z2) (D : ZipApart z TI TO i1 i2 a b) :
    Turn P w K (.Tuple elts kk tpos) (ItzG R1 R2) [z, TI, TO, i1, i2] z (fun i h => IsZip h z TI TO .none ∧ IsPair h TI (.ref i1) (.ref i2) ∧ (∃ x y, IsPair h TO x y) ∧ U1 i h ∧ U2 i h) where
  mem := by simp
  obj := fun i h st c hc => by
    obtain ⟨hz, hTI, ⟨x, y, hTO⟩, e1, e2⟩ := st
    have e' : c = z ∨ c = TI ∨ c = TO ∨ c = i1 ∨ c = i2 := by simpa using hc
    rcases e' with rfl | rfl | rfl | rfl | rfl
    · exact ⟨_, hz, fun v q => nomatch q⟩
    · exact ⟨_, hTI, fun v q => nomatch q⟩
    · exact ⟨_, hTO, fun v q => nomatch q⟩
    · exact S1.obj _ _ e1
    · exact S2.obj _ _ e2
  keep := fun i h h' st k => by
    obtain ⟨hz, hTI, ⟨x, y, hTO⟩, h1, h2⟩ := st
    exact ⟨k z (by simp) _ hz, k TI (by simp) _ hTI, ⟨x, y, k TO (by simp) _ hTO⟩, S1.keep _ _ _ h1 (k i1 (by simp)), S2.keep _ _ _ h2 (k i2 (by simp))⟩
  item := by
    intro X hP hw hK hc i pins s σ H E I hf st hg
    obtain ⟨hz, hTI, ⟨x0, y0, hTO⟩, h1, h2⟩ := st
    obtain ⟨xs, ys, x, y, hqx, hqy, hx, hy⟩ := hg
    obtain ⟨its, rv, p, _⟩ := L1.get X pins σ H s xs hK I hqx
    obtain ⟨its2, rv2, p2, _⟩ := L2'.get X pins σ H s ys hK I hqy
    obtain ⟨u, hu, ru⟩ := rv.get hx
    obtain ⟨u2, hu2, ru2⟩ := rv2.get hy
    have hzl : z < s.heap.objs.size := Heap.lt_size hz
    have hT : s.TypeIs (.ref z) "zip" := ⟨_, hz, rfl⟩
    unfold pyNext
    refine wpAny_bind (wpAny_attempt (wpAny_callSpecial?_slot (name := Str.ofString "__next__") hT F.slot_zip_next (wpAny_call_entry F.slot_zip_next hT F.entry_zip_next
      (zipG_item S1 S2 D hz hTI hTO h1 h2 p p2 (x := u) (y := u2) (by simpa using hu) (by simpa using hu2) fun h' z' TO' h1' h2' hT' hk => wpAny_pure ?_) (F.args_zip_next_1 _))))
    refine ⟨_, rfl, wpAny_letOwnedTupleGo_zip (s := { s with heap := h' }) z' fun h'' z'' sb => ?_⟩
    have hT2 : h''.get? s.heap.objs.size = some { cls := .type "tuple", data := .seq #[u, u2] } := ((sb.2 _ (Nat.ne_of_gt hzl)).trans hT')
    subst hP hw hK
    have new : ObjOk X.prog X.w (upd H s.heap.objs.size (.tup [x, y])) h'' s.heap.objs.size (.tup [x, y]) := ⟨by show 2 ≤ sizeLine; decide, [u, u2], .cons ru (.cons ru2 .nil), ⟨_, hT2, rfl, _, rfl⟩⟩
    have kk' : ∀ (c : Addr) (o : Obj), c ∉ [z, TI, TO, i1, i2] → s.heap.get? c = some o → h''.get? c = some o := fun c o hb q => (sb.2 c (fun q' => hb (by simp [q']))).trans (hk c o (fun q' => hb (by simp [q'])) (fun q' => hb (by simp [q'])) (fun q' => hb (by simp [q'])) (fun q' => hb (by simp [q'])) q)
    have I1 : L2.Inv X pins σ (upd H s.heap.objs.size (.tup [x, y])) { s with heap := h'' } := I.turnedNew (t' := s.toks) (ch := [z, TI, TO, i1, i2]) kk' hf (Nat.le_refl _) new
    refine ⟨.ref s.heap.objs.size, _, I1, rfl, ⟨_, x, y, rfl, I.hok.fresh (Nat.le_refl _), rfl, fun l hl => ?_, fun l hl => ?_⟩, ⟨z'', ?_, ⟨u, u2, ?_⟩, ?_, ?_⟩, fun c hcm => ?_⟩
    · rw [L1.inj X pins σ H s l xs rfl I hl hqx]
      exact hx
    · rw [L2'.inj X pins σ H s l ys rfl I hl hqy]
      exact hy
    · exact (sb.2 _ D.TIz).trans ((hk _ _ D.TIz D.TITO D.TIi1 D.TIi2 hTI))
    · exact (sb.2 _ D.TOz).trans TO'
    · exact S1.keep _ _ _ h1' fun o q => (sb.2 _ D.i1z).trans q
    · exact S2.keep _ _ _ h2' fun o q => (sb.2 _ D.i2z).trans q
    · have hlt : c < s.heap.objs.size := by
        have e' : c = z ∨ c = TI ∨ c = TO ∨ c = i1 ∨ c = i2 := by simpa using hcm
        rcases e' with rfl | rfl | rfl | rfl | rfl
        · exact hzl
        · exact Heap.lt_size hTI
        · exact Heap.lt_size hTO
        · obtain ⟨_, e1, _⟩ := S1.obj _ _ h1; exact Heap.lt_size e1
        · obtain ⟨_, e2, _⟩ := S2.obj _ _ h2; exact Heap.lt_size e2
      rw [upd_ne (Nat.ne_of_lt hlt)]
      exact (hf c hcm).1
  done := by
    intro X hP hw hK hc i pins s σ H E I hf st hg
    obtain ⟨hz, hTI, ⟨x0, y0, hTO⟩, h1, h2⟩ := st
    obtain ⟨xs, ys, hqx, hqy, hend⟩ := hg
    obtain ⟨its, rv, p, _⟩ := L1.get X pins σ H s xs hK I hqx
    obtain ⟨its2, rv2, p2, _⟩ := L2'.get X pins σ H s ys hK I hqy
    have l1 := rv.length
    have l2 := rv2.length
    have he : its.toArray[i]? = none ∨ its2.toArray[i]? = none := by
      rcases hend with q | q
      · exact .inl (by simp; omega)
      · exact .inr (by simp; omega)
    have hT : s.TypeIs (.ref z) "zip" := ⟨_, hz, rfl⟩
    unfold pyNext
    refine wpAny_bind (wpAny_attempt (wpAny_callSpecial?_slot (name := Str.ofString "__next__") hT F.slot_zip_next
      (wpAny_call_entry F.slot_zip_next hT F.entry_zip_next (zipG_end S1 S2 (I.ok.hd hc) D hz hTI hTO h1 h2 p p2 he fun h' e hk he => ?_) (F.args_zip_next_1 _))))
    obtain ⟨o, ho, hc'⟩ := he
    refine wpAny_bind (wpAny_isInstance (T := "StopIteration") (b := true) ⟨o, ho, hc'⟩ isSubtype_stop ?_)
    refine wpAny_pure ⟨rfl, I.turnedL (t' := s.toks) (ch := [z, TI, TO, i1, i2]) (fun c o hb q => hk c o (fun q' => hb (by simp [q'])) (fun q' => hb (by simp [q'])) (fun q' => hb (by simp [q'])) (fun q' => hb (by simp [q'])) q) hf⟩
  self := fun A i s Q E st h => wpAny_pyIter_zip st.1 h
/-! ### zip of a tuple and a list made -/
abbrev zTL1 (h : Heap) (l1 : Addr) : Heap := h.push { cls := .type "tuple_iterator", data := .fields #[.ref l1, .int 0 0] }
abbrev zTL2 (h : Heap) (l1 l2 : Addr) : Heap := (zTL1 h l1).push { cls := .type "list_iterator", data := .fields #[.ref l2, .int 0 0] }
abbrev zTL3 (h : Heap) (l1 l2 : Addr) : Heap := (zTL2 h l1 l2).push { cls := .type "tuple", data := .seq #[.ref h.objs.size, .ref (zTL1 h l1).objs.size] }
abbrev zTL4 (h : Heap) (l1 l2 : Addr) : Heap := (zTL3 h l1 l2).push { cls := .type "tuple", data := .seq #[.none, .none] }
abbrev zTL5 (h : Heap) (l1 l2 : Addr) : Heap := (zTL4 h l1 l2).push { cls := .type "zip", data := .fields #[.none, .bool false, .bool false, .ref (zTL2 h l1 l2).objs.size, .ref (zTL3 h l1 l2).objs.size] }
abbrev zLT1 (h : Heap) (l1 : Addr) : Heap := h.push { cls := .type "list_iterator", data := .fields #[.ref l1, .int 0 0] }
abbrev zLT2 (h : Heap) (l1 l2 : Addr) : Heap := (zLT1 h l1).push { cls := .type "tuple_iterator", data := .fields #[.ref l2, .int 0 0] }
abbrev zLT3 (h : Heap) (l1 l2 : Addr) : Heap := (zLT2 h l1 l2).push { cls := .type "tuple", data := .seq #[.ref h.objs.size, .ref (zLT1 h l1).objs.size] }
abbrev zLT4 (h : Heap) (l1 l2 : Addr) : Heap := (zLT3 h l1 l2).push { cls := .type "tuple", data := .seq #[.none, .none] }
abbrev zLT5 (h : Heap) (l1 l2 : Addr) : Heap := (zLT4 h l1 l2).push { cls := .type "zip", data := .fields #[.none, .bool false, .bool false, .ref (zLT2 h l1 l2).objs.size, .ref (zLT3 h l1 l2).objs.size] }
theorem new_zTL (l1 l2 : Addr) (xs ys : Array Value) : Meets (Builtin.«zip.__new__» ⟨[.type "zip", .ref l1, .ref l2], []⟩) (fun _ R s => s.heap.IsTuple l1 xs ∧ s.heap.IsList l2 ys ∧ R (.ok (.ret (.ref (zTL4 s.heap l1 l2).objs.size))) { s with heap := zTL5 s.heap l1 l2 }) :=
  .of_wp fun prog w A R s h => by
    obtain ⟨hp, g, d, tk, os⟩ := s
    obtain ⟨k1, k2, h⟩ := h
    have hsub := sub_zip
    have e1 : Heap.IsTuple (Shared.heap ⟨hp, g, d, tk, os⟩) l1 xs := k1
    have e2 : Heap.IsList (Shared.heap ⟨hp.push { cls := .type "tuple_iterator", data := .fields #[.ref l1, .int 0 0] }, g, d, tk, os⟩) l2 ys := Heap.IsList.push k2 _
    wp_walk using wpAny_pyIter_tuple e1, wpAny_pyIter_list e2
    exact ⟨_, rfl, h⟩
theorem new_zLT (l1 l2 : Addr) (xs ys : Array Value) : Meets (Builtin.«zip.__new__» ⟨[.type "zip", .ref l1, .ref l2], []⟩) (fun _ R s => s.heap.IsList l1 xs ∧ s.heap.IsTuple l2 ys ∧ R (.ok (.ret (.ref (zLT4 s.heap l1 l2).objs.size))) { s with heap := zLT5 s.heap l1 l2 }) :=
  .of_wp fun prog w A R s h => by
    obtain ⟨hp, g, d, tk, os⟩ := s
    obtain ⟨k1, k2, h⟩ := h
    have hsub := sub_zip
    have e1 : Heap.IsList (Shared.heap ⟨hp, g, d, tk, os⟩) l1 xs := k1
    have e2 : Heap.IsTuple (Shared.heap ⟨hp.push { cls := .type "list_iterator", data := .fields #[.ref l1, .int 0 0] }, g, d, tk, os⟩) l2 ys := Heap.IsTuple.push k2 _
    wp_walk using wpAny_pyIter_list e1, wpAny_pyIter_tuple e2
    exact ⟨_, rfl, h⟩
section
variable {P : Program} {w : World} {A : Around} {E : Value → Shared → Prop} {s : Shared}
theorem call_zTL {l1 l2 : Addr} {xs ys : Array Value} {Q : Value → Shared → Prop} (k1 : s.heap.IsTuple l1 xs) (k2 : s.heap.IsList l2 ys)
    (h : ∀ h', IsZip h' (s.heap.objs.size + 4) (s.heap.objs.size + 2) (s.heap.objs.size + 3) .none → IsPair h' (s.heap.objs.size + 2) (.ref s.heap.objs.size) (.ref (s.heap.objs.size + 1)) → IsPair h' (s.heap.objs.size + 3) .none .none →
      h'.IsTupleIter s.heap.objs.size l1 0 → h'.IsListIter (s.heap.objs.size + 1) l2 0 → (∀ c o, s.heap.get? c = some o → h'.get? c = some o) → Q (.ref (s.heap.objs.size + 4)) { s with heap := h' }) :
    wpAny (model P w) A (call (.type "zip") [.ref l1, .ref l2]) Q E s := by
  refine callType_new F.called_zip (by decide) (F.typeCall_zip_2 _ _) (F.newCall_zip_2 _ _) (fun obj => F.args_object_init_3 obj _ _) F.entry_zip_new (new_zTL l1 l2 xs ys) ⟨k1, k2, ?_⟩
  have z1 : (zTL1 s.heap l1).objs.size = s.heap.objs.size + 1 := Heap.size_push ..
  have z2 : (zTL2 s.heap l1 l2).objs.size = s.heap.objs.size + 2 := by rw [Heap.size_push, z1]
  have z3 : (zTL3 s.heap l1 l2).objs.size = s.heap.objs.size + 3 := by rw [Heap.size_push, z2]
  have z4 : (zTL4 s.heap l1 l2).objs.size = s.heap.objs.size + 4 := by rw [Heap.size_push, z3]
  have g5 : (zTL5 s.heap l1 l2).get? (zTL4 s.heap l1 l2).objs.size = some _ := Heap.get?_push_size _ rfl
  have g4 : (zTL5 s.heap l1 l2).get? (zTL3 s.heap l1 l2).objs.size = some _ := Heap.get?_push_of_some _ (Heap.get?_push_size _ rfl)
  have g3 : (zTL5 s.heap l1 l2).get? (zTL2 s.heap l1 l2).objs.size = some _ := Heap.get?_push_of_some _ (Heap.get?_push_of_some _ (Heap.get?_push_size _ rfl))
  have g2 : (zTL5 s.heap l1 l2).get? (zTL1 s.heap l1).objs.size = some _ := Heap.get?_push_of_some _ (Heap.get?_push_of_some _ (Heap.get?_push_of_some _ (Heap.get?_push_size _ rfl)))
  have g1 : (zTL5 s.heap l1 l2).get? s.heap.objs.size = some _ := Heap.get?_push_of_some _ (Heap.get?_push_of_some _ (Heap.get?_push_of_some _ (Heap.get?_push_of_some _ (Heap.get?_push_size _ rfl))))
  show _ ∧ _
  rw [z2, z3, z4] at g5; rw [z1, z2] at g3; rw [z3] at g4; rw [z1] at g2; rw [z4]
  exact ⟨⟨_, g5, rfl⟩, h _ g5 g3 g4 ⟨_, g1, rfl, rfl⟩ ⟨_, g2, rfl, rfl⟩ fun c o x => Heap.get?_push_of_some _ (Heap.get?_push_of_some _ (Heap.get?_push_of_some _ (Heap.get?_push_of_some _ (Heap.get?_push_of_some _ x))))⟩
theorem call_zLT {l1 l2 : Addr} {xs ys : Array Value} {Q : Value → Shared → Prop} (k1 : s.heap.IsList l1 xs) (k2 : s.heap.IsTuple l2 ys)
    (h : ∀ h', IsZip h' (s.heap.objs.size + 4) (s.heap.objs.size + 2) (s.heap.objs.size + 3) .none → IsPair h' (s.heap.objs.size + 2) (.ref s.heap.objs.size) (.ref (s.heap.objs.size + 1)) → IsPair h' (s.heap.objs.size + 3) .none .none →
      h'.IsListIter s.heap.objs.size l1 0 → h'.IsTupleIter (s.heap.objs.size + 1) l2 0 → (∀ c o, s.heap.get? c = some o → h'.get? c = some o) → Q (.ref (s.heap.objs.size + 4)) { s with heap := h' }) :
    wpAny (model P w) A (call (.type "zip") [.ref l1, .ref l2]) Q E s := by
  refine callType_new F.called_zip (by decide) (F.typeCall_zip_2 _ _) (F.newCall_zip_2 _ _) (fun obj => F.args_object_init_3 obj _ _) F.entry_zip_new (new_zLT l1 l2 xs ys) ⟨k1, k2, ?_⟩
  have z1 : (zLT1 s.heap l1).objs.size = s.heap.objs.size + 1 := Heap.size_push ..
  have z2 : (zLT2 s.heap l1 l2).objs.size = s.heap.objs.size + 2 := by rw [Heap.size_push, z1]
  have z3 : (zLT3 s.heap l1 l2).objs.size = s.heap.objs.size + 3 := by rw [Heap.size_push, z2]
  have z4 : (zLT4 s.heap l1 l2).objs.size = s.heap.objs.size + 4 := by rw [Heap.size_push, z3]
  have g5 : (zLT5 s.heap l1 l2).get? (zLT4 s.heap l1 l2).objs.size = some _ := Heap.get?_push_size _ rfl
  have g4 : (zLT5 s.heap l1 l2).get? (zLT3 s.heap l1 l2).objs.size = some _ := Heap.get?_push_of_some _ (Heap.get?_push_size _ rfl)
  have g3 : (zLT5 s.heap l1 l2).get? (zLT2 s.heap l1 l2).objs.size = some _ := Heap.get?_push_of_some _ (Heap.get?_push_of_some _ (Heap.get?_push_size _ rfl))
  have g2 : (zLT5 s.heap l1 l2).get? (zLT1 s.heap l1).objs.size = some _ := Heap.get?_push_of_some _ (Heap.get?_push_of_some _ (Heap.get?_push_of_some _ (Heap.get?_push_size _ rfl)))
  have g1 : (zLT5 s.heap l1 l2).get? s.heap.objs.size = some _ := Heap.get?_push_of_some _ (Heap.get?_push_of_some _ (Heap.get?_push_of_some _ (Heap.get?_push_of_some _ (Heap.get?_push_size _ rfl))))
  show _ ∧ _
  rw [z2, z3, z4] at g5; rw [z1, z2] at g3; rw [z3] at g4; rw [z1] at g2; rw [z4]
  exact ⟨⟨_, g5, rfl⟩, h _ g5 g3 g4 ⟨_, g1, rfl, rfl⟩ ⟨_, g2, rfl, rfl⟩ fun c o x => Heap.get?_push_of_some _ (Heap.get?_push_of_some _ (Heap.get?_push_of_some _ (Heap.get?_push_of_some _ (Heap.get?_push_of_some _ x))))⟩
end
def iZipM (K : PySem.W.Frag) (ta : TA) : TI := fun σ H R => ta σ H fun vs H1 => ∃ a b xs ys, vs = [.ref a, .ref b] ∧
  ((SqT K H1 a xs ∧ SqL K H1 b ys ∧ R (ItzG (fun H xs => SqT K H a xs) (fun H xs => SqL K H b xs)) H1) ∨ (SqL K H1 a xs ∧ SqT K H1 b ys ∧ R (ItzG (fun H xs => SqL K H a xs) (fun H xs => SqT K H b xs)) H1))
theorem p_zipM {X : Cx} {K : PySem.W.Frag} {e e2 : Expr} {ta : TA} {p pos tpos : Pos} {elts : List Expr} {kk : Nat} (hg : Gl X "zip") (hm : X.mg "zip" = none) (ha : PA X [e, e2] ta) (hK : X.K = K := by rfl)
    (hs : starEach [e, e2] X.env = (false, eval e X.env) :: starEach [e2] X.env := by rfl) (hpl : (backTo pos (starEach [e2] X.env)).any (·.1) = false := by rfl) : PI X (.Tuple elts kk tpos) (.Call (.Name "zip" p) [e, e2] [] pos) (iZipM K ta) := by
  subst hK
  refine ⟨fun pins s σ H R I h => ?_⟩
  refine Call_ (ld_blt I hg hm PyProof.Rows.boot_zip (PyProof.Rows.callWith_type1 (thn (ha.run pos pins s σ H _ I h) fun us s1 ⟨vs, H1, I1, r1, q1⟩ => ?_) hs hpl))
  obtain ⟨a, b, xs, ys, rfl, q1⟩ := q1
  obtain ⟨u, u', rfl, ru, ru'⟩ : ∃ u u', us = [u, u'] ∧ RelV (.ref a) u ∧ RelV (.ref b) u' := by
    cases r1 with
    | cons r rr =>
      cases rr with
      | cons r' rr =>
        cases rr
        exact ⟨_, _, rfl, r, r'⟩
  cases ru
  cases ru'
  have fresh5 : ∀ c, c ∈ [s1.heap.objs.size + 4, s1.heap.objs.size + 2, s1.heap.objs.size + 3, s1.heap.objs.size, s1.heap.objs.size + 1] → FpOk X pins H1 c := fun c hcm => by
    have hle : s1.heap.objs.size ≤ c := by
      simp only [List.mem_cons, List.not_mem_nil, or_false] at hcm
      omega
    exact I1.fpOk hle (I1.hok.fresh hle)
  rcases q1 with ⟨hqx, hqy, q⟩ | ⟨hqx, hqy, q⟩
  · obtain ⟨its, rv, p1, la⟩ := (side_tup (a := a)).get X pins σ H1 s1 xs rfl I1 hqx
    obtain ⟨its2, rv2, p2, lb⟩ := (side_list (a := b)).get X pins σ H1 s1 ys rfl I1 hqy
    refine call_zTL p1 p2 fun h' hz hTI hTO h1 h2 hk => wpAny_pyIter_zip hz ?_
    have I2 : L2.Inv X pins σ H1 { s1 with heap := h' } := I1.kept (t' := s1.toks) hk
    exact ⟨s1.heap.objs.size + 4, [s1.heap.objs.size + 4, s1.heap.objs.size + 2, s1.heap.objs.size + 3, s1.heap.objs.size, s1.heap.objs.size + 1], _, _, H1, rfl, I2, turn_zipG src_tup src_list side_tup side_list (PySem.W.ktu_apart s1.heap.objs.size a b la lb), ⟨hz, hTI, ⟨_, _, hTO⟩, h1, h2⟩, fresh5, q⟩
  · obtain ⟨its, rv, p1, la⟩ := (side_list (a := a)).get X pins σ H1 s1 xs rfl I1 hqx
    obtain ⟨its2, rv2, p2, lb⟩ := (side_tup (a := b)).get X pins σ H1 s1 ys rfl I1 hqy
    refine call_zLT p1 p2 fun h' hz hTI hTO h1 h2 hk => wpAny_pyIter_zip hz ?_
    have I2 : L2.Inv X pins σ H1 { s1 with heap := h' } := I1.kept (t' := s1.toks) hk
    exact ⟨s1.heap.objs.size + 4, [s1.heap.objs.size + 4, s1.heap.objs.size + 2, s1.heap.objs.size + 3, s1.heap.objs.size, s1.heap.objs.size + 1], _, _, H1, rfl, I2, turn_zipG src_list src_tup side_list side_tup (PySem.W.ktu_apart s1.heap.objs.size a b la lb), ⟨hz, hTI, ⟨_, _, hTO⟩, h1, h2⟩, fresh5, q⟩
theorem walk_zipG {R1 R2 : Hp → List V → Prop} {xs ys : List V} {n : Nat} (hn : n = min xs.length ys.length) : Walk (ItzG R1 R2) n (fun H => R1 H xs ∧ R2 H ys) (YPair (fun i => xs[i]?) (fun i => ys[i]?)) := by
  subst hn
  refine ⟨fun i _ hi q => ?_, fun _ q => ⟨xs, ys, q.1, q.2, by omega⟩, fun i H v H' _ q y => ?_⟩
  · have k1 : i < xs.length := by omega
    have k2 : i < ys.length := by omega
    exact ⟨xs, ys, xs[i], ys[i], q.1, q.2, by simp [k1], by simp [k2]⟩
  · obtain ⟨T, x, u, k1, k2, k3, k4, k5⟩ := y
    exact ⟨T, x, u, k1, k2, k3, k4 xs q.1, k5 ys q.2⟩
end Bw
set_option Elab.async false
set_option linter.all false
set_option maxRecDepth 100000
set_option maxHeartbeats 4000000
namespace Bw
open PySem PySem.Spec PyProof.Rows L2
section
variable {X : Cx} {K : PySem.W.Frag}
theorem p_bm {o e : Expr} {es : List Expr} {to : TE} {t : TA} {name : Str} {apos cpos : Pos} {T id : String} {r : V → List V → Hp → VK → Prop} (pa : PlainAttrs T) (slot : Slot T name id) (hty : typeOf (.builtin id) = pure (.type "method_descriptor")) (hm : MtM X id r) (ho : PE X o to) (ha : PA X (e :: es) t) (hK : X.K = K := by rfl)
    (hbase : attributeBase o name X.env (eval o X.env) = eval o X.env := by rfl)
    (hfew : ((backTo cpos (starEach (e :: es) X.env)).all (fun x => !x.1) && (backToKw cpos (keywordEach [] X.env)).all (fun x => x.1.isSome) && decide ((e :: es).length + ([] : List Keyword).length + (if ([] : List Keyword).isEmpty then 0 else 1) < 30)) = true := by rfl)
    (hline : (apos.endLine == cpos.line) = true := by rfl) (hs : starEach (e :: es) X.env = (false, eval e X.env) :: starEach es X.env := by rfl) (hplain : (backTo cpos (starEach es X.env)).any (·.1) = false := by rfl) :
    PE X (.Call (.Attribute o name apos) (e :: es) [] cpos) (tBM K T r to t) := by
  subst hK
  exact pe_bm pa slot hty hm ho ha hbase hfew hline hs hplain
theorem p_zipA {e e2 : Expr} {ta : TA} {p pos tpos : Pos} {elts : List Expr} {kk : Nat} (hg : Gl X "zip") (hm : X.mg "zip" = none) (ha : PA X [e, e2] ta) (hK : X.K = K := by rfl)
    (hs : starEach [e, e2] X.env = (false, eval e X.env) :: starEach [e2] X.env := by rfl) (hpl : (backTo pos (starEach [e2] X.env)).any (·.1) = false := by rfl) : PI X (.Tuple elts kk tpos) (.Call (.Name "zip" p) [e, e2] [] pos) (RZ.iZipA K ta) := by
  subst hK
  exact RZ.pi_zipA hg hm ha hs hpl
/-! ### a walk over a list or a tuple -/
def SqS (K : PySem.W.Frag) (b : Bool) (H : Hp) (a : Addr) (xs : List V) : Prop := if b then SqL K H a xs else SqT K H a xs
def ItS (K : PySem.W.Frag) (b : Bool) (a : Addr) : It := if b then Itl K a else Itt K a
def oS (b : Bool) (xs : List V) : HO := if b then .lst xs else .tup xs
theorem SqS.of {K : PySem.W.Frag} {b : Bool} {H : Hp} {a : Addr} {xs : List V} (h : H a = some (oS b xs)) : SqS K b H a xs := by
  cases b
  · exact SqT.of h
  · exact SqL.of h
theorem SqS.or {K : PySem.W.Frag} {b : Bool} {H : Hp} {a : Addr} {xs : List V} (h : SqS K b H a xs) : SqL K H a xs ∨ SqT K H a xs := by
  cases b
  · exact .inr h
  · exact .inl h
theorem walk_seq {b : Bool} {a : Addr} {xs : List V} : Walk (ItS K b a) xs.length (fun H => SqS K b H a xs) (YAt xs) := by
  cases b
  · exact walk_tup
  · exact walk_list
def iSeq (K : PySem.W.Frag) (tl : TE) : TI := fun σ H R => tl σ H fun v H1 => ∃ (a : Addr) (xs : List V) (b : Bool), v = .ref a ∧ SqS K b H1 a xs ∧ R (ItS K b a) H1
theorem p_seq {tg l : Expr} {tl : TE} (hl : PE X l tl) (hK : X.K = K := by rfl) : PI X tg l (iSeq K tl) := by
  subst hK
  refine ⟨fun pins s σ H R I h => thn (hl.run pins s σ H _ I h) fun v s1 ⟨x, H1, I1, r1, q1⟩ => ?_⟩
  obtain ⟨a, xs, b, rfl, hq, q⟩ := q1
  cases r1
  have hf : ∀ c ∈ [s1.heap.objs.size], FpOk X pins H1 c := fun c hc => by
    rw [List.mem_singleton.mp hc]
    exact I1.fpOk (Nat.le_refl _) (I1.hok.fresh (Nat.le_refl _))
  cases b
  · obtain ⟨its, rv, p, hz⟩ := I1.tuple hq
    exact wpAny_pyIter_tuple (show s1.heap.IsTuple a its.toArray from p) ⟨s1.heap.objs.size, [s1.heap.objs.size], _, _, H1, rfl, I1.kept (t' := s1.toks) fun b o e => Heap.get?_push_of_some _ e, turn_tuple a _, ⟨_, Heap.get?_push_size _ rfl, rfl, rfl⟩, hf, q⟩
  · obtain ⟨its, rv, p, hz⟩ := I1.list hq
    exact wpAny_pyIter_list p.isList ⟨s1.heap.objs.size, [s1.heap.objs.size], _, _, H1, rfl, I1.kept (t' := s1.toks) fun b o e => Heap.get?_push_of_some _ e, turn_list a _, ⟨_, Heap.get?_push_size _ rfl, rfl, rfl⟩, hf, q⟩
end
end Bw
set_option Elab.async false
set_option linter.all false
set_option maxRecDepth 100000
set_option maxHeartbeats 4000000
namespace Bw
open PySem PySem.Spec PyProof.Rows L2
/-- a def read off its class, by the class's name -/
structure ClsFn (K : PySem.W.Frag) (mg : Str → Option Value) (x m : Str) (C f : Addr) : Prop where
  g : mg x = some (.ref C)
  sg : PySem.W.specialIn K (.ref C) "__getattribute__" = some (some (.builtin "type.__getattribute__"))
  ty : PySem.W.typeIn K (.ref C) = some (.type "type")
  rd : PySem.W.readsIn K C (.type "type") = true
  fc : PySem.W.findCls K (.ref C) (.type "type") m = some (.val (.ref f))
  kf : PySem.W.keepIn K (.ref f) = true
theorem pe_cfun {X : Cx} {x m : Str} {C f : Addr} {CX : CXT} {k : Nat} {fd : FuncData} {ps : List Str} {sp : Sp} {E : XK} {e : Expr} {es : List Expr} {t : TA} {np apos pos : Pos} {pl : Sem Bool} (T : ClsFn X.K X.mg x m C f) (F : FnOk X.prog X.w X.K X.mg X.base CX k f fd ps sp) (hr : Room k X.A) (hg : Gl X x)
    (hb : Binds X.K fd ps []) (hx : Passes CX X E) (ha : PA X (e :: es) t) (hdb : (x == ("__debug__" : Str)) = false := by decide)
    (ht : eval (.Call (.Attribute (.Name x np) m apos) (e :: es) [] pos) X.env = (do
      let ov ← eval (.Name x np) X.env
      standAt apos.atName
      let (f, first) ← holding [ov] (getMethod ov m pl)
      callWith pos f first (backTo pos (starEach (e :: es) X.env)) (backToKw pos (keywordEach [] X.env))) := by rfl)
    (he : starEach (e :: es) X.env = (false, eval e X.env) :: starEach es X.env := by rfl) (hpl : (backTo pos (starEach es X.env)).any (·.1) = false := by rfl) :
    PE X (.Call (.Attribute (.Name x np) m apos) (e :: es) [] pos) (tCall sp [] E t) := by
  refine ⟨fun pins s σ H Q I h => ?_⟩
  refine PySem.W.methodCall_KW (ld_glob I hg T.g ?_ hdb) ht
  obtain ⟨m, fr⟩ := I.fr
  refine PySem.W.method_of_cls fr I.ok.mod.kin T.sg (PySem.W.cls_val fr I.ok.mod.kin T.ty T.rd T.fc rfl ?_)
  show wpAny _ _ (callWith pos (Value.ref f) [] (backTo pos (starEach (e :: es) X.env)) []) _ _ _
  refine PySem.W.callWith_K (h₀ := X.base) I.ok.mod.kin T.kf (thn (ha.run pos pins _ σ H _ (I.tok _) h) fun us s1 ⟨vs, H1, I1, r, q⟩ => ⟨I1.kIn, ?_⟩) he hpl
  exact run_fn F hr hb .nil hx I1 r q
/-! ### raise C(), C with an __init__ of its own that wants nothing -/
theorem pmk_oex0 {X : Cx} {p pos : Pos} {CX : CXT} {x : Str} {C fI : Addr} {k : Nat} {fd : FuncData} {ps : List Str} {sp : Sp} (T : OexC X.K C) (iC : PySem.W.findIn X.K (.ref C) "__init__" = some (some (.ref fI))) (tI : PySem.W.typeIn X.K (.ref fI) = some (.type "function"))
    (F1 : FnOk X.prog X.w X.K X.mg X.base CX k fI fd ps sp) (hr : Room (k + 1) X.A) (hb : Binds X.K fd ps []) (hx : Passes CX X (fun _ _ _ => False)) (hg : Gl X x) (hm : X.mg x = some (.ref C)) (hdb : (x == ("__debug__" : Str)) = false := by decide) :
    PMk X (.Call (.Name x p) [] [] pos) (tMkO C sp [] tNil) := by
  intro pins s1 σ H1 Q I1 h
  obtain ⟨hz, q1⟩ := h
  obtain ⟨nm, q, N, bs, bm, sn, sub, ab, col, dd, k0, k1, k2, k3, k5, hC, hbm⟩ := T.cls
  refine wpAny_Call_Name_kw (ld_glob I1 hg hm ?_ hdb); refine PySem.W.callWith_K0 I1.kIn T.kC ?_
  show wpAny _ _ (call (.ref C) []) _ _ _
  obtain ⟨hp, g, dr, tk, os⟩ := s1
  have hsz : hp.objs.size ≤ hp.objs.size + 1 := Nat.le_succ _
  have hn : H1 (hp.objs.size + 1) = none := I1.hok.fresh hsz
  have hq := q1 (hp.objs.size + 1) hn
  have kk : ∀ b o, hp.get? b = some o → ((hp.push (PySem.W.kdv_tup [])).push (PySem.HandSPX.excO C hp.objs.size)).get? b = some o := fun b o e => Heap.get?_push_of_some _ (Heap.get?_push_of_some _ e)
  have hget : ((hp.push (PySem.W.kdv_tup [])).push (PySem.HandSPX.excO C hp.objs.size)).get? (hp.objs.size + 1) = some (PySem.HandSPX.excO C hp.objs.size) := by heap_get
  have I2 : L2.Inv X pins σ (upd H1 (hp.objs.size + 1) (exo (hp.objs.size + 1) C none)) ⟨(hp.push (PySem.W.kdv_tup [])).push (PySem.HandSPX.excO C hp.objs.size), g, dr, tk, os⟩ := I1.laid (t' := tk) (a := hp.objs.size + 1) (o := exo (hp.objs.size + 1) C none) (h' := (hp.push (PySem.W.kdv_tup [])).push (PySem.HandSPX.excO C hp.objs.size)) kk hsz (exo_ok hget)
  have r2 : Vals [V.ref (hp.objs.size + 1)] [Value.ref (hp.objs.size + 1)] := .cons rfl .nil
  have hl : ([Value.ref (hp.objs.size + 1)] ++ ([] : List Value)).length = ps.length := F1.len _ _ _ _ hq
  refine wpAny_call (PySem.HandSPX.call_own F.excBase_ValueError (fun Y => PySem.HandSPX.refsVE_contains Y bm hbm) (I1.kIn _ _ hC) (PySem.W.looks_findIn I1.kIn iC) (fun self => PySem.W.bind_fn I1.kIn self tI) (Nat.zero_le _)
    (codeAny_mono (F1.run _ X.stack _ _ ⟨[Value.ref (hp.objs.size + 1)], []⟩ [Value.ref (hp.objs.size + 1)] _ _ (fun _ _ _ => False) (hr.make C [] []) (I2.env0.make C [] []) (hb _ [Value.ref (hp.objs.size + 1)] I2.kIn hl) r2 hq) fun r s' hq' => ?_))
  cases r with
  | error er => exact hx pins σ _ _ er s' I2 hq'
  | ok fl =>
    cases fl with
    | ret u =>
      obtain ⟨v, H2, os2, bare2, un2, hok2, rv, ev, d, fs, ea, ed, hd1, q2⟩ := hq'
      subst ev
      obtain ⟨h2, g2, d2, t2, os'⟩ := s'
      exact ⟨rv, mk_end (raises_own T.exC T.tyC) I1 hsz kk un2 hok2 os2 bare2 ea ed hd1 q2⟩
    | next => exact False.elim hq'
    | brk => exact False.elim hq'
    | cont => exact False.elim hq'
/-- f(k = e, ..), nothing by place -/
def tCallK0 (sp : Sp) (gV : List V → List V → List V) (E : XK) (tk : TA) : TE := fun σ H Q => tk σ H fun zs H2 => sp (gV [] zs) H2 Q E
theorem pe_callK0 {X : Cx} {CX : CXT} {k : Nat} {f : Addr} {fd : FuncData} {ps ks : List Str} {sp : Sp} {E : XK} {x : Str} {p pos : Pos} {kws : List Keyword} {tk : TA} {g : List Value → List Value → List Value} {gV : List V → List V → List V}
    (F : FnOk X.prog X.w X.K X.mg X.base CX k f fd ps sp) (hr : Room k X.A) (hg : Gl X x) (hm : X.mg x = some (.ref f)) (hk : PySem.W.keepIn X.K (.ref f) = true) (hb : KBinds X.K fd ps ks g gV) (hx : Passes CX X E)
    (hkw : PK X kws tk) (hall : (backToKw pos (keywordEach kws X.env)).all (·.1.isSome) = true := by rfl) (hks : (backToKw pos (keywordEach kws X.env)).filterMap (·.1) = ks := by rfl)
    (hdb : (x == ("__debug__" : Str)) = false := by decide) (hpl : ((backTo pos (starEach [] X.env)).any (·.1) || (backToKw pos (keywordEach kws X.env)).any (·.1.isNone)) = false := by rfl) :
    PE X (.Call (.Name x p) [] kws pos) (tCallK0 sp gV E tk) := by
  refine ⟨fun pins s σ H Q I h => ?_⟩
  refine wpAny_Call_Name_kw (ld_glob I hg hm ?_ hdb)
  refine PySem.W.callWith_KW0 (h₀ := X.base) I.ok.mod.kin hk hall (thn (hkw.run pos pins s σ H _ I h) fun ws s2 ⟨zs, H2, I2, rz, q2⟩ => ⟨I2.kIn, ?_⟩) hpl
  rw [hks]
  exact run_fnk (us := []) (vs := []) F hr hb hx I2 .nil rz q2
theorem it_walk {J : It} {n : Nat} {G : Hp → Prop} {Y : Nat → Hp → V → Hp → Prop} (wk : Walk J n G Y) {H1 : Hp} {Qd : Hp → Prop} {Body : V → Hp → (Hp → Prop) → Prop} (Pv : Nat → Hp → Prop) (h0 : Pv 0 H1) (hG : ∀ i H, i ≤ n → Pv i H → G H)
    (hs : ∀ i x H H', i < n → Pv i H → Y i H x H' → Body x H' (Pv (i + 1))) (hd : ∀ H, Pv n H → Qd H) :
    ∃ W : Nat → Nat → Hp → Prop, (∃ m, W 0 m H1) ∧ ∀ i m H, W i m H → (J.stop i H ∧ Qd H) ∨ (J.go i H ∧ ∃ Nx : Hp → Prop, (∀ H', Nx H' → ∃ m', m' < m ∧ W (i + 1) m' H') ∧ ∀ x H', J.yld i H x H' → Body x H' Nx) := by
  refine ⟨fun i m H => m = n - i ∧ i ≤ n ∧ Pv i H, ⟨n, rfl, Nat.zero_le _, h0⟩, ?_⟩
  rintro i m H ⟨rfl, hi, p⟩
  have q := hG i H hi p
  by_cases hlt : i < n
  · exact .inr ⟨wk.goes i H hlt q, Pv (i + 1), fun H' p' => ⟨n - (i + 1), by omega, rfl, hlt, p'⟩, fun x H' y => hs i x H H' hlt p (wk.yields i H x H' hlt q y)⟩
  · have e : i = n := by omega
    subst e
    exact .inl ⟨wk.stops H q, hd H p⟩
section
variable {X : Cx} {K : PySem.W.Frag}
theorem p_bmR {o e : Expr} {es : List Expr} {to : TE} {t : TA} {name : Str} {apos cpos : Pos} {T id : String} {r : V → List V → Hp → VK → Prop} (pa : PlainAttrs T) (slot : Slot T name id) (hty : typeOf (.builtin id) = pure (.type "method_descriptor")) (hm : MtR X id r) (ho : PE X o to) (ha : PA X (e :: es) t) (hK : X.K = K := by rfl)
    (hbase : attributeBase o name X.env (eval o X.env) = eval o X.env := by rfl)
    (hfew : ((backTo cpos (starEach (e :: es) X.env)).all (fun x => !x.1) && (backToKw cpos (keywordEach [] X.env)).all (fun x => x.1.isSome) && decide ((e :: es).length + ([] : List Keyword).length + (if ([] : List Keyword).isEmpty then 0 else 1) < 30)) = true := by rfl)
    (hline : (apos.endLine == cpos.line) = true := by rfl) (hs : starEach (e :: es) X.env = (false, eval e X.env) :: starEach es X.env := by rfl) (hplain : (backTo cpos (starEach es X.env)).any (·.1) = false := by rfl) :
    PE X (.Call (.Attribute o name apos) (e :: es) [] cpos) (tBM K T r to t) := by
  subst hK
  exact pe_bm pa slot hty hm ho ha hbase hfew hline hs hplain
theorem c_max (hc : X.calm = true) (h : X.K = K := by rfl) : CallR X (.builtin "max") (rMax K) := by
  subst h
  exact cr_max hc
end
end Bw
set_option Elab.async false
set_option linter.all false
set_option maxRecDepth 100000
set_option maxHeartbeats 4000000
namespace Bw
open PySem PySem.Spec PyProof.Rows L2 LamX
/-! ### try: .. except x as n: .. and more clauses, where the first one takes whatever is raised -/
def wAs1 (K : PySem.W.Frag) (c : Value) (i : Nat) (ts : Addr → Value → Option Addr → TS) (D : Ends) : WX := fun cls d σ H =>
  PySem.W.exmOne K cls c = some true ∧ ∀ a, H a = none → ts a cls d { nx := fun σ' H' => D.nx (σ'.set i none) H', rt := D.rt, bk := fun σ' H' => D.bk (σ'.set i none) H', ct := fun σ' H' => D.ct (σ'.set i none) H' } (σ.set i (some (.ref a))) H
theorem ps_try_as1 {X : Cx} {x n : Str} {c : Value} {i : Nat} {body suite : List Stmt} {b₀ : Stmt} {np pos pos' : Pos} {tb : WX → TS} {ts : Addr → Value → Option Addr → TS} {hds : List ExceptHandler} (hs : X.stack = X.env :: X.outer) (hf : X.env.frame = some X.env.locals) (hN : X.N.Nodup) (hi : X.N[i]? = some n) (hln : X.env.kindOf n = some .local) (hc : Names X x c)
    (hb : ∀ (W : WX) (pn : List (Addr × Obj)) (xe : Value → Shared → Prop), Takes (X.tr pn xe) W → PassesOwn (model X.prog X.w) X.A X.env xe → PSs (X.tr pn xe) body (tb W))
    (hsu : ∀ (a : Addr) (oe : Obj) (cls : Value) (d : Option Addr) (pn : List (Addr × Obj)), Zc cls d oe → (∃ vs, oe.data = .fields vs) → PSs (X.suite a ((a, oe) :: pn)) (b₀ :: suite) (ts a cls d)) :
    PS X (.Try body (.ExceptHandler (some (.Name x np)) (some n) (b₀ :: suite) pos' :: hds) [] [] pos) (fun D σ H => tb (wAs1 X.K c i ts D) D σ H) := by
  refine ⟨fun pins s σ H D I h => ?_⟩
  have ok := I.ok
  have hfr : X.A.frames = some (X.env :: X.outer) := by rw [ok.frames, hs]
  have hloc : Loc X.env.scope n := .inl hln
  refine wpAny_Try_except ?_
  refine wpAny_mono ((hb (wAs1 X.K c i ts D) (X.pn ++ pins) (fun e s₁ => wpAny (model X.prog X.w) X.A (noteFrame e X.env) (fun _ s₂ => wpAny (model X.prog X.w) X.A (setFlight e none) (fun _ s₃ => wpAny (model X.prog X.w) X.A (handleBy e X.env (.ExceptHandler (some (.Name x np)) (some n) (b₀ :: suite) pos' :: hds)) (SP X pins D) X.xe s₃) X.xe s₂) X.xe s₁) (fun u s' xx => ?_) PassesOwn.looking).run [] s σ H D (I.toTry _) h) (fun f s1 hsp => ?_) (fun e s1 he => he)
  · obtain ⟨a, B, sI, pins', σ', H', cls, d, rfl, J', nb, up, sky, na, os, ag, hb1, hyes⟩ := xx
    have J : L2.Inv X pins σ' H' sI := J'.ofTry ok
    have sky' : Sky B (X.env :: X.outer) a (Zc cls d) X.env.locals s'.heap := by rw [← hs]; exact sky
    show wpAny (model X.prog X.w) X.A (noteFrame (.ref a) X.env) _ _ _
    refine Sky.land Zc.steady hfr hf sky' fun h3 fl3 up3 => ?_
    have J3 : L2.Inv X pins σ' H' { s' with heap := h3 } := J.landed nb fl3.1 (up.trans up3) os ag
    obtain ⟨oe3, vs3, he3, hz3, hd3⟩ := fl3.there
    have nfr : a ∉ frs (X.env :: X.outer) := fun hm => by
      obtain ⟨_, o', e', hnf⟩ := fl3.2.2.1.mem hm
      rw [he3] at e'; cases e'
      exact hnf _ hd3
    have nL : a ≠ X.env.locals := fun z => nfr (List.mem_filterMap.mpr ⟨X.env, List.mem_cons_self, by rw [hf, z]⟩)
    have nF : a ∉ X.fs := fun hm => by
      obtain ⟨e, he, q⟩ := List.mem_filterMap.mp hm
      exact nfr (List.mem_filterMap.mpr ⟨e, List.mem_cons_of_mem _ he, q⟩)
    have S3 := J3.suite he3 hd3 na nL nF
    refine wpAny_handleBy_cons (codeAny_handlers_test ?_) (by intro q; cases q)
    have LT : PySem.W.Looks (model X.prog X.w) h3 (typeOf (.ref a)) cls := fun A Q E s k q => wpAny_typeOf_ref (k _ _ he3) (by rw [hz3.1]; exact q)
    have LM := PySem.W.exm_one (M := model X.prog X.w) (J3.kIn) LT hb1
    have test : ∀ {Q : Value → Shared → Prop} {E : Value → Shared → Prop}, Q c { s' with heap := h3 } → wpAny (model X.prog X.w) (X.A.mark (some (.ref a))) (eval (.Name x np) X.env) Q E { s' with heap := h3 } := fun {Q E} q => by
      obtain ⟨hg, hdbg, hm | ⟨hm, hv, hnn⟩⟩ := hc
      · exact ld_glob (X := X.suite a ((a, oe3) :: (X.pn ++ pins))) S3 hg hm q hdbg
      · exact ld_blt (X := X.suite a ((a, oe3) :: (X.pn ++ pins))) S3 hg hm hv q hnn hdbg
    refine test (LM.here ?_)
    refine codeAny_handlers_suite_as ?_
    refine HandSPX.lands_againZ fl3 fun h4 fl4 up4 => ?_
    have J4 : L2.Inv X pins σ' H' { s' with heap := h4 } := J.landed nb fl4.1 ((up.trans up3).trans up4) os ag
    obtain ⟨oe4, vs4, he4, hz4, hd4⟩ := fl4.there
    have S4 := J4.suite he4 hd4 na nL nF
    refine store_ok (X := X.suite a ((a, oe4) :: (X.pn ++ pins))) (v := .ref a) S4 hN hi hloc rfl (fun s5 S5 => ?_) (.inr hln)
    refine wpAny_mono ((hsu a oe4 cls d (X.pn ++ pins) hz4 ⟨_, hd4⟩).run [] s5 _ H' _ S5 (hyes a na)) (fun f s6 hsp => ?_) (fun _ _ z => False.elim z)
    have end_ : ∀ {σ6 : L2.St} {H6 : Hp} {Q : Shared → Prop}, L2.Inv (X.suite a ((a, oe4) :: (X.pn ++ pins))) [] σ6 H6 s6 → (∀ s7, L2.Inv X pins (σ6.set i none) H6 s7 → Q s7) → wpAny (model X.prog X.w) X.A (do bindName X.env n .none; unbindBehindTheSuite X.env n pos') (fun _ s7 => Q s7) X.xe s6 := fun {σ6 H6 Q} S6 hq => gone_ok (S6.unsuite ok) hN hi hln hq
    cases f with
    | next => exact let ⟨σ6, H6, S6, q6⟩ := hsp; end_ S6 fun s7 J7 => ⟨_, _, J7, q6⟩
    | brk => exact let ⟨σ6, H6, S6, q6⟩ := hsp; end_ S6 fun s7 J7 => ⟨_, _, J7, q6⟩
    | cont => exact let ⟨σ6, H6, S6, q6⟩ := hsp; end_ S6 fun s7 J7 => ⟨_, _, J7, q6⟩
    | ret u => exact let ⟨v6, σ6, H6, S6, r6, q6⟩ := hsp; end_ S6 fun s7 J7 => ⟨_, _, _, J7, r6, q6⟩
  · cases f with
    | next => exact let ⟨σ', H', J', q⟩ := hsp; wpAny_execs_nil ⟨σ', H', J'.ofTry ok, q⟩
    | brk => exact let ⟨σ', H', J', q⟩ := hsp; ⟨σ', H', J'.ofTry ok, q⟩
    | cont => exact let ⟨σ', H', J', q⟩ := hsp; ⟨σ', H', J'.ofTry ok, q⟩
    | ret u => exact let ⟨v, σ', H', J', r, q⟩ := hsp; ⟨v, σ', H', J'.ofTry ok, r, q⟩
/-! ### e.n of a caught error whose class is known only then -/
def tXfD (K : PySem.W.Frag) (a : Addr) (cls : Value) (d : Option Addr) (n : Str) (i : Nat) : TE := fun σ H Q => σ[i]? = some (some (.ref a)) ∧ ∃ (C dd : Addr) (fs : List (Str × V)) (v : V), cls = .ref C ∧ XfC K C ∧ PySem.W.findIn K (.ref C) n = some none ∧ d = some dd ∧ H dd = some (.xd fs) ∧ fs.lookup n = some v ∧ Q v H
theorem pe_xfD {X : Cx} {a : Addr} {oe : Obj} {cls : Value} {d : Option Addr} {pn : List (Addr × Obj)} {e : Expr} {i : Nat} {pos : Pos} {n : Str} (hz : Zc cls d oe) (hf : ∃ vs, oe.data = .fields vs) (he : PE (X.suite a ((a, oe) :: pn)) e (tVar i)) (hb : attributeBase e n X.env (eval e X.env) = eval e X.env := by rfl) :
    PE (X.suite a ((a, oe) :: pn)) (.Attribute e n pos) (tXfD X.K a cls d n i) := by
  refine ⟨fun pins s σ H Q I h => ?_⟩
  obtain ⟨h1, C, dd, fs, v, rfl, T, hno, rfl, h2, h3, q⟩ := h
  exact (pe_xf T hno hz hf he hb).run pins s σ H Q I ⟨.ref a, h1, rfl, rfl, dd, fs, v, rfl, h2, h3, q⟩
/-! ### the word of a refusal, or none -/
/-- an error that a call may let out, with its word -/
def ErrAt (K : PySem.W.Frag) (CB : Addr) (cls : Value) (d : Option Addr) (H : Hp) (v : V) : Prop := ∃ (C dd : Addr) (fs : List (Str × V)), cls = .ref C ∧ d = some dd ∧ PySem.W.exmOne K (.ref C) (.ref CB) = some true ∧ XfC K C ∧ PySem.W.findIn K (.ref C) "word" = some none ∧ H dd = some (.xd fs) ∧ fs.lookup ("word" : Str) = some v
def TWord (K : PySem.W.Frag) (CB : Addr) : (XK → Hp → VK → Prop) → Hp → VK → Prop := fun tl H Q => tl (fun cls d H' => ∃ v, ErrAt K CB cls d H' v ∧ Q v H') H (fun _ H' => Q (.str "") H')
theorem takes_len {X : Cx} {W : WX} (tk : Takes X W) : Takes X (fun cls d σ H => σ.length = X.N.length → W cls d σ H) := fun u s' xx => by
  obtain ⟨a, B, sI, pins', σ', H', cls, d, rfl, J', nb, up, sky, na, os, ag, hw⟩ := xx
  exact tk _ _ ⟨a, B, sI, pins', σ', H', cls, d, rfl, J', nb, up, sky, na, os, ag, hw J'.len⟩
theorem word_gives {X : Cx} {Ng : List Str} {x a q : Str} {sg : Scope} {g CB : Addr} {cdg : Value} {j : Nat} {h2 : ExceptHandler} {p1 p2 p3 p4 p5 p6 p7 p8 p9 p10 p11 : Pos} (hge : sg.names.lookup ("BudError" : Str) = some .globalImplicit) (hme : X.mg "BudError" = some (.ref CB)) (hNd : Ng.Nodup) (hN1 : Ng[1]? = some ("e" : Str)) (hk : sg.names.lookup ("e" : Str) = some .local)
    (h0 : ∀ f : Addr, (L2.start Ng [V.ref f])[0]? = some (some (V.ref f))) :
    GivesTo X Ng x sg g cdg [.Try [.Expr (.Call (.Name a p1) [] [] p2) p3] [.ExceptHandler (some (.Name "BudError" p4)) (some "e") [.Return (some (.Attribute (.Name "e" p5) "word" p6)) p7] p8, h2] [] [] p9, .Return (some (.Constant (.str "") j p10)) p11] a q (TWord X.K CB) := by
  intro f c' s H Q tl act hc h
  have hgl : Gl (cxOf C8.CX0 X.prog X.w X.K X.mg X.base Ng x sg g cdg X.A X.stack s H C8.E0).nox "BudError" := hge
  refine ⟨_, pss_cons (ps_try_as1 (X := (cxOf C8.CX0 X.prog X.w X.K X.mg X.base Ng x sg g cdg X.A X.stack s H C8.E0).nox) (c := .ref CB) (i := 1)
      (tb := fun W D σ H => ∃ Ech : XK, (∀ cls d σ' H', Ech cls d H' → σ'.length = Ng.length → W cls d σ' H') ∧ σ[0]? = some (some (.ref f)) ∧ H c' = some (CodeO c' q) ∧ tl Ech H fun _ H' => D.nx σ H')
      (ts := fun a cls d => tRet (tXfD X.K a cls d "word" 1)) rfl rfl hNd hN1 hk ⟨hgl, by decide, .inl hme⟩ (fun W pn xe tk _ => ?_) (fun b oe cls d pn hz hf => pss_one (ps_ret (pe_xfD hz hf (pe_var hN1 (.inl hk)))))) (pss_one (ps_ret pe_str)), ?_⟩
  · refine ⟨fun pins s' σ H' D I h' => ?_⟩
    obtain ⟨Ech, hW, h1, h2, h3⟩ := h'
    have hp := act _ pn xe Ech p1 p2 (takes_len tk) hW
    have hq := pss_one (ps_expr (pos := p3) hp)
    exact hq.run pins s' σ H' D I ⟨h1, h2, h3⟩
  · refine ⟨fun cls d H' => ∃ v, ErrAt X.K CB cls d H' v ∧ Q v H', fun cls d σ' H' hE hl => ?_, h0 f, hc, h⟩
    obtain ⟨v, ⟨C, dd, fs, rfl, rfl, e1, e2, e3, e4, e5⟩, hQ⟩ := hE
    refine ⟨e1, fun b _ => ⟨?_, C, dd, fs, v, rfl, e2, e3, rfl, e4, e5, hQ⟩⟩
    have : 1 < σ'.length := by
      rw [hl]
      exact (List.getElem?_eq_some_iff.mp hN1).1
    rw [List.getElem?_set_self this]
end Bw
set_option Elab.async false
set_option linter.all false
set_option maxRecDepth 100000
set_option maxHeartbeats 4000000
namespace Bw
open PySem PySem.Spec PyProof.Rows L2
/-! ### o.m(k=v): a method called by one keyword -/
def tMethK (C : Addr) (m : Str) (sp : Sp) (gV : List V → List V → List V) (E : XK) (ta : TE) (tk : TA) : TE := fun σ H Q => ta σ H fun x H1 => ∃ a dx fs, x = .ref a ∧ H1 a = some (.ins C dx fs) ∧ fs.lookup m = none ∧ tk σ H1 fun zs H2 => sp (gV [x] zs) H2 Q E
theorem pe_methK0 {X : Cx} {CX : CXT} {k : Nat} {C f : Addr} {fd : FuncData} {ps ks : List Str} {sp : Sp} {E : XK} {m : Str} {o : Expr} {ta : TE} {apos pos : Pos} {kws : List Keyword} {tk : TA} {g : List Value → List Value → List Value} {gV : List V → List V → List V} {pl : Sem Bool}
    (he : PE X o ta) (c : Cls X.K C) (hm : Meth X.K C m f) (F : FnOk X.prog X.w X.K X.mg X.base CX k f fd ps sp) (hr : Room k X.A) (hb : KBinds X.K fd ps ks g gV) (hx : Passes CX X E)
    (hkw : PK X kws tk) (hall : (backToKw pos (keywordEach kws X.env)).all (·.1.isSome) = true := by rfl) (hks : (backToKw pos (keywordEach kws X.env)).filterMap (·.1) = ks := by rfl)
    (hpl : ((backTo pos (starEach [] X.env)).any (·.1) || (backToKw pos (keywordEach kws X.env)).any (·.1.isNone)) = false := by rfl)
    (ht : eval (.Call (.Attribute o m apos) [] kws pos) X.env = (do
      let ov ← eval o X.env
      standAt apos.atName
      let (f, first) ← holding [ov] (getMethod ov m pl)
      callWith pos f first (backTo pos (starEach [] X.env)) (backToKw pos (keywordEach kws X.env))) := by rfl) :
    PE X (.Call (.Attribute o m apos) [] kws pos) (tMethK C m sp gV E ta tk) := by
  refine ⟨fun pins s σ H Q I h => ?_⟩
  refine PySem.W.methodCall_KW (pl := pl) (thn (he.run pins s σ H _ I h) fun u s1 ⟨x, H1, I1, rx, a, dx, fs, ex, ea, l, q⟩ => ?_) ht
  subst ex
  obtain rfl : u = Value.ref a := rx
  refine getmeth_ok I1 ea c hm l ?_
  refine PySem.W.callWith_KW0 (h₀ := X.base) (first := [.ref a]) I.ok.mod.kin hm.kp hall (thn (hkw.run pos pins s1 σ H1 _ I1 q) fun ws s2 ⟨zs, H2, I2, rz, q2⟩ => ⟨I2.kIn, ?_⟩) hpl
  rw [hks]
  exact run_fnk (us := [.ref a]) (vs := [.ref a]) F hr hb hx I2 (.cons rfl .nil) rz q2
/-! ### {k: v}, k a tuple -/
def tDisp1T (tk tv : TE) : TE := fun σ H Q => ∀ p, H p = none → tk σ (upd H p (.dT [])) fun x H1 => tv σ H1 fun y H2 => H2 p = some (.dT []) ∧ ∃ (b : Addr) (q : List Key), x = .ref b ∧ H2 b = some (.tup (q.map kV)) ∧ Q (.ref p) (upd H2 p (.dT [(q, y)]))
theorem pe_disp1T {X : Cx} {pos : Pos} {k v : Expr} {tk tv : TE} (hu : X.A.units < cLine) (hk : PE X k tk) (hv : PE X v tv) : PE X (.Dict [some k] [v] pos) (tDisp1T tk tv) := by
  refine ⟨fun pins s σ H Q I q => ?_⟩
  have hn := I.hok.fresh (Nat.le_refl s.heap.objs.size)
  have I1 := I.laid (a := s.heap.objs.size) (o := .dT []) (h' := s.heap.push { cls := .type "dict", data := .dict #[] }) (t' := s.toks) (fun _ _ q => Heap.get?_push_of_some _ q) (Nat.le_refl _) (dt_empty s.heap I.big)
  have h : PPs X pos [some k] [v] [(tk, tv)] := pps_cons hk hv pps_nil
  let Qp : List (V × V) → Hp → Prop := fun ps H2 => match ps with
    | [(x, y)] => H2 s.heap.objs.size = some (.dT []) ∧ ∃ (b : Addr) (q : List Key), x = .ref b ∧ H2 b = some (.tup (q.map kV)) ∧ Q (.ref s.heap.objs.size) (upd H2 s.heap.objs.size (.dT [(q, y)]))
    | _ => False
  have rd : tPairs [(tk, tv)] σ (upd H s.heap.objs.size (.dT [])) Qp := q _ hn
  rw [arm_eval_Dict, zip_pairTrees [some k] [v] X.env pos rfl rfl, dictDisplay_pairs _ (by simp [pairTrees]) (by show 1 < 17; decide)]
  refine wpAny_bind (wpAny_standAt (wpAny_bind ?_))
  unfold subDict
  refine wpAny_bind (wpAny_alloc ?_)
  refine wpAny_bind (wpAny_holding ?_)
  rw [if_pos (by show 1 ≤ 15; decide)]
  refine wpAny_bind (thn (h.run pins _ σ _ _ I1 rd) fun ws s2 ⟨ps, H2, I2, rel, qp⟩ => ?_)
  obtain ⟨b, qk, y, ep, e, eb, q2⟩ : ∃ (b : Addr) (qk : List Key) (y : V), ps = [(.ref b, y)] ∧ H2 s.heap.objs.size = some (.dT []) ∧ H2 b = some (.tup (qk.map kV)) ∧ Q (.ref s.heap.objs.size) (upd H2 s.heap.objs.size (.dT [(qk, y)])) := by
    match ps, qp with
    | [(x, y)], qp =>
      obtain ⟨e, b, qk, rfl, eb, q2⟩ := qp
      exact ⟨b, qk, y, rfl, e, eb, q2⟩
  subst ep
  obtain ⟨u, r, rfl, hur⟩ : ∃ u r, ws = [(u, r)] ∧ RelV (.ref b) u ∧ RelV y r := by
    cases rel with
    | cons h t =>
      cases t
      exact ⟨_, _, rfl, h⟩
  obtain ⟨ru, rr⟩ := hur
  obtain rfl : u = Value.ref b := ru
  refine wpAny_holding ?_
  rw [List.forIn_cons]
  obtain ⟨z, hd, xs, rel2, dd⟩ := dt_of I2.hok e
  have hx : xs = [] := by
    cases rel2
    rfl
  subst hx
  refine wpAny_bind (wpAny_bind (wpAny_bind (wpAny_dictSet_heap (hsz := Nat.zero_le _) (knd := tupleKind (mixKind X.prog X.w)) (show X.A.units < cLine from hu) (key_of I2.hok eb) dd fun h' dd' hs => wpAny_pure ?_)))
  show wpAny _ _ (forIn ([] : List (Value × Value)) PUnit.unit _) _ _ _
  rw [List.forIn_nil]
  refine wpAny_pure (wpAny_pure (wpAny_pure (wpAny_pure ?_)))
  obtain ⟨qo, es, ep, hq, h2, h3, h4, _, h5⟩ := dd'
  refine ⟨.ref s.heap.objs.size, _, ?_, rfl, q2⟩
  refine d_write I2 (by rw [e]; exact True.intro) hs ⟨qo, hq⟩ ⟨by show 1 ≤ sizeLine; decide, hd, _, (KT.put rel2 qk eb rr).keeps fun c ys ec => ?_, qo, es, ep, hq, h2, h3, h4, h5⟩
  rw [upd_ne (ne_of ec e (fun z => nomatch z))]
  exact ec
end Bw
set_option Elab.async false
set_option linter.all false
set_option maxRecDepth 100000
set_option maxHeartbeats 1000000
namespace Bw
open PySem PySem.Spec PyProof.Rows L2
/-! ### sums of products, as what they make of any weighing of powers -/
abbrev Tm := List Int × Int
def Lf (ts : List Tm) (φ : List Int → Int) : Int := (ts.map fun a => a.2 * φ a.1).sum
theorem Lf_nil (φ : List Int → Int) : Lf [] φ = 0 := rfl
theorem Lf_cons (a : Tm) (ts : List Tm) (φ : List Int → Int) : Lf (a :: ts) φ = a.2 * φ a.1 + Lf ts φ := by
  unfold Lf
  rw [List.map_cons, List.sum_cons]
theorem Lf_append (a b : List Tm) (φ : List Int → Int) : Lf (a ++ b) φ = Lf a φ + Lf b φ := by
  unfold Lf
  rw [List.map_append, List.sum_append]
theorem Lf_perm {a b : List Tm} (h : a.Perm b) (φ : List Int → Int) : Lf a φ = Lf b φ := by
  induction h with
  | nil => rfl
  | cons x _ ih => rw [Lf_cons, Lf_cons, ih]
  | swap x y l =>
    rw [Lf_cons, Lf_cons, Lf_cons, Lf_cons]
    omega
  | trans _ _ h1 h2 => exact h1.trans h2
theorem Lf_filter (ts : List Tm) (φ : List Int → Int) : Lf (ts.filter fun a => decide (a.2 ≠ 0)) φ = Lf ts φ := by
  induction ts with
  | nil => rfl
  | cons a ts ih =>
    rw [List.filter_cons]
    by_cases h : a.2 = 0
    · rw [if_neg (by simp [h]), ih, Lf_cons, h]
      omega
    · rw [if_pos (by simp [h]), Lf_cons, Lf_cons, ih]
theorem Lf_map (ts : List Tm) (g : List Int → List Int) (φ : List Int → Int) : Lf (ts.map fun a => (g a.1, a.2)) φ = Lf ts fun p => φ (g p) := by
  induction ts with
  | nil => rfl
  | cons a ts ih => rw [List.map_cons, Lf_cons, Lf_cons, ih]
theorem Lf_neg (ts : List Tm) (φ : List Int → Int) : Lf (ts.map fun a => (a.1, -a.2)) φ = -(Lf ts φ) := by
  induction ts with
  | nil => rfl
  | cons a ts ih =>
    rw [List.map_cons, Lf_cons, Lf_cons, ih]
    show -a.2 * φ a.1 + -(Lf ts φ) = -(a.2 * φ a.1 + Lf ts φ)
    rw [Int.neg_mul]
    omega
/-- products falling by their powers, none of count 0 -/
def Falls (r : List Tm) : Prop := r.Pairwise (fun a b => HT.lexLt b.1 a.1 = true)
structure Cn (ℓ : (List Int → Int) → Int) (r : List Tm) : Prop where
  fall : Falls r
  nz : ∀ a ∈ r, a.2 ≠ 0
  lf : ∀ φ, Lf r φ = ℓ φ
theorem lex_irr (p : List Int) : HT.lexLt p p = false := by
  cases h : HT.lexLt p p with
  | false => rfl
  | true =>
    have := NtL.lex_asym _ _ h
    rw [h] at this
    cases this
theorem lex_ne {p q : List Int} (h : HT.lexLt p q = true) : p ≠ q := fun e => by
  rw [e, lex_irr] at h
  cases h
theorem lex_tot : ∀ {p q : List Int}, HT.lexLt p q = false → HT.lexLt q p = false → p = q
  | [], [], _, _ => rfl
  | [], _ :: _, h, _ => by cases h
  | _ :: _, [], _, h => by cases h
  | x :: p, y :: q, h1, h2 => by
    rw [HT.lexLt_cons] at h1 h2
    by_cases e : x = y
    · subst e
      rw [if_pos rfl] at h1 h2
      rw [lex_tot h1 h2]
    · rw [if_neg e] at h1
      rw [if_neg (fun z => e z.symm)] at h2
      have a1 := of_decide_eq_false h1
      have a2 := of_decide_eq_false h2
      omega
/-- the count of p in r -/
def ind (p : List Int) : List Int → Int := fun q => if q = p then 1 else 0
theorem Lf_ind_none {r : List Tm} {p : List Int} (h : ∀ a ∈ r, a.1 ≠ p) : Lf r (ind p) = 0 := by
  induction r with
  | nil => rfl
  | cons a r ih =>
    rw [Lf_cons, ih fun b hb => h b (List.mem_cons_of_mem _ hb)]
    unfold ind
    rw [if_neg (h a (List.mem_cons_self ..))]
    omega
theorem Lf_ind_mem {r : List Tm} (hf : Falls r) {p : List Int} {c : Int} (h : (p, c) ∈ r) : Lf r (ind p) = c := by
  induction r with
  | nil => cases h
  | cons a r ih =>
    have hf' := List.pairwise_cons.mp hf
    rw [Lf_cons]
    rcases List.mem_cons.mp h with e | h
    · subst e
      rw [Lf_ind_none fun b hb => lex_ne (hf'.1 b hb)]
      show c * ind p p + 0 = c
      unfold ind
      rw [if_pos rfl]
      omega
    · have ne : a.1 ≠ p := Ne.symm (lex_ne (hf'.1 (p, c) h))
      rw [ih hf'.2 h]
      unfold ind
      rw [if_neg ne]
      omega
theorem Cn.mem {ℓ : (List Int → Int) → Int} {r : List Tm} (h : Cn ℓ r) (p : List Int) (c : Int) : (p, c) ∈ r ↔ c ≠ 0 ∧ ℓ (ind p) = c := by
  constructor
  · intro m
    refine ⟨h.nz _ m, ?_⟩
    rw [← h.lf, Lf_ind_mem h.fall m]
  · rintro ⟨hc, e⟩
    rw [← h.lf] at e
    by_cases m : ∃ a ∈ r, a.1 = p
    · obtain ⟨a, ha, rfl⟩ := m
      rw [Lf_ind_mem h.fall (p := a.1) (c := a.2) ha] at e
      rw [← e]
      exact ha
    · rw [Lf_ind_none fun a ha e' => m ⟨a, ha, e'⟩] at e
      exact absurd e.symm hc
theorem falls_uniq : ∀ {r r' : List Tm}, Falls r → Falls r' → (∀ a, a ∈ r ↔ a ∈ r') → r = r'
  | [], [], _, _, _ => rfl
  | [], b :: r', _, _, h => absurd ((h b).mpr (List.mem_cons_self ..)) (by simp)
  | a :: r, [], _, _, h => absurd ((h a).mp (List.mem_cons_self ..)) (by simp)
  | a :: r, b :: r', h1, h2, h => by
    have f1 := List.pairwise_cons.mp h1
    have f2 := List.pairwise_cons.mp h2
    have e : a = b := by
      rcases List.mem_cons.mp ((h a).mp (List.mem_cons_self ..)) with e | m
      · exact e
      · rcases List.mem_cons.mp ((h b).mpr (List.mem_cons_self ..)) with e | m'
        · exact e.symm
        · have x := f2.1 a m
          have y := f1.1 b m'
          have z := NtL.lex_asym _ _ x
          rw [y] at z
          cases z
    subst e
    have hr : r = r' := falls_uniq f1.2 f2.2 fun c => by
      constructor
      · intro m
        rcases List.mem_cons.mp ((h c).mp (List.mem_cons_of_mem _ m)) with e | m'
        · subst e
          exact absurd rfl (lex_ne (f1.1 c m))
        · exact m'
      · intro m
        rcases List.mem_cons.mp ((h c).mpr (List.mem_cons_of_mem _ m)) with e | m'
        · subst e
          exact absurd rfl (lex_ne (f2.1 c m))
        · exact m'
    rw [hr]
theorem Cn.uniq {ℓ : (List Int → Int) → Int} {r r' : List Tm} (h : Cn ℓ r) (h' : Cn ℓ r') : r = r' := by
  refine falls_uniq h.fall h'.fall fun a => ?_
  obtain ⟨p, c⟩ := a
  rw [h.mem, h'.mem]
/-! ### books: a count for each powers, in the order in which they came -/
def getB (bk : List Tm) (p : List Int) : Option Int := (bk.find? fun a => decide (a.1 = p)).map (·.2)
def putB (bk : List Tm) (p : List Int) (c : Int) : List Tm := if (bk.any fun a => decide (a.1 = p)) = true then bk.map (fun a => if a.1 = p then (a.1, c) else a) else bk ++ [(p, c)]
def NdB (bk : List Tm) : Prop := (bk.map (·.1)).Nodup
theorem putB_keys {bk : List Tm} {p : List Int} {c : Int} (h : NdB bk) : NdB (putB bk p c) := by
  unfold putB NdB
  by_cases q : (bk.any fun a => decide (a.1 = p)) = true
  · rw [if_pos q, List.map_map]
    have e : ((fun a : Tm => a.1) ∘ fun a : Tm => if a.1 = p then (a.1, c) else a) = fun a => a.1 := by
      funext a
      show (if a.1 = p then (a.1, c) else a).1 = a.1
      split <;> rfl
    rw [e]
    exact h
  · rw [if_neg q, List.map_append]
    refine List.nodup_append.mpr ⟨h, by simp, ?_⟩
    intro x hx y hy e
    obtain ⟨a, ha, rfl⟩ := List.mem_map.mp hx
    have : y = p := by simpa using hy
    subst this
    exact q (List.any_eq_true.mpr ⟨a, ha, decide_eq_true e⟩)
theorem putB_len (bk : List Tm) (p : List Int) (c : Int) : (putB bk p c).length ≤ bk.length + 1 := by
  unfold putB
  split
  · rw [List.length_map]
    omega
  · rw [List.length_append]
    exact Nat.le_refl _
theorem Lf_repl {p : List Int} {c d : Int} : ∀ {bk : List Tm}, NdB bk → (p, d) ∈ bk → ∀ φ, Lf (bk.map fun a => if a.1 = p then (a.1, c) else a) φ = Lf bk φ + (c - d) * φ p
  | [], _, h, _ => by cases h
  | a :: bk, nd, h, φ => by
    have nd' := List.nodup_cons.mp nd
    rw [List.map_cons, Lf_cons, Lf_cons]
    by_cases e : a.1 = p
    · have rest : (bk.map fun a => if a.1 = p then (a.1, c) else a) = bk := by
        have z : bk.map (fun a => if a.1 = p then (a.1, c) else a) = bk.map id := List.map_congr_left fun b hb => by
          rw [if_neg]
          · rfl
          · intro e'
            exact nd'.1 (List.mem_map.mpr ⟨b, hb, e'.trans e.symm⟩)
        rw [z, List.map_id]
      have ad : a = (p, d) := by
        rcases List.mem_cons.mp h with h | h
        · exact h.symm
        · exact absurd (List.mem_map.mpr ⟨(p, d), h, e.symm⟩) nd'.1
      rw [rest, if_pos e, ad]
      show c * φ p + Lf bk φ = d * φ p + Lf bk φ + (c - d) * φ p
      rw [Int.sub_mul]
      omega
    · rw [if_neg e]
      have h' : (p, d) ∈ bk := by
        rcases List.mem_cons.mp h with h | h
        · rw [← h] at e
          exact absurd rfl e
        · exact h
      rw [Lf_repl nd'.2 h' φ]
      omega
theorem getB_some {bk : List Tm} {p : List Int} {d : Int} (h : getB bk p = some d) : (p, d) ∈ bk := by
  unfold getB at h
  obtain ⟨a, ha, rfl⟩ := Option.map_eq_some_iff.mp h
  have e := List.find?_some ha
  have m := List.mem_of_find?_eq_some ha
  have : a.1 = p := of_decide_eq_true e
  rw [← this]
  exact m
theorem getB_none {bk : List Tm} {p : List Int} (h : getB bk p = none) : (bk.any fun a => decide (a.1 = p)) = false := by
  unfold getB at h
  have z := Option.map_eq_none_iff.mp h
  cases q : (bk.any fun a => decide (a.1 = p)) with
  | false => rfl
  | true =>
    obtain ⟨a, ha, e⟩ := List.any_eq_true.mp q
    exact absurd e (List.find?_eq_none.mp z a ha)
def addB (bk : List Tm) (p : List Int) (c : Int) : List Tm := putB bk p ((getB bk p).getD 0 + c)
theorem Lf_addB {bk : List Tm} (nd : NdB bk) (p : List Int) (c : Int) (φ : List Int → Int) : Lf (addB bk p c) φ = Lf bk φ + c * φ p := by
  unfold addB
  cases h : getB bk p with
  | none =>
    unfold putB
    rw [getB_none h, if_neg (by simp), Lf_append, Lf_cons, Lf_nil]
    show Lf bk φ + ((0 + c) * φ p + 0) = _
    rw [Int.zero_add]
    omega
  | some d =>
    unfold putB
    have m := getB_some h
    rw [if_pos (List.any_eq_true.mpr ⟨_, m, decide_eq_true rfl⟩), Lf_repl nd m]
    show Lf bk φ + (d + c - d) * φ p = _
    have e : d + c - d = c := by omega
    rw [e]
/-- a book as a dict -/
def enc (a : Tm) : List Key × V := (a.1.map Sum.inl, V.int a.2)
theorem inl_inj {p q : List Int} (h : p.map (Sum.inl : Int → Key) = q.map Sum.inl) : p = q := by
  have e := congrArg (List.map fun k : Key => match k with | .inl i => i | .inr _ => 0) h
  rw [List.map_map, List.map_map] at e
  have z : ((fun k : Key => match k with | .inl i => i | .inr _ => 0) ∘ (Sum.inl : Int → Key)) = id := rfl
  rw [z, List.map_id, List.map_id] at e
  exact e
theorem enc_iff {a : Tm} {p : List Int} : (enc a).1 = p.map Sum.inl ↔ a.1 = p := ⟨fun z => inl_inj z, fun z => by rw [← z]; rfl⟩
theorem enc_any (bk : List Tm) (p : List Int) : ((bk.map enc).any fun kv => decide (kv.1 = p.map Sum.inl)) = bk.any fun a => decide (a.1 = p) := by
  rw [List.any_map]
  congr 1
  funext a
  exact decide_eq_decide.mpr enc_iff
theorem enc_put (bk : List Tm) (p : List Int) (c : Int) : putK (bk.map enc) (p.map Sum.inl) (V.int c) = (putB bk p c).map enc := by
  unfold putK putB
  rw [enc_any]
  split
  · rw [List.map_map, List.map_map]
    refine List.map_congr_left fun a _ => ?_
    show (if (enc a).1 = p.map Sum.inl then ((enc a).1, V.int c) else enc a) = enc (if a.1 = p then (a.1, c) else a)
    by_cases e : a.1 = p
    · rw [if_pos (enc_iff.mpr e), if_pos e]
      rfl
    · rw [if_neg fun z => e (enc_iff.mp z), if_neg e]
  · rw [List.map_append]
    rfl
theorem enc_val : ∀ (bk : List Tm) (p : List Int), valV (bk.map enc) (p.map Sum.inl) = (getB bk p).map V.int
  | [], _ => rfl
  | a :: bk, p => by
    rw [List.map_cons]
    by_cases e : a.1 = p
    · have h1 : getB (a :: bk) p = some a.2 := by
        unfold getB
        rw [List.find?_cons_of_pos (by simpa using e)]
        rfl
      rw [h1, valV_pos (enc_iff.mpr e)]
      rfl
    · have h1 : getB (a :: bk) p = getB bk p := by
        unfold getB
        rw [List.find?_cons_of_neg (by simpa using e)]
      rw [h1, ← enc_val bk p, valV_neg fun z => e (enc_iff.mp z)]
theorem enc_keys (bk : List Tm) : KeysI (bk.map enc) (bk.map (·.1)) := by
  unfold KeysI
  rw [List.map_map, List.map_map]
  rfl
end Bw
set_option Elab.async false
set_option linter.all false
set_option maxRecDepth 100000
set_option maxHeartbeats 4000000
namespace Bw
open PySem PySem.Spec PyProof.Rows L2
/-! ### rows of numbers and products as data -/
theorem ints_lay : ∀ p : List Int, PyData.canLayAll0 (p.map PyData.int) = true
  | [] => by simp [PyData.canLayAll0]
  | a :: p => by
    have ih := ints_lay p
    simp only [List.map_cons, PyData.canLayAll0, PyData.canLay0, ih, Bool.and_self]
theorem ints_depth : ∀ p : List Int, PyData.depthAll (p.map PyData.int) ≤ 1
  | [] => by simp [PyData.depthAll]
  | a :: p => by
    have ih := ints_depth p
    simp only [List.map_cons, PyData.depthAll, PyData.depth]
    omega
theorem ints_eqv : ∀ p q : List Int, PyData.eqvAll (p.map PyData.int) (q.map PyData.int) = decide (p = q)
  | [], [] => by simp [PyData.eqvAll]
  | [], b :: q => by simp [PyData.eqvAll]
  | a :: p, [] => by simp [PyData.eqvAll]
  | a :: p, b :: q => by
    have ih := ints_eqv p q
    simp only [List.map_cons, PyData.eqvAll, PyData.eqv, ih]
    by_cases e : a = b
    · subst e
      by_cases z : p = q
      · subst z
        simp
      · simp [z]
    · simp [e]
def rowD (p : List Int) : PyData := .tuple (p.map .int)
theorem rowD_lay (p : List Int) : (rowD p).canLay0 = true := by
  simp only [rowD, PyData.canLay0]
  exact ints_lay p
theorem rowD_depth (p : List Int) : (rowD p).depth ≤ 2 := by
  have := ints_depth p
  simp only [rowD, PyData.depth]
  omega
theorem rowD_eqv (p q : List Int) : PyData.eqv (rowD p) (rowD q) = decide (p = q) := by
  simp only [rowD, PyData.eqv]
  exact ints_eqv p q
theorem all_lay {α : Type} {d : α → PyData} (h : ∀ a, (d a).canLay0 = true) : ∀ r : List α, PyData.canLayAll0 (r.map d) = true
  | [] => by simp [PyData.canLayAll0]
  | a :: r => by
    have ih := all_lay h r
    simp only [List.map_cons, PyData.canLayAll0, h a, ih, Bool.and_self]
theorem all_depth {α : Type} {d : α → PyData} {n : Nat} (h : ∀ a, (d a).depth ≤ n) : ∀ r : List α, PyData.depthAll (r.map d) ≤ n
  | [] => by simp [PyData.depthAll]
  | a :: r => by
    have ih := all_depth h r
    have := h a
    simp only [List.map_cons, PyData.depthAll]
    omega
theorem all_eqv {α : Type} [DecidableEq α] {d : α → PyData} (h : ∀ a b, PyData.eqv (d a) (d b) = decide (a = b)) : ∀ r r' : List α, PyData.eqvAll (r.map d) (r'.map d) = decide (r = r')
  | [], [] => by simp [PyData.eqvAll]
  | [], b :: q => by simp [PyData.eqvAll]
  | a :: p, [] => by simp [PyData.eqvAll]
  | a :: p, b :: q => by
    have ih := all_eqv h p q
    simp only [List.map_cons, PyData.eqvAll, h a b, ih]
    by_cases e : a = b
    · subst e
      by_cases z : p = q
      · subst z
        simp
      · simp [z]
    · simp [e]
def tmD (a : Tm) : PyData := .tuple [rowD a.1, .int a.2]
theorem tmD_lay (a : Tm) : (tmD a).canLay0 = true := by
  have := rowD_lay a.1
  simp only [tmD, PyData.canLay0, PyData.canLayAll0, this, Bool.and_self]
theorem tmD_depth (a : Tm) : (tmD a).depth ≤ 3 := by
  have := rowD_depth a.1
  simp only [tmD, PyData.depth, PyData.depthAll]
  omega
theorem tmD_eqv (a b : Tm) : PyData.eqv (tmD a) (tmD b) = decide (a = b) := by
  obtain ⟨p, c⟩ := a
  obtain ⟨q, d⟩ := b
  have := rowD_eqv p q
  simp only [tmD, PyData.eqv, PyData.eqvAll, this]
  by_cases e : p = q
  · subst e
    by_cases z : c = d
    · subst z
      simp
    · simp [z]
  · simp [e]
theorem shaped_tup {ds : List PyData} (h1 : PyData.canLayAll0 ds = true) (h2 : PyData.depthAll ds ≤ 50) : SeqAt.shaped (.tuple ds) = true := by
  have h3 : PyData.depth (.tuple ds) ≤ 64 := by
    simp only [PyData.depth]
    omega
  show (PyData.canLay0 (.tuple ds) && decide (PyData.depth (.tuple ds) ≤ 64)) = true
  rw [Bool.and_eq_true]
  exact ⟨by simp only [PyData.canLay0]; exact h1, decide_eq_true h3⟩
theorem shaped_lst {ds : List PyData} (h1 : PyData.canLayAll0 ds = true) (h2 : PyData.depthAll ds ≤ 50) : SeqAt.shaped (.list ds) = true := by
  have h3 : PyData.depth (.list ds) ≤ 64 := by
    simp only [PyData.depth]
    omega
  show (PyData.canLay0 (.list ds) && decide (PyData.depth (.list ds) ≤ 64)) = true
  rw [Bool.and_eq_true]
  exact ⟨by simp only [PyData.canLay0]; exact h1, decide_eq_true h3⟩
theorem dp_ints {K : PySem.W.Frag} {H : Hp} : ∀ p : List Int, DpAll K H (p.map V.int) (p.map PyData.int)
  | [] => .nil
  | a :: p => .cons (.int a) (dp_ints p)
theorem o_eqD {X : Cx} {K : PySem.W.Frag} (hu : X.A.units + 64 < cLine) (hK : X.K = K := by rfl) : OpR X (compareOp .Eq) (rEqD K) := by
  subst hK
  exact op_eqD hu
theorem o_neD {X : Cx} {K : PySem.W.Frag} (hu : X.A.units + 64 < cLine) (hK : X.K = K := by rfl) : OpR X (compareOp .NotEq) (rNeD K) := by
  subst hK
  exact op_neD hu
end Bw
set_option Elab.async false
set_option linter.all false
set_option maxRecDepth 100000
namespace Bw
open PySem PySem.Spec PyProof.Rows L2
def topS (i : Nat) : Stmt := PySem.Challenge.pw_budwright_k04_sums_too_wide.main.body.getD i (.Pass ⟨0, 0, 0, 0⟩)
structure Tx (mg : Str → Option Value) : Prop where
  len : mg "len" = none
  range : mg "range" = none
  zip : mg "zip" = none
  all : mg "all" = none
  any : mg "any" = none
  sorted : mg "sorted" = none
  isinstance : mg "isinstance" = none
  bool : mg "bool" = none
  tuple : mg "tuple" = none
  list : mg "list" = none
  dict : mg "dict" = none
  str : mg "str" = none
  ValueError : mg "ValueError" = none
  WIDE : ∃ t, mg "WIDE" = some (.int 400 t)
end Bw
set_option Elab.async false
set_option linter.all false
set_option maxRecDepth 100000
set_option maxHeartbeats 2000000
namespace Bw
open PySem PySem.Spec PyProof.Rows L2
section
variable {P : Program} {w : World} {K : PySem.W.Frag} {mg : Str → Option Value} {base : Heap}
abbrev s_law_draw : Stmt := topS 29
abbrev n_law_draw : List Str := ["_law_feed_here", "_law_many", "_law_cell", "_law_digit", "_law_mix"]
theorem sc_law_draw : FnScope n_law_draw ["_law_feed_here", "_law_many"] (defScope s_law_draw) := ⟨rfl, rfl, rfl, by decide +kernel, rfl, by decide +kernel, by decide +kernel⟩
def spDraw : Sp := fun vs H Q _ => ∃ (f l : Addr) (n : Int), vs = [.ref f, .int n] ∧ FeedAt H f l ∧ 0 < n ∧ n.natAbs < 2 ^ 200 ∧ ∀ (v : Int) (H' : Hp), 0 ≤ v → v < n → SameBut f H H' → FeedAt H' f l → Q (.int v) H'
theorem ok_draw {f : Addr} {fd : FuncData} {k : Nat} (F : Fun K "_law_draw" "_law_draw" s_law_draw f fd) (T : Tx mg) : FnOk P w K mg base CX0 (k + 1) f fd ["_law_feed_here", "_law_many"] spDraw := by
  refine F.ok sc_law_draw (fun vs H Q E h => ?_) (fun cdv A outer s H vs Q E hr h => ?_)
  · obtain ⟨f, l, n, rfl, _⟩ := h
    rfl
  · obtain ⟨f, l, r, rfl, ⟨ns, i, n, m, c, nlf, hf, hl, hi, hn, hm, hm2⟩, hr0, hr1, q⟩ := h
    refine ⟨_, (C8.pss_cut (ps_if (PW.pt (pw_and (pt_cmpR op_eq (pe_ix ix_list (pv 0) pe_int (fun _ _ => rfl)) pe_int (nomark _)) (pw_and1 (pt_cmpR op_lt (pe_ix ix_list (pv 0) pe_int (fun _ _ => rfl)) (pe_callB call_len_seq (by rfl) T.len PySem.boot_len (pa_cons (pe_ix ix_list (pv 0) pe_int (fun _ _ => rfl)) pa_nil)) (nomark _)))))
    (pss_cons (ps_set (i := 2) sc_law_draw.nd rfl (.inl rfl) (pe_ix ix_list (pe_ix ix_list (pv 0) pe_int (fun _ _ => rfl)) (pe_ix ix_list (pv 0) pe_int (fun _ _ => rfl)) (fun _ _ => rfl)))
    (pss_cons (ps_asg (pe_op op_add (pe_ix ix_list (pv 0) pe_int (fun _ _ => rfl)) pe_int) (pg_sub (pv 0) pe_int set_list))
    (pss_one (ps_if (pt_cmpR op_ge (pv 2) (pe_op op_pow pe_int pe_int) (nomark _))
      (pss_one (ps_asg (pv 2) (pg_sub (pv 0) pe_int set_list)))
      (pss_one (ps_asg (pe_op op_mod (pe_op op_add (pe_op op_add (pe_op op_mul (pe_ix ix_list (pv 0) pe_int (fun _ _ => rfl)) pe_int) (pe_op op_mul (pe_op op_mod (pv 2) pe_int) pe_int)) pe_int) pe_int) (pg_sub (pv 0) pe_int set_list)))))))
    pss_nil)
  (pss_cons (ps_if (pt_cmpR op_gt (pe_ix ix_list (pv 0) pe_int (fun _ _ => rfl)) pe_int (nomark _))
    (pss_cons (ps_set (i := 3) sc_law_draw.nd rfl (.inl rfl) (pe_op op_mod (pe_ix ix_list (pv 0) pe_int (fun _ _ => rfl)) (pv 1)))
    (pss_cons (ps_asg (pe_op op_fdivW (pe_ix ix_list (pv 0) pe_int (fun _ _ => rfl)) (pv 1)) (pg_sub (pv 0) pe_int set_list))
    (pss_one (ps_ret (pv 3)))))
    pss_nil)
  (pss_cons (ps_asg (pe_op op_add (pe_ix ix_list (pv 0) pe_int (fun _ _ => rfl)) pe_int) (pg_sub (pv 0) pe_int set_list))
  (pss_cons (ps_set (i := 4) sc_law_draw.nd rfl (.inl rfl) (pe_ix ix_list (pv 0) pe_int (fun _ _ => rfl)))
  (pss_cons (ps_set (i := 4) sc_law_draw.nd rfl (.inl rfl) (pe_op op_add (pe_op op_add (pe_op op_add (pe_op op_mul (pe_op op_mod (pe_op op_mul (pv 4) (pv 4)) pe_int) pe_int) (pe_op op_mul (pv 4) pe_int)) (pe_op op_mul pe_int (pe_ix ix_list (pv 0) pe_int (fun _ _ => rfl)))) pe_int))
  (pss_cons (ps_asg (pe_op op_mod (pv 4) pe_int) (pg_sub (pv 0) pe_int set_list))
  (pss_one (ps_ret (pe_op op_mod (pe_op op_add (pe_op op_fdiv (pe_ix ix_list (pv 0) pe_int (fun _ _ => rfl)) pe_int) (pe_op op_mul (pe_op op_mod (pe_ix ix_list (pv 0) pe_int (fun _ _ => rfl)) pe_int) pe_int)) (pv 1)))))))))), ?_⟩
    -- between: a feed of the same list
    refine ⟨fun σ H2 => ∃ (y : Option V) (i : Nat) (n m : Int), σ = [some (.ref f), some (.int r), y, none, none] ∧ SameBut f H H2 ∧ H2 f = some (.lst [.ref l, .int i, .int n, .int m, .int c]) ∧ i ≤ ns.length ∧ 0 ≤ n ∧ 0 ≤ m ∧ m < 2147483647, ?_, ?_⟩
    · refine ⟨.ref f, rfl, f, _, 2, .int n, rfl, rfl, SqL.of hf, rfl, rfl, _, rfl, ite2 (fun e => ?_) (fun e => iteF ?_)⟩
      · refine ⟨.ref f, rfl, f, _, 1, .int i, rfl, rfl, SqL.of hf, rfl, .ref f, rfl, f, _, 0, .ref l, rfl, rfl, SqL.of hf, rfl, l, _, rfl, .inl (SqL.of hl), _, _, rfl, rfl, _, rfl, ite2 (fun e => ?_) (fun e => ?_)⟩
        · have hlt : i < ns.length := by
            have := of_decide_eq_true e
            rw [List.length_map] at this
            omega
          have g1 : (ns.map V.int)[i]? = some (.int ns[i]) := by
            rw [List.getElem?_map, List.getElem?_eq_getElem hlt]
            rfl
          generalize ns[i] = u at g1
          -- cell = feed[0][feed[1]]; feed[1] = feed[1] + 1
          refine ⟨.ref f, rfl, f, _, 0, .ref l, rfl, rfl, SqL.of hf, rfl, .ref f, rfl, f, _, 1, .int i, rfl, rfl, SqL.of hf, rfl, l, _, i, .int u, rfl, rfl, SqL.of hl, atI_nat g1, ?_⟩
          refine ⟨.ref f, rfl, f, _, 1, .int i, rfl, rfl, SqL.of hf, rfl, _, _, rfl, rfl, .ref f, rfl, f, _, 1, 1, rfl, rfl, hf, rfl, ?_⟩
          -- if cell >= 10 ** 18
          refine ⟨.int u, rfl, _, _, rfl, rfl, ⟨by decide, by decide, by decide⟩, _, _, rfl, rfl, _, rfl, ite2 (fun e => ?_) (fun e => ?_)⟩
          · have h0 : 0 ≤ u := Int.le_trans (by decide : (0 : Int) ≤ 10 ^ Int.toNat 18) (of_decide_eq_true e)
            refine ⟨.int u, rfl, .ref f, rfl, f, _, 2, 2, rfl, rfl, upd_same, rfl, ?_⟩
            exact ⟨_, i + 1, u, m, rfl, SameBut.upd (SameBut.upd (.refl _ _)), upd_same, hlt, h0, hm, hm2⟩
          · refine ⟨.ref f, rfl, f, _, 3, .int m, rfl, rfl, SqL.of upd_same, rfl, _, _, rfl, rfl, .inl ⟨by omega, by omega⟩, .int u, rfl, _, _, rfl, rfl, (by show (0 : Int) < 1000000007; decide), _, _, rfl, rfl, .inr ⟨by decide, by decide⟩, _, _, rfl, rfl, _, _, rfl, rfl, _, _, rfl, rfl, (by show (0 : Int) < 2147483647; decide), ?_⟩
            refine ⟨.ref f, rfl, f, _, 3, 3, rfl, rfl, upd_same, rfl, ?_⟩
            exact ⟨_, i + 1, n, _, rfl, SameBut.upd (SameBut.upd (.refl _ _)), upd_same, hlt, hn, Int.emod_nonneg _ (by decide), Int.emod_lt_of_pos _ (by decide)⟩
        · exact ⟨none, i, n, m, rfl, .refl _ _, hf, hi, hn, hm, hm2⟩
      · exact ⟨none, i, n, m, rfl, .refl _ _, hf, hi, hn, hm, hm2⟩
    · rintro σ H2 ⟨y, i, n, m, rfl, sb, hf, hi, hn, hm, hm2⟩
      have hl2 : H2 l = some (.lst (ns.map V.int)) := sb _ _ nlf hl
      -- if feed[2] > 0
      refine ⟨.ref f, rfl, f, _, 2, .int n, rfl, rfl, SqL.of hf, rfl, _, _, rfl, rfl, _, rfl, ite2 (fun e => ?_) (fun e => ?_)⟩
      · refine ⟨.ref f, rfl, f, _, 2, .int n, rfl, rfl, SqL.of hf, rfl, .int r, rfl, _, _, rfl, rfl, hr0, ?_⟩
        refine ⟨.ref f, rfl, f, _, 2, .int n, rfl, rfl, SqL.of hf, rfl, .int r, rfl, _, _, rfl, rfl, wide_div hr0 hr1 (by decide) (by decide), .ref f, rfl, f, _, 2, 2, rfl, rfl, hf, rfl, ?_⟩
        refine ⟨_, rfl, q _ _ (Int.emod_nonneg _ (by omega)) (Int.emod_lt_of_pos _ hr0) sb.upd ⟨ns, i, _, m, c, nlf, upd_same, by rw [upd_ne nlf]; exact hl2, hi, Int.ediv_nonneg hn (by omega), hm, hm2⟩⟩
      · -- feed[4] = feed[4] + 1
        refine ⟨.ref f, rfl, f, _, 4, .int c, rfl, rfl, SqL.of hf, rfl, _, _, rfl, rfl, .ref f, rfl, f, _, 4, 4, rfl, rfl, hf, rfl, ?_⟩
        -- mix
        refine ⟨.ref f, rfl, f, _, 3, .int m, rfl, rfl, SqL.of upd_same, rfl, ?_⟩
        refine ⟨.int m, rfl, .int m, rfl, _, _, rfl, rfl, .inl ⟨by omega, by omega⟩, _, _, rfl, rfl, (by show (0 : Int) < 2147483587; decide), _, _, rfl, rfl, .inr ⟨by decide, by decide⟩, .int m, rfl, _, _, rfl, rfl, .inr ⟨by decide, by decide⟩, _, _, rfl, rfl, .ref f, rfl, f, _, 4, _, rfl, rfl, SqL.of upd_same, rfl, _, _, rfl, rfl, .inl ⟨by decide, by decide⟩, _, _, rfl, rfl, _, _, rfl, rfl, ?_⟩
        refine ⟨_, rfl, _, _, rfl, rfl, (by show (0 : Int) < 2147483647; decide), .ref f, rfl, f, _, 3, 3, rfl, rfl, upd_same, rfl, ?_⟩
        have a1 : ∀ z : Int, 0 ≤ z % 2147483647 := fun z => Int.emod_nonneg _ (by decide)
        have a2 : ∀ z : Int, z % 2147483647 < 2147483647 := fun z => Int.emod_lt_of_pos _ (by decide)
        refine ⟨.ref f, rfl, f, _, 3, _, rfl, rfl, SqL.of upd_same, rfl, _, _, rfl, rfl, ⟨by decide, by decide⟩, .ref f, rfl, f, _, 3, _, rfl, rfl, SqL.of upd_same, rfl, _, _, rfl, rfl, (by show (0 : Int) < 4093; decide), _, _, rfl, rfl, .inr ⟨by decide, by decide⟩, _, _, rfl, rfl, .int r, rfl, _, _, rfl, rfl, hr0, ?_⟩
        refine q _ _ (Int.emod_nonneg _ (by omega)) (Int.emod_lt_of_pos _ hr0) (SameBut.upd sb.upd) ⟨ns, i, n, _, _, nlf, upd_same, by rw [upd_ne nlf, upd_ne nlf]; exact hl2, hi, hn, a1 _, a2 _⟩
end
end Bw
set_option Elab.async false
set_option linter.all false
set_option maxRecDepth 100000
set_option maxHeartbeats 2000000
namespace Bw
open PySem PySem.Spec PyProof.Rows L2
section
variable {P : Program} {w : World} {K : PySem.W.Frag} {mg : Str → Option Value} {base : Heap}
/-! ### the feed made -/
abbrev s_law_feed : Stmt := topS 28
abbrev n_law_feed : List Str := ["_law_script"]
theorem sc_law_feed : FnScope n_law_feed ["_law_script"] (defScope s_law_feed) := ⟨rfl, rfl, rfl, by decide +kernel, rfl, by decide +kernel, by decide +kernel⟩
def spFeed (K : PySem.W.Frag) : Sp := fun vs H Q _ => ∃ (a : Addr) (ns : List Int), vs = [.ref a] ∧ SqL K H a (ns.map V.int) ∧ ∀ (f l : Addr) (H' : Hp), Same H H' → H f = none → FeedAt H' f l → Q (.ref f) H'
theorem ok_feed {f : Addr} {fd : FuncData} {k : Nat} (F : Fun K "_law_feed" "_law_feed" s_law_feed f fd) (T : Tx mg) : FnOk P w K mg base CX0 (k + 1) f fd ["_law_script"] (spFeed K) := by
  refine F.ok sc_law_feed (fun vs H Q E h => ?_) (fun cdv A outer s H vs Q E hr h => ?_)
  · obtain ⟨a, ns, rfl, _⟩ := h
    rfl
  · obtain ⟨a, ns, rfl, hS, q⟩ := h
    refine ⟨_, (pss_one (ps_ret (pe_lst (pa_cons (pe_callTy call_list_of (by rfl) T.list (by decide +kernel) (pa_cons (pe_slice sl_list (pv 0) po_none (po_some pe_int)) pa_nil)) (pa_cons pe_int (pa_cons pe_int (pa_cons pe_int (pa_cons pe_int pa_nil)))))))), ?_⟩
    refine ⟨.ref a, rfl, 63, rfl, a, _, rfl, hS, fun c nc => ?_⟩
    refine ⟨c, _, rfl, .inl (SqL.of upd_same), fun l nl => ?_⟩
    refine ⟨by show 5 ≤ sizeLine; decide, fun g ng => ?_⟩
    have s1 : Same H (upd H c (.lst (cutV (ns.map V.int) none (some 63)))) := same_upd nc
    have s2 := s1.trans (same_upd (o := .lst (cutV (ns.map V.int) none (some 63))) nl)
    have s3 := s2.trans (same_upd (o := .lst [.ref l, .int 0, .int 0, .int 9106, .int 0]) ng)
    have nlg : l ≠ g := fun e => by
      rw [← e, upd_same] at ng
      cases ng
    refine q g l _ s3 (s2.free ng) ⟨(ns.drop (HT.sIx (ns.map V.int).length 0 none)).take (HT.sIx (ns.map V.int).length (ns.map V.int).length (some 63) - HT.sIx (ns.map V.int).length 0 none), 0, 0, 9106, 0, nlg, upd_same, ?_, Nat.zero_le _, by decide, by decide, by decide⟩
    rw [upd_ne nlg, upd_same]
    unfold cutV
    rw [List.map_take, List.map_drop]
/-! ### one of a row -/
abbrev s_law_pick : Stmt := topS 30
abbrev n_law_pick : List Str := ["_law_feed_here", "_law_row"]
theorem sc_law_pick : FnScope n_law_pick ["_law_feed_here", "_law_row"] (defScope s_law_pick) := ⟨rfl, rfl, rfl, by decide +kernel, rfl, by decide +kernel, by decide +kernel⟩
def spPick : Sp := fun vs H Q _ => ∃ (f l a : Addr) (xs : List V), vs = [.ref f, .ref a] ∧ FeedAt H f l ∧ H a = some (.lst xs) ∧ a ≠ f ∧ 0 < xs.length ∧ xs.length < 1000 ∧ ∀ (v : V) (H' : Hp), v ∈ xs → SameBut f H H' → FeedAt H' f l → Q v H'
theorem ok_pick {f : Addr} {fd : FuncData} {k j : Nat} (F : Fun K "_law_pick" "_law_pick" s_law_pick f fd) (T : Tx mg) (c_law_draw : Cal P w K mg base CX0 k "_law_draw" ["_law_feed_here", "_law_many"] spDraw) : FnOk P w K mg base CX0 (k + 1) f fd ["_law_feed_here", "_law_row"] spPick := by
  refine F.ok sc_law_pick (fun vs H Q E h => ?_) (fun cdv A outer s H vs Q E hr h => ?_)
  · obtain ⟨f, l, a, xs, rfl, _⟩ := h
    rfl
  · obtain ⟨f, l, a, xs, rfl, hf, ha, naf, h0, h1, q⟩ := h
    refine ⟨_, (pss_one (ps_ret (pe_ix ix_list (pv 1) (pe_cal c_law_draw hr (by rfl) (pa_cons (pv 0) (pa_cons (pe_callB call_len_seq (by rfl) T.len PySem.boot_len (pa_cons (pv 1) pa_nil)) pa_nil))) (fun _ _ => rfl)))), ?_⟩
    refine ⟨.ref a, rfl, .ref f, rfl, .ref a, rfl, a, _, rfl, .inl (SqL.of ha), f, l, _, rfl, hf, by omega, Nat.lt_trans (show ((xs.length : Int)).natAbs < 1000 by omega) (by decide), fun v H' v0 v1 sb hf' => ?_⟩
    obtain ⟨n, rfl⟩ : ∃ n : Nat, v = (n : Int) := ⟨v.toNat, by omega⟩
    have hn : n < xs.length := by omega
    exact ⟨a, xs, _, xs[n], rfl, rfl, SqL.of (sb _ _ naf ha), atI_nat (List.getElem?_eq_getElem hn), q _ _ (List.getElem_mem hn) sb hf'⟩
end
end Bw
set_option Elab.async false
set_option linter.all false
set_option maxRecDepth 100000
set_option maxHeartbeats 4000000
namespace Bw
open PySem PySem.Spec PyProof.Rows L2
theorem it_list {K : PySem.W.Frag} {a : Addr} {xs : List V} {H1 : Hp} {Qd : Hp → Prop} {Body : V → Hp → (Hp → Prop) → Prop} (Pv : Nat → Hp → Prop) (h0 : Pv 0 H1) (hl : ∀ i H, i ≤ xs.length → Pv i H → SqL K H a xs)
    (hs : ∀ i x H, xs[i]? = some x → Pv i H → Body x H (Pv (i + 1))) (hd : ∀ H, Pv xs.length H → Qd H) :
    ∃ W : Nat → Nat → Hp → Prop, (∃ m, W 0 m H1) ∧ ∀ i m H, W i m H → ((Itl K a).stop i H ∧ Qd H) ∨ ((Itl K a).go i H ∧ ∃ Nx : Hp → Prop, (∀ H', Nx H' → ∃ m', m' < m ∧ W (i + 1) m' H') ∧ ∀ x H', (Itl K a).yld i H x H' → Body x H' Nx) := by
  refine ⟨fun i m H => m = xs.length - i ∧ i ≤ xs.length ∧ Pv i H, ⟨xs.length, by simp, Nat.zero_le _, h0⟩, ?_⟩
  rintro i m H ⟨rfl, hi, p⟩
  have q := hl i H hi p
  by_cases hlt : i < xs.length
  · refine .inr ⟨⟨xs, xs[i], q, by simp [hlt]⟩, Pv (i + 1), fun H' p' => ⟨xs.length - (i + 1), by omega, rfl, hlt, p'⟩, fun x H' y => ?_⟩
    obtain ⟨e, y⟩ := y
    subst e
    exact hs i x _ (y _ q) p
  · exact .inl ⟨⟨xs, q, by omega⟩, hd H (by
      have : i = xs.length := by omega
      rw [this] at p
      exact p)⟩
theorem it_range {lo : Int} {n : Nat} {H1 : Hp} {Qd : Hp → Prop} {Body : V → Hp → (Hp → Prop) → Prop} (Pv : Nat → Hp → Prop) (h0 : Pv 0 H1) (hs : ∀ i H, i < n → Pv i H → Body (.int (lo + i)) H (Pv (i + 1))) (hd : ∀ H, Pv n H → Qd H) :
    ∃ W : Nat → Nat → Hp → Prop, (∃ m, W 0 m H1) ∧ ∀ i m H, W i m H → ((Itr lo n).stop i H ∧ Qd H) ∨ ((Itr lo n).go i H ∧ ∃ Nx : Hp → Prop, (∀ H', Nx H' → ∃ m', m' < m ∧ W (i + 1) m' H') ∧ ∀ x H', (Itr lo n).yld i H x H' → Body x H' Nx) := by
  refine ⟨fun i m H => m = n - i ∧ i ≤ n ∧ Pv i H, ⟨n, by simp, Nat.zero_le _, h0⟩, ?_⟩
  rintro i m H ⟨rfl, hi, p⟩
  by_cases hlt : i < n
  · refine .inr ⟨hlt, Pv (i + 1), fun H' p' => ⟨n - (i + 1), by omega, rfl, hlt, p'⟩, fun x H' y => ?_⟩
    obtain ⟨e, y⟩ := y
    subst e y
    exact hs i _ hlt p
  · exact .inl ⟨(by show n ≤ i; omega), hd H (by
      have : i = n := by omega
      rw [this] at p
      exact p)⟩
theorem all_rep (n : Nat) : (List.replicate n true).all id = true := by
  rw [List.all_eq_true]
  intro x hx
  exact List.eq_of_mem_replicate hx
theorem it_zipT {K : PySem.W.Frag} {a b : Addr} {xs ys : List V} {H1 : Hp} {Qd : Hp → Prop} {Body : V → Hp → (Hp → Prop) → Prop} (hl : xs.length = ys.length) (Pv : Nat → Hp → Prop) (h0 : Pv 0 H1) (hq : ∀ i H, Pv i H → SqT K H a xs ∧ SqT K H b ys)
    (hs : ∀ (i : Nat) (x y : V) (T : Addr) (H : Hp), xs[i]? = some x → ys[i]? = some y → Pv i H → H T = none → Body (.ref T) (upd H T (.tup [x, y])) (Pv (i + 1))) (hd : ∀ H, Pv xs.length H → Qd H) :
    ∃ W : Nat → Nat → Hp → Prop, (∃ m, W 0 m H1) ∧ ∀ i m H, W i m H → ((RZ.ItzT K a b).stop i H ∧ Qd H) ∨ ((RZ.ItzT K a b).go i H ∧ ∃ Nx : Hp → Prop, (∀ H', Nx H' → ∃ m', m' < m ∧ W (i + 1) m' H') ∧ ∀ x H', (RZ.ItzT K a b).yld i H x H' → Body x H' Nx) := by
  refine ⟨fun i m H => m = xs.length - i ∧ i ≤ xs.length ∧ Pv i H, ⟨xs.length, rfl, Nat.zero_le _, h0⟩, ?_⟩
  rintro i m H ⟨rfl, hi, p⟩
  obtain ⟨qx, qy⟩ := hq i H p
  by_cases hlt : i < xs.length
  · have hx : xs[i]? = some xs[i] := List.getElem?_eq_getElem hlt
    have hy : ys[i]? = some ys[i] := List.getElem?_eq_getElem (by omega)
    refine .inr ⟨⟨xs, ys, _, _, qx, qy, hx, hy⟩, Pv (i + 1), fun H' p' => ⟨xs.length - (i + 1), by omega, rfl, hlt, p'⟩, fun v H' y => ?_⟩
    obtain ⟨T, x', y', rfl, hT, rfl, f1, f2⟩ := y
    exact hs i x' y' T H (f1 xs qx) (f2 ys qy) p hT
  · have e : i = xs.length := by omega
    subst e
    exact .inl ⟨⟨xs, ys, qx, qy, Or.inl (Nat.le_refl _)⟩, hd H p⟩
theorem SameBut.none {f l a : Addr} {H H1 : Hp} (s : SameBut f H H1) (h : FeedAt H1 f l) (e : H1 a = none) : H a = none := by
  by_cases z : a = f
  · subst z
    exact absurd rfl (h.ne e)
  · cases y : H a with
    | none => rfl
    | some u =>
      rw [s _ _ z y] at e
      cases e
/-! ### products in the heap -/
def TermAt (H : Hp) (t : Addr) (a : Tm) : Prop := ∃ q, H t = some (.tup [.ref q, .int a.2]) ∧ H q = some (.tup (a.1.map V.int))
def TermsAt (H : Hp) (ts : List Addr) (terms : List Tm) : Prop := ts.length = terms.length ∧ ∀ (i : Nat) (a : Tm), terms[i]? = some a → ∃ t, ts[i]? = some t ∧ TermAt H t a
theorem TermAt.same {H H' : Hp} {t : Addr} {a : Tm} (s : ∀ b xs, H b = some (.tup xs) → H' b = some (.tup xs)) (h : TermAt H t a) : TermAt H' t a := by
  obtain ⟨q, h1, h2⟩ := h
  exact ⟨q, s _ _ h1, s _ _ h2⟩
theorem TermsAt.keep {H H' : Hp} {ts : List Addr} {terms : List Tm} (s : ∀ b xs, H b = some (.tup xs) → H' b = some (.tup xs)) (h : TermsAt H ts terms) : TermsAt H' ts terms := ⟨h.1, fun i a e => by
  obtain ⟨t, e1, e2⟩ := h.2 i a e
  exact ⟨t, e1, e2.same s⟩⟩
theorem TermsAt.same {H H' : Hp} {ts : List Addr} {terms : List Tm} (s : Same H H') (h : TermsAt H ts terms) : TermsAt H' ts terms := h.keep fun b xs e => s _ _ e
theorem TermsAt.but {H H' : Hp} {f l : Addr} {ts : List Addr} {terms : List Tm} (s : SameBut f H H') (hf : FeedAt H f l) (h : TermsAt H ts terms) : TermsAt H' ts terms := h.keep fun b xs e => s _ _ (hf.tup e) e
theorem TermsAt.put {H : Hp} {R : Addr} {xs : List V} {o : HO} {ts : List Addr} {terms : List Tm} (h : TermsAt H ts terms) (hR : H R = some (.lst xs)) : TermsAt (upd H R o) ts terms := h.keep fun b ys e => by
  rw [upd_ne (ne_of e hR (by intro z; cases z))]
  exact e
theorem TermsAt.nil {H : Hp} : TermsAt H [] [] := ⟨rfl, fun i a e => by simp at e⟩
theorem TermsAt.snoc {H : Hp} {ts : List Addr} {terms : List Tm} {t : Addr} {a : Tm} (h : TermsAt H ts terms) (ht : TermAt H t a) : TermsAt H (ts ++ [t]) (terms ++ [a]) := by
  refine ⟨by rw [List.length_append, List.length_append, h.1]; rfl, fun i b e => ?_⟩
  rw [List.getElem?_append] at e
  split at e
  · next hi =>
    obtain ⟨u, e1, e2⟩ := h.2 i b e
    exact ⟨u, by rw [List.getElem?_append, if_pos (by rw [h.1]; exact hi)]; exact e1, e2⟩
  · next hi =>
    have h2 := (List.getElem?_eq_some_iff.mp e).1
    rw [List.length_singleton] at h2
    have z : i - terms.length = 0 := by omega
    rw [z] at e
    have : a = b := Option.some.inj e
    subst this
    refine ⟨t, ?_, ht⟩
    rw [List.getElem?_append, if_neg (by rw [h.1]; exact hi), h.1, z]
    rfl
theorem TermsAt.at {H : Hp} {ts : List Addr} {terms : List Tm} (h : TermsAt H ts terms) {i : Nat} {t : Addr} (e : ts[i]? = some t) : ∃ a, terms[i]? = some a ∧ TermAt H t a := by
  have hi : i < terms.length := by
    have := (List.getElem?_eq_some_iff.mp e).1
    rw [h.1] at this
    exact this
  obtain ⟨u, e1, e2⟩ := h.2 i _ (List.getElem?_eq_getElem hi)
  cases (Option.some.inj (e.symm.trans e1))
  exact ⟨_, List.getElem?_eq_getElem hi, e2⟩
def Sized (n M : Nat) (ts : List Tm) : Prop := ∀ a ∈ ts, a.1.length = n ∧ a.2.natAbs ≤ M
theorem Sized.nil {n M : Nat} : Sized n M [] := fun a h => by cases h
theorem Sized.mono {n M N : Nat} {ts : List Tm} (h : Sized n M ts) (l : M ≤ N) : Sized n N ts := fun a ha => ⟨(h a ha).1, Nat.le_trans (h a ha).2 l⟩
theorem Sized.put {n M : Nat} {bk : List Tm} {p : List Int} {c : Int} (h : Sized n M bk) (hp : p.length = n) (hc : c.natAbs ≤ M) : Sized n M (putB bk p c) := by
  unfold putB
  split
  · intro a ha
    obtain ⟨b, hb, rfl⟩ := List.mem_map.mp ha
    split
    · exact ⟨(h b hb).1, hc⟩
    · exact h b hb
  · intro a ha
    rcases List.mem_append.mp ha with ha | ha
    · exact h a ha
    · rw [List.mem_singleton.mp ha]
      exact ⟨hp, hc⟩
theorem Sized.add {n M m : Nat} {bk : List Tm} {p : List Int} {c : Int} (h : Sized n M bk) (hp : p.length = n) (hc : c.natAbs ≤ m) : Sized n (M + m) (addB bk p c) := by
  refine (h.mono (Nat.le_add_right M m)).put hp ?_
  cases e : getB bk p with
  | none =>
    show (0 + c).natAbs ≤ _
    omega
  | some d =>
    have := (h _ (getB_some e)).2
    show (d + c).natAbs ≤ _
    have z : d.natAbs ≤ M := this
    omega
theorem getB_mem {bk : List Tm} (nd : NdB bk) {p : List Int} {c : Int} (h : (p, c) ∈ bk) : getB bk p = some c := by
  cases e : getB bk p with
  | none =>
    have z := getB_none e
    have : (bk.any fun a => decide (a.1 = p)) = true := List.any_eq_true.mpr ⟨_, h, decide_eq_true rfl⟩
    rw [z] at this
    cases this
  | some d =>
    have m := getB_some e
    have : ∀ {l : List Tm}, (l.map (·.1)).Nodup → (p, c) ∈ l → (p, d) ∈ l → c = d := by
      intro l
      induction l with
      | nil => intro _ h _; cases h
      | cons a l ih =>
        intro nd h1 h2
        have nd' := List.nodup_cons.mp nd
        rcases List.mem_cons.mp h1 with e1 | h1
        · rcases List.mem_cons.mp h2 with e2 | h2
          · exact congrArg Prod.snd (e1.trans e2.symm)
          · exact absurd (List.mem_map.mpr ⟨_, h2, by rw [← e1]⟩) nd'.1
        · rcases List.mem_cons.mp h2 with e2 | h2
          · exact absurd (List.mem_map.mpr ⟨_, h1, by rw [← e2]⟩) nd'.1
          · exact ih nd'.2 h1 h2
    rw [this nd h m]
theorem nd_app {a b : List Tm} (h : NdB (a ++ b)) : NdB a := by
  unfold NdB at *
  rw [List.map_append] at h
  exact (List.nodup_append.mp h).1
theorem putB_new {bk : List Tm} {p : List Int} {c : Int} (h : NdB (bk ++ [(p, c)])) : putB bk p c = bk ++ [(p, c)] := by
  unfold putB
  rw [if_neg]
  intro z
  obtain ⟨a, ha, e⟩ := List.any_eq_true.mp z
  unfold NdB at h
  rw [List.map_append] at h
  exact (List.nodup_append.mp h).2.2 a.1 (List.mem_map_of_mem ha) p (by simp) (of_decide_eq_true e)
theorem merge_nd : ∀ {b a : List Tm}, NdB (a ++ b) → mergeT (a.map enc) (b.map enc) = (a ++ b).map enc
  | [], a, _ => by rw [List.append_nil]; rfl
  | x :: b, a, h => by
    have e : a ++ x :: b = (a ++ [x]) ++ b := by simp
    rw [e] at h ⊢
    show mergeT (putK (a.map enc) (x.1.map Sum.inl) (V.int x.2)) (b.map enc) = _
    rw [enc_put, putB_new (c := x.2) (nd_app h)]
    exact merge_nd h
theorem nd_filter {bk : List Tm} {f : Tm → Bool} (h : NdB bk) : NdB (bk.filter f) := List.Sublist.nodup (List.Sublist.map _ List.filter_sublist) h
theorem kV_ints (p : List Int) : ((p.map Sum.inl : List Key)).map kV = p.map V.int := by
  rw [List.map_map]
  rfl
theorem nd_short {bk : List Tm} {M : Nat} (nd : NdB bk) (s : Sized 0 M bk) : bk.length ≤ 1 := by
  match bk, nd, s with
  | [], _, _ => exact Nat.zero_le _
  | [_], _, _ => exact Nat.le_refl _
  | a :: b :: r, nd, s =>
    have e1 : a.1 = [] := List.eq_nil_of_length_eq_zero (s a (List.mem_cons_self ..)).1
    have e2 : b.1 = [] := List.eq_nil_of_length_eq_zero (s b (List.mem_cons_of_mem _ (List.mem_cons_self ..))).1
    have n := (List.nodup_cons.mp nd).1
    exact absurd (show a.1 ∈ b.1 :: _ by rw [e1, e2]; exact List.mem_cons_self ..) n
theorem nd_keys {bk : List Tm} {n M : Nat} (nd : NdB bk) (s : Sized n M bk) : 2 ≤ (bk.map (·.1)).length → ∀ q ∈ bk.map (·.1), q ≠ [] := by
  intro h q hq e
  subst e
  obtain ⟨a, ha, e⟩ := List.mem_map.mp hq
  have := (s a ha).1
  rw [show a.1 = [] from e] at this
  subst this
  rw [List.length_map] at h
  have := nd_short nd s
  omega
/-! ### heaps -/
theorem Same.updN {H H' : Hp} {D : Addr} {o : HO} (s : Same H H') (h : H D = none) : Same H (upd H' D o) := fun c u e => by
  rw [upd_ne (ne_of_none e h)]
  exact s _ _ e
theorem unlock_same {H H' : Hp} {d : Addr} {od : Obj} {u : HO} (h : Same (upd H d (.frz od u)) H') (hd : H d = some u) : Same H (upd H' d u) := fun c o e => by
  by_cases z : c = d
  · subst z
    rw [upd_same, ← hd, e]
  · rw [upd_ne z]
    exact h _ _ (by rw [upd_ne z]; exact e)
theorem TermsAt.updX {H : Hp} {d : Addr} {o u : HO} {ts : List Addr} {terms : List Tm} (h : TermsAt H ts terms) (hd : H d = some u) (nt : ∀ xs, u ≠ .tup xs) : TermsAt (upd H d o) ts terms := h.keep fun b xs e => by
  rw [upd_ne]
  · exact e
  · intro z
    subst z
    rw [e] at hd
    exact nt xs (Option.some.inj hd).symm
theorem TermsAt.tail {H : Hp} {t : Addr} {ts : List Addr} {a : Tm} {terms : List Tm} (h : TermsAt H (t :: ts) (a :: terms)) : TermAt H t a ∧ TermsAt H ts terms := by
  refine ⟨?_, Nat.succ.inj h.1, fun i b e => ?_⟩
  · obtain ⟨u, e1, e2⟩ := h.2 0 a rfl
    cases (Option.some.inj e1)
    exact e2
  · obtain ⟨u, e1, e2⟩ := h.2 (i + 1) b e
    exact ⟨u, e1, e2⟩
theorem TermsAt.pairs {H : Hp} : ∀ {ts : List Addr} {terms : List Tm}, TermsAt H ts terms → ∃ its : List (List Key × Addr × V), Paired (fun t (x : List Key × Addr × V) => H t = some (.tup [.ref x.2.1, x.2.2]) ∧ H x.2.1 = some (.tup (x.1.map kV))) ts its ∧ its.map (fun x => (x.1, x.2.2)) = terms.map enc
  | [], [], _ => ⟨[], .nil, rfl⟩
  | [], _ :: _, h => absurd h.1 (by simp)
  | _ :: _, [], h => absurd h.1 (by simp)
  | t :: ts, a :: terms, h => by
    obtain ⟨⟨q, h1, h2⟩, ht⟩ := h.tail
    obtain ⟨its, p, e⟩ := ht.pairs
    refine ⟨(a.1.map Sum.inl, q, .int a.2) :: its, .cons ⟨h1, by rw [kV_ints]; exact h2⟩ p, ?_⟩
    rw [List.map_cons, e, List.map_cons]
    rfl
/-- a book at d -/
def BkAt (H : Hp) (d : Addr) (bk : List Tm) : Prop := H d = some (.dT (bk.map enc))
theorem take_filter {bk : List Tm} {i : Nat} {a : Tm} (h : bk[i]? = some a) (f : Tm → Bool) : (bk.take (i + 1)).filter f = (bk.take i).filter f ++ (if f a = true then [a] else []) := by
  rw [List.take_succ, h, List.filter_append]
  congr 1
  show List.filter f [a] = _
  rw [List.filter_cons]
  split <;> simp
abbrev nzB : Tm → Bool := fun a => decide (a.2 ≠ 0)
structure BookOf (n M : Nat) (ℓ : (List Int → Int) → Int) (bk : List Tm) : Prop where
  nd : NdB bk
  sz : Sized n M bk
  nz : ∀ a ∈ bk, a.2 ≠ 0
  lf : ∀ φ, Lf bk φ = ℓ φ
theorem u1 {a c : Nat} (h : a + 64 < c) : a + 1 < c := by omega
def fallB (bk : List Tm) (ks : List (List Int)) : List Tm := ks.map fun p => (p, (getB bk p).getD 0)
theorem fallB_perm {bk : List Tm} {ks : List (List Int)} (nd : NdB bk) (hp : ks.Perm (bk.map (·.1))) : (fallB bk ks).Perm bk := by
  have h : (fallB bk ks).Perm ((bk.map (·.1)).map fun p => (p, (getB bk p).getD 0)) := hp.map _
  rw [List.map_map] at h
  have e : bk.map ((fun p => (p, (getB bk p).getD 0)) ∘ (·.1)) = bk.map id := List.map_congr_left fun a ha => by
    show (a.1, (getB bk a.1).getD 0) = a
    rw [getB_mem nd (c := a.2) ha]
    rfl
  rw [e, List.map_id] at h
  exact h
theorem fallB_falls {bk : List Tm} {ks : List (List Int)} (nd : NdB bk) (hp : ks.Perm (bk.map (·.1))) (hw : ks.Pairwise fun x y => HT.lexLt x y = false) : Falls (fallB bk ks) := by
  have n : ks.Nodup := hp.nodup_iff.mpr nd
  unfold Falls fallB
  rw [List.pairwise_map]
  refine (hw.and n).imp fun {x y} h => ?_
  cases e : HT.lexLt y x with
  | true => rfl
  | false => exact absurd (lex_tot h.1 e) h.2
theorem fallB_cn {n M : Nat} {ℓ : (List Int → Int) → Int} {bk : List Tm} {ks : List (List Int)} (B : BookOf n M ℓ bk) (hp : ks.Perm (bk.map (·.1))) (hw : ks.Pairwise fun x y => HT.lexLt x y = false) : Cn ℓ (fallB bk ks) :=
  ⟨fallB_falls B.nd hp hw, fun a ha => B.nz a ((fallB_perm B.nd hp).mem_iff.mp ha), fun φ => by rw [Lf_perm (fallB_perm B.nd hp), B.lf]⟩
theorem fallB_cnF {n M : Nat} {ℓ : (List Int → Int) → Int} {bk : List Tm} {ks : List (List Int)} (nd : NdB bk) (lf : ∀ φ, Lf bk φ = ℓ φ) (hp : ks.Perm (bk.map (·.1))) (hw : ks.Pairwise fun x y => HT.lexLt x y = false) : Cn ℓ ((fallB bk ks).filter nzB) :=
  ⟨List.Pairwise.filter _ (fallB_falls nd hp hw), fun a ha => of_decide_eq_true (List.mem_filter.mp ha).2, fun φ => by rw [Lf_filter, Lf_perm (fallB_perm nd hp), lf]⟩
theorem fallB_take {bk : List Tm} {ks : List (List Int)} {i : Nat} {p : List Int} (h : ks[i]? = some p) : (fallB bk (ks.take (i + 1))) = fallB bk (ks.take i) ++ [(p, (getB bk p).getD 0)] := by
  unfold fallB
  rw [List.take_succ, h, List.map_append]
  rfl
theorem keys_of {H : Hp} : ∀ {bk : List Tm} {bs : List Addr}, IsKeys H (bk.map enc) bs → (∀ b ∈ bs, ∃ q : List Int, H b = some (.tup (q.map V.int))) ∧ bs.map (keyOf H) = bk.map (·.1)
  | [], _, .nil => ⟨fun b hb => by simp at hb, rfl⟩
  | a :: bk, _, .cons (b := b) h r => by
    obtain ⟨i1, i2⟩ := keys_of r
    have h' : H b = some (.tup (a.1.map V.int)) := by
      rw [← kV_ints]
      exact h
    refine ⟨fun c hc => ?_, ?_⟩
    · rcases List.mem_cons.mp hc with rfl | hc
      · exact ⟨_, h'⟩
      · exact i1 c hc
    · rw [List.map_cons, i2, keyOf_at h']
      rfl
theorem small4000 {n : Nat} (h : n ≤ 4000) : n < sizeLine := Nat.lt_of_le_of_lt h (by decide)
end Bw
set_option Elab.async false
set_option linter.all false
set_option maxRecDepth 100000
set_option maxHeartbeats 4000000
namespace Bw
open PySem PySem.Spec PyProof.Rows L2
theorem ref_at {ts : List Addr} {i : Nat} {x : V} (h : (ts.map V.ref)[i]? = some x) : ∃ t, ts[i]? = some t ∧ x = .ref t := by
  rw [List.getElem?_map] at h
  cases e : ts[i]? with
  | none =>
    rw [e] at h
    cases h
  | some t =>
    rw [e] at h
    exact ⟨t, rfl, (Option.some.inj h).symm⟩
theorem SqS.same {K : PySem.W.Frag} {b : Bool} {H H' : Hp} {a : Addr} {xs : List V} (s : Same H H') (h : SqS K b H a xs) : SqS K b H' a xs := by
  cases b
  · rcases h with (h | ⟨o, h⟩) | h
    · exact .inl (.inl (s _ _ h))
    · exact .inl (.inr ⟨o, s _ _ h⟩)
    · exact .inr h
  · exact Same.seq s h
section
variable {P : Program} {w : World} {K : PySem.W.Frag} {mg : Str → Option Value} {base : Heap}
abbrev s_gathered : Stmt := topS 11
abbrev n_gathered : List Str := ["terms", "counts", "powers", "count", "key"]
theorem sc_gathered : FnScope n_gathered ["terms"] (defScope s_gathered) := ⟨rfl, rfl, rfl, by decide +kernel, rfl, by decide +kernel, by decide +kernel⟩
def spGath (K : PySem.W.Frag) : Sp := fun vs H Q _ => ∃ (R : Addr) (ts : List Addr) (terms : List Tm) (n m : Nat) (bb : Bool), vs = [.ref R] ∧ SqS K bb H R (ts.map V.ref) ∧ TermsAt H ts terms ∧ terms.length ≤ 4000 ∧ Sized n m terms ∧
  ∀ (p : Addr) (us : List Addr) (r : List Tm) (H' : Hp), Same H H' → H p = none → H' p = some (.tup (us.map V.ref)) → TermsAt H' us r → Cn (Lf terms) r → Sized n (terms.length * m) r → r.length ≤ terms.length → Q (.ref p) H'
theorem ok_gath {f : Addr} {fd : FuncData} (F : Fun K "gathered" "gathered" s_gathered f fd) (T : Tx mg) : FnOk P w K mg base CX0 1 f fd ["terms"] (spGath K) := by
  refine F.ok sc_gathered (fun vs H Q E h => ?_) (fun cdv A outer s H vs Q E hr h => ?_)
  · obtain ⟨R, ts, terms, n, m, bb, rfl, _⟩ := h
    rfl
  · obtain ⟨R, ts, terms, n, m, bb, rfl, hR, hT, hlen, hsz, q⟩ := h
    have hu := hr.units
    refine ⟨_, (pss_cons (ps_set (i := 1) sc_gathered.nd rfl (.inr rfl) pe_dnewT)
  (pss_cons (ps_for PassesOwn.never rfl (p_seq (K := K) (pv 0)) (g_tup (K := K) (n := 2) rfl (pgs_cons (pg_name (i := 2) sc_gathered.nd rfl (.inl rfl)) (pgs_cons (pg_name (i := 3) sc_gathered.nd rfl (.inl rfl)) pgs_nil)))
    (pss_cons (ps_set (i := 4) sc_gathered.nd rfl (.inl rfl) (pe_callTy (c_tup (K := K)) (by rfl) T.tuple (by decide +kernel) (pa_cons (pv 2) pa_nil)))
    (pss_one (ps_dput (u1 hu) (pv 1) (pv 4) (pe_op op_add (pe_dget2 (u1 hu) (pv 1) (pv 4) pe_int ⟨rfl, rfl, rfl, rfl⟩) (pv 3)) rfl))))
  (pss_one (ps_ret (pe_callTy (c_tup (K := K)) (by rfl) T.tuple (by decide +kernel) (pa_cons (pe_lc (own := [("powers", 2)]) (by rfl) sc_gathered.nd (p_list (K := K) (pe_callBK (cr_sortDT rfl) (by rfl) T.sorted (by decide +kernel) (pa_cons (pv 1) pa_nil) (pk_cons pe_bl pk_nil))) (blkOk_by (own := [("powers", 2)]) (N := n_gathered) (sc := defScope s_gathered) (by decide +kernel)) (fun _ _ _ _ _ => (pg_name (i := 2) sc_gathered.nd rfl (.inl rfl))) (fun _ _ _ _ _ => pts_one (pt_cmpR op_ne (pe_dget (u1 hu) (pv 1) (pv 2) (fun _ _ => rfl)) pe_int (nomark _))) (fun _ _ _ _ _ => (pe_tup (pa_cons (pv 2) (pa_cons (pe_dget (u1 hu) (pv 1) (pv 2) (fun _ _ => rfl)) pa_nil))))) pa_nil)))))), ?_⟩
    intro D eD
    have sD := same_upd (o := .dT []) eD
    refine ⟨.ref R, rfl, R, _, bb, rfl, hR.same sD, ?_⟩
    refine for_it (walk_seq (K := K) (b := bb) (a := R) (xs := ts.map V.ref)) (fun i σ H' => ∃ (y2 y3 y4 : Option V) (bk : List Tm), σ = [some (.ref R), some (.ref D), y2, y3, y4] ∧ Same H H' ∧ BkAt H' D bk ∧ NdB bk ∧ Sized n (i * m) bk ∧ (∀ φ, Lf bk φ = Lf (terms.take i) φ) ∧ bk.length ≤ i)
      ⟨none, none, none, [], rfl, sD, upd_same, List.nodup_nil, .nil, fun φ => rfl, Nat.le_refl _⟩ (fun i σ H' _ ⟨_, _, _, _, _, s, _⟩ => hR.same s) ?_ ?_
    · rintro i x σ H1' H1 _ ⟨y2, y3, y4, bk, rfl, s1, eB, nd, sz, lf, hl⟩ ⟨rfl, hx⟩
      obtain ⟨t, et, rfl⟩ := ref_at hx
      obtain ⟨a, ea, b, hb1, hb2⟩ := (hT.same s1).at et
      have hi := (List.getElem?_eq_some_iff.mp ea).1
      have ha := hsz a (List.mem_of_getElem? ea)
      have ek : H1 b = some (.tup ((a.1.map Sum.inl : List Key).map kV)) := by
        rw [kV_ints]
        exact hb2
      have dg : DGet H1 D (.ref b) ((getB bk a.1).map V.int) := by
        rw [← enc_val]
        exact DGet.t eB ek
      refine ⟨t, _, rfl, SqT.of hb1, rfl, _, _, rfl, _, _, rfl, rfl, ?_⟩
      refine ⟨.ref b, rfl, b, _, rfl, .inr ⟨SqT.of hb2, ?_⟩⟩
      refine ⟨.ref D, rfl, D, rfl, .inr ⟨_, .inl eB⟩, .ref b, rfl, _, dg, .int a.2, rfl, (getB bk a.1).getD 0, a.2, ?_, rfl, .ref D, rfl, .ref b, rfl, D, _, rfl, DPut.t eB ek (by rw [List.length_map]; exact small4000 (by omega)), ?_⟩
      · cases getB bk a.1 <;> rfl
      · refine ⟨_, _, _, addB bk a.1 a.2, rfl, Same.updN s1 eD, ?_, putB_keys nd, ?_, fun φ => ?_, ?_⟩
        · show upd _ _ _ _ = _
          rw [upd_same, enc_put]
          rfl
        · have z := sz.add ha.1 ha.2
          rw [← Nat.succ_mul] at z
          exact z
        · rw [Lf_addB nd, lf, List.take_succ, ea, Lf_append]
          show _ = _ + Lf [a] φ
          rw [Lf_cons, Lf_nil]
          omega
        · have := putB_len bk a.1 ((getB bk a.1).getD 0 + a.2)
          show (putB _ _ _).length ≤ _
          omega
    · rintro σ H1 ⟨y2, y3, y4, bk, rfl, s1, eB, nd, sz, lf, hl⟩
      rw [List.length_map] at hl sz lf
      rw [hT.1] at hl sz lf
      rw [List.take_length] at lf
      refine ⟨.ref D, rfl, D, _, bk.map (·.1), rfl, rfl, .inl eB, enc_keys bk, nd_keys nd sz, fun us p3 kt pm pw ep3 => ?_⟩
      have pw : (us.map (keyOf H1)).Pairwise fun x y => HT.lexLt x y = false := by
        rw [List.pairwise_map]
        exact pw
      have sp := same_upd (o := .lst (us.map V.ref)) ep3
      refine ⟨p3, rfl, ⟨_, SqL.of upd_same⟩, fun L eL => ?_⟩
      have e3 : (upd H1 p3 (.lst (us.map V.ref))) p3 = some (.lst (us.map V.ref)) := upd_same
      have lu : us.length = bk.length := by
        have z := pm.length_eq
        rw [List.length_map, List.length_map] at z
        exact z
      generalize (upd H1 p3 (.lst (us.map V.ref))) = H3 at *
      have sH : Same H H3 := s1.trans sp
      have eB3 := sp _ _ eB
      refine lc_list (K := K) (a := p3) (xs := us.map V.ref) (fun j H' => ∃ ts : List Addr, H' L = some (.lst (ts.map V.ref)) ∧ TermsAt H' ts ((fallB bk ((us.map (keyOf H1)).take j)).filter nzB) ∧ Same H3 H') ⟨[], upd_same, .nil, same_upd eL⟩ (fun j H' _ ⟨_, _, _, s⟩ => SqL.of (s _ _ e3)) ?_ ?_
      · rintro j x H4 hx ⟨ts, e4, hT4, s4⟩
        obtain ⟨b, eb, rfl⟩ := ref_at hx
        obtain ⟨q', hq'⟩ := kt b (List.mem_of_getElem? eb)
        have ek : (us.map (keyOf H1))[j]? = some q' := by
          rw [List.getElem?_map, eb]
          show some (keyOf H1 b) = _
          rw [keyOf_at hq']
        have hq4 := s4 _ _ (sp _ _ hq')
        obtain ⟨a, ha, e1⟩ := List.mem_map.mp (pm.mem_iff.mp (List.mem_of_getElem? ek))
        have gb : getB bk q' = some a.2 := getB_mem nd (by rw [← e1]; exact ha)
        have hv : valV (bk.map enc) (q'.map Sum.inl) = some (V.int a.2) := by
          rw [enc_val, gb]
          rfl
        have dg : DGet H4 D (.ref b) (some (.int a.2)) := .inr ⟨_, q'.map Sum.inl, b, .inl (s4 _ _ eB3), rfl, by rw [kV_ints]; exact hq4, hv.symm⟩
        have tk : (fallB bk ((us.map (keyOf H1)).take (j + 1))).filter nzB = (fallB bk ((us.map (keyOf H1)).take j)).filter nzB ++ (if a.2 ≠ 0 then [(q', a.2)] else []) := by
          rw [fallB_take ek, gb, List.filter_append]
          congr 1
          by_cases z : a.2 = 0 <;> simp [nzB, z]
        refine ⟨rfl, .ref D, rfl, .ref b, rfl, D, .int a.2, rfl, dg, rfl, _, rfl, ite2 (fun hz => ?_) (fun hz => ?_)⟩
        · have hz : a.2 ≠ 0 := fun z => by simp [z] at hz
          rw [tk, if_pos hz]
          refine ⟨.ref b, rfl, .ref D, rfl, .ref b, rfl, D, .int a.2, rfl, dg, by show 2 ≤ sizeLine; decide, fun t et => ?_⟩
          have st := same_upd (o := .tup [.ref b, .int a.2]) et
          have lt : ts.length ≤ 4000 := by
            have z := hT4.1
            have z2 := List.length_filter_le nzB (fallB bk ((us.map (keyOf H1)).take j))
            have z3 : (fallB bk ((us.map (keyOf H1)).take j)).length ≤ bk.length := by
              unfold fallB
              rw [List.length_map, List.length_take, List.length_map]
              omega
            omega
          refine ⟨_, st _ _ e4, by rw [List.length_map]; exact small4000 lt, ts ++ [t], ?_, ?_, Same.updN (s4.trans st) eL⟩
          · rw [upd_same, List.map_append]
            rfl
          · exact TermsAt.put (TermsAt.snoc (hT4.same st) ⟨b, upd_same, st _ _ hq4⟩) (st _ _ e4)
        · have hz : a.2 = 0 := Classical.byContradiction fun z => hz (by simp [z])
          rw [tk, if_neg (fun z => z hz), List.append_nil]
          exact ⟨ts, e4, hT4, s4⟩
      · rintro H4 ⟨ts, e4, hT4, s4⟩
        rw [List.length_map, ← List.length_map (f := keyOf H1), List.take_length] at hT4
        refine ⟨L, _, rfl, .inl ⟨SqL.of e4, fun p ep => ?_⟩⟩
        have st := same_upd (o := .tup (ts.map V.ref)) ep
        have pmB := fallB_perm nd pm
        have hle := List.length_filter_le nzB (fallB bk (us.map (keyOf H1)))
        refine q p ts _ _ ((sH.trans s4).trans st) ((sH.trans s4).free ep) upd_same (hT4.same st) (fallB_cnF (n := n) (M := 0) nd lf pm pw) (fun a ha => sz a (pmB.mem_iff.mp (List.mem_filter.mp ha).1)) ?_
        rw [pmB.length_eq] at hle
        omega
end
end Bw
set_option Elab.async false
set_option linter.all false
set_option maxRecDepth 100000
set_option maxHeartbeats 4000000
namespace Bw
open PySem PySem.Spec PyProof.Rows L2
/-! ### products multiplied -/
def addP (p q : List Int) : List Int := List.zipWith (· + ·) p q
theorem addP_take {p q : List Int} {i : Nat} {x y : Int} (hp : p[i]? = some x) (hq : q[i]? = some y) : addP (p.take (i + 1)) (q.take (i + 1)) = addP (p.take i) (q.take i) ++ [x + y] := by
  unfold addP
  have h1 := (List.getElem?_eq_some_iff.mp hp).1
  have h2 := (List.getElem?_eq_some_iff.mp hq).1
  rw [List.take_succ, List.take_succ, hp, hq, List.zipWith_append (by rw [List.length_take, List.length_take]; omega)]
  rfl
theorem addP_comm (p q : List Int) : addP p q = addP q p := List.zipWith_comm_of_comm (fun x y => Int.add_comm x y)
theorem addP_length {p q : List Int} {n : Nat} (hp : p.length = n) (hq : q.length = n) : (addP p q).length = n := by
  unfold addP
  rw [List.length_zipWith, hp, hq, Nat.min_self]
def mulA (a : Tm) (other : List Tm) : List Tm := other.map fun b => (addP a.1 b.1, a.2 * b.2)
def mulT : List Tm → List Tm → List Tm
  | [], _ => []
  | a :: one, other => mulA a other ++ mulT one other
theorem mulT_append (x y other : List Tm) : mulT (x ++ y) other = mulT x other ++ mulT y other := by
  induction x with
  | nil => rfl
  | cons a x ih =>
    show mulA a other ++ mulT (x ++ y) other = (mulA a other ++ mulT x other) ++ mulT y other
    rw [ih, List.append_assoc]
theorem mulT_len (x other : List Tm) : (mulT x other).length = x.length * other.length := by
  induction x with
  | nil =>
    rw [List.length_nil, Nat.zero_mul]
    rfl
  | cons a x ih =>
    show (mulA a other ++ mulT x other).length = _
    rw [List.length_append, ih, List.length_cons, Nat.succ_mul]
    unfold mulA
    rw [List.length_map]
    omega
theorem Lf_mulA (a : Tm) (other : List Tm) (φ : List Int → Int) : Lf (mulA a other) φ = a.2 * Lf other (fun q => φ (addP a.1 q)) := by
  unfold mulA
  induction other with
  | nil => exact (Int.mul_zero _).symm
  | cons b other ih =>
    rw [List.map_cons, Lf_cons, Lf_cons, ih, Int.mul_add, Int.mul_assoc]
/-- two linear forms multiplied -/
def lmul (ℓ ℓ' : (List Int → Int) → Int) : (List Int → Int) → Int := fun φ => ℓ fun p => ℓ' fun q => φ (addP p q)
theorem Lf_mulT (x other : List Tm) (φ : List Int → Int) : Lf (mulT x other) φ = lmul (Lf x) (Lf other) φ := by
  unfold lmul
  induction x with
  | nil => rfl
  | cons a x ih =>
    show Lf (mulA a other ++ mulT x other) φ = _
    rw [Lf_append, ih, Lf_mulA, Lf_cons]
theorem Lf_congr {r r' : List Tm} (h : ∀ φ, Lf r φ = Lf r' φ) : Lf r = Lf r' := funext h
theorem Lf_add (x : List Tm) (φ ψ : List Int → Int) : Lf x (fun p => φ p + ψ p) = Lf x φ + Lf x ψ := by
  induction x with
  | nil => rfl
  | cons a x ih =>
    rw [Lf_cons, Lf_cons, Lf_cons, ih, Int.mul_add]
    omega
theorem Lf_scale (x : List Tm) (c : Int) (φ : List Int → Int) : Lf x (fun p => c * φ p) = c * Lf x φ := by
  induction x with
  | nil => exact (Int.mul_zero _).symm
  | cons a x ih =>
    rw [Lf_cons, Lf_cons, ih, Int.mul_add]
    have : a.2 * (c * φ a.1) = c * (a.2 * φ a.1) := by rw [Int.mul_left_comm]
    rw [this]
theorem Lf_zero (x : List Tm) : Lf x (fun _ => 0) = 0 := by
  induction x with
  | nil => rfl
  | cons a x ih =>
    rw [Lf_cons, ih, Int.mul_zero]
    rfl
theorem lmul_comm (x y : List Tm) (φ : List Int → Int) : lmul (Lf x) (Lf y) φ = lmul (Lf y) (Lf x) φ := by
  unfold lmul
  induction x with
  | nil => exact (Lf_zero y).symm
  | cons a x ih =>
    rw [Lf_cons, ih]
    have e : (fun p => Lf (a :: x) fun q => φ (addP p q)) = fun p => a.2 * φ (addP a.1 p) + Lf x fun q => φ (addP p q) := by
      funext p
      rw [Lf_cons, addP_comm]
    rw [e, Lf_add, Lf_scale]
theorem Sized.mulA {n m k : Nat} {a : Tm} {other : List Tm} (h1 : a.1.length = n ∧ a.2.natAbs ≤ m) (h2 : Sized n k other) : Sized n (m * k) (mulA a other) := fun c hc => by
  obtain ⟨b, hb, rfl⟩ := List.mem_map.mp hc
  refine ⟨addP_length h1.1 (h2 b hb).1, ?_⟩
  show (a.2 * b.2).natAbs ≤ _
  rw [Int.natAbs_mul]
  exact Nat.mul_le_mul h1.2 (h2 b hb).2
theorem Sized.mulT {n m k : Nat} : ∀ {x : List Tm} {other : List Tm}, Sized n m x → Sized n k other → Sized n (m * k) (mulT x other)
  | [], _, _, _ => Sized.nil
  | a :: x, other, h1, h2 => fun c hc => by
    rcases List.mem_append.mp (show c ∈ Bw.mulA a other ++ Bw.mulT x other from hc) with hc | hc
    · exact Sized.mulA (h1 a (List.mem_cons_self ..)) h2 c hc
    · exact Sized.mulT (fun b hb => h1 b (List.mem_cons_of_mem _ hb)) h2 c hc
theorem mulT_take {x other : List Tm} {i : Nat} {a : Tm} (h : x[i]? = some a) : mulT (x.take (i + 1)) other = mulT (x.take i) other ++ mulA a other := by
  rw [List.take_succ, h, mulT_append]
  show _ ++ (mulA a other ++ []) = _
  rw [List.append_nil]
theorem mulA_take {a b : Tm} {other : List Tm} {j : Nat} (h : other[j]? = some b) : mulA a (other.take (j + 1)) = mulA a (other.take j) ++ [(addP a.1 b.1, a.2 * b.2)] := by
  unfold mulA
  rw [List.take_succ, h, List.map_append]
  rfl
theorem big_mul {i j : Int} {a b B : Nat} (ha : i.natAbs ≤ a) (hb : j.natAbs ≤ b) (h1 : a < 2 ^ 1000) (h2 : b < 2 ^ 1000) : CMulW i j := wide_mul (a := 1000) (b := 1000) (Nat.lt_of_le_of_lt ha h1) (Nat.lt_of_le_of_lt hb h2) (by decide) (by decide) (by decide)
section
variable {P : Program} {w : World} {K : PySem.W.Frag} {mg : Str → Option Value} {base : Heap}
def spAddP : Sp := fun vs H Q _ => ∃ (a b : Addr) (p q : List Int), vs = [.ref a, .ref b] ∧ H a = some (.tup (p.map V.int)) ∧ H b = some (.tup (q.map V.int)) ∧ p.length = q.length ∧ p.length ≤ 8 ∧
  ∀ (c : Addr) (H' : Hp), Same H H' → H c = none → H' c = some (.tup ((addP p q).map V.int)) → Q (.ref c) H'
abbrev s_added_powers : Stmt := topS 10
abbrev n_added_powers : List Str := ["one", "other", "a", "b"]
theorem sc_added_powers : FnScope n_added_powers ["one", "other"] (defScope s_added_powers) := ⟨rfl, rfl, rfl, by decide +kernel, rfl, by decide +kernel, by decide +kernel⟩
theorem ok_added_powers {f : Addr} {fd : FuncData} (F : Fun K "added_powers" "added_powers" s_added_powers f fd) (T : Tx mg) : FnOk P w K mg base CX0 1 f fd ["one", "other"] spAddP := by
  refine F.ok sc_added_powers (fun vs H Q E h => ?_) (fun cdv A outer s H vs Q E hr h => ?_)
  · obtain ⟨a, b, p, q, rfl, _⟩ := h
    rfl
  · obtain ⟨a, b, xp, xq, rfl, ha, hb, hl, h8, q⟩ := h
    refine ⟨_, (pss_one (ps_ret (pe_callTy (c_tup (K := K)) (by rfl) T.tuple (by decide +kernel) (pa_cons (pe_lc (own := [("a", 2), ("b", 3)]) (by rfl) sc_added_powers.nd (RZ.pi_zipA (by rfl) T.zip (pa_cons (pv 0) (pa_cons (pv 1) pa_nil))) (blkOk_by (own := [("a", 2), ("b", 3)]) (N := n_added_powers) (sc := defScope s_added_powers) (by decide +kernel)) (fun _ _ _ _ _ => (g_tup (K := K) (n := 2) rfl (pgs_cons (pg_name (i := 2) sc_added_powers.nd rfl (.inl rfl)) (pgs_cons (pg_name (i := 3) sc_added_powers.nd rfl (.inl rfl)) pgs_nil)))) (fun _ _ _ _ _ => pts_nil) (fun _ _ _ _ _ => (pe_op op_add (pv 2) (pv 3)))) pa_nil)))), ?_⟩
    refine ⟨.ref a, rfl, .ref b, rfl, a, b, _, _, rfl, .inr ⟨SqT.of ha, SqT.of hb, fun D eD => ?_⟩⟩
    refine it_zipT (by rw [List.length_map, List.length_map, hl]) (fun j H' => H' D = some (.lst ((addP (xp.take j) (xq.take j)).map V.int)) ∧ Same H H') ⟨upd_same, same_upd eD⟩ (fun j H' ⟨_, k⟩ => ⟨SqT.of (k _ _ ha), SqT.of (k _ _ hb)⟩) ?_ ?_
    · rintro j u v Tt H1 hu hv ⟨e1, k1⟩ nT
      obtain ⟨x, ex, rfl⟩ := int_at hu
      obtain ⟨y, ey, rfl⟩ := int_at hv
      have sT := same_upd (o := .tup [.int x, .int y]) nT
      refine ⟨Tt, _, rfl, SqT.of upd_same, rfl, _, _, rfl, _, _, rfl, rfl, rfl, .int x, rfl, .int y, rfl, x, y, rfl, rfl, ?_⟩
      refine ⟨_, sT _ _ e1, ?_, ?_, Same.updN (k1.trans sT) eD⟩
      · rw [List.length_map]
        unfold addP
        rw [List.length_zipWith, List.length_take, List.length_take]
        exact small1000 (by omega)
      · rw [upd_same, addP_take ex ey, List.map_append]
        rfl
    · rintro H1 ⟨e1, k1⟩
      rw [List.length_map, List.take_length, hl, List.take_length] at e1
      refine ⟨D, _, rfl, .inl ⟨SqL.of e1, fun c ec => ?_⟩⟩
      have sc := same_upd (o := .tup ((addP xp xq).map V.int)) ec
      exact q c _ (k1.trans sc) (k1.free ec) upd_same
abbrev s_multiplied : Stmt := topS 12
abbrev n_multiplied : List Str := ["one", "other", "powers", "count", "more", "many"]
theorem sc_multiplied : FnScope n_multiplied ["one", "other"] (defScope s_multiplied) := ⟨rfl, rfl, rfl, by decide +kernel, rfl, by decide +kernel, by decide +kernel⟩
def spMul : Sp := fun vs H Q _ => ∃ (a b : Addr) (ts us : List Addr) (x y : List Tm) (n m k : Nat), vs = [.ref a, .ref b] ∧ H a = some (.tup (ts.map V.ref)) ∧ TermsAt H ts x ∧ H b = some (.tup (us.map V.ref)) ∧ TermsAt H us y ∧ n ≤ 8 ∧ Sized n m x ∧ Sized n k y ∧ m < 2 ^ 1000 ∧ k < 2 ^ 1000 ∧ x.length * y.length ≤ 4000 ∧
  ∀ (L : Addr) (ls : List Addr) (H' : Hp), Same H H' → H L = none → H' L = some (.lst (ls.map V.ref)) → TermsAt H' ls (mulT x y) → Q (.ref L) H'
theorem ok_mul {f : Addr} {fd : FuncData} (F : Fun K "multiplied" "multiplied" s_multiplied f fd) (T : Tx mg) (c_added_powers : Cal P w K mg base CX0 1 "added_powers" ["one", "other"] spAddP) : FnOk P w K mg base CX0 2 f fd ["one", "other"] spMul := by
  refine F.ok sc_multiplied (fun vs H Q E h => ?_) (fun cdv A outer s H vs Q E hr h => ?_)
  · obtain ⟨a, b, ts, us, x, y, n, m, k, rfl, _⟩ := h
    rfl
  · obtain ⟨a, b, ts, us, x, y, n, m, k, rfl, ha, hx, hb, hy, n8, zx, zy, hm, hk, hxy, q⟩ := h
    refine ⟨_, (pss_one (ps_ret (pe_lc2 (own := [("powers", 2), ("count", 3), ("more", 4), ("many", 5)]) (vs1 := [4, 5]) (by rfl) sc_multiplied.nd (p_tup (K := K) (pv 0)) (blkOk_by (own := [("powers", 2), ("count", 3), ("more", 4), ("many", 5)]) (N := n_multiplied) (sc := defScope s_multiplied) (by decide +kernel)) (by decide)
      (fun _ _ _ _ _ => (g_tup (K := K) (n := 2) rfl (pgs_cons (pg_name (i := 2) sc_multiplied.nd rfl (.inl rfl)) (pgs_cons (pg_name (i := 3) sc_multiplied.nd rfl (.inl rfl)) pgs_nil)))) (fun _ _ _ _ _ => pts_nil)
      (fun _ _ _ _ _ => p_tup (K := K) (pv 1)) (fun _ _ _ _ _ => (g_tup (K := K) (n := 2) rfl (pgs_cons (pg_name (i := 4) sc_multiplied.nd rfl (.inl rfl)) (pgs_cons (pg_name (i := 5) sc_multiplied.nd rfl (.inl rfl)) pgs_nil)))) (fun _ _ _ _ _ => pts_nil)
      (fun _ _ _ _ _ => (pe_tup (pa_cons (pe_cal c_added_powers hr (by rfl) (pa_cons (pv 2) (pa_cons (pv 4) pa_nil))) (pa_cons (pe_op op_mulW (pv 3) (pv 5)) pa_nil))))))), ?_⟩
    refine ⟨.ref a, rfl, a, rfl, ⟨_, SqT.of ha⟩, fun L eL => ?_⟩
    refine it_walk (walk_tup (K := K) (a := a) (xs := ts.map V.ref)) (fun i H' => ∃ ls : List Addr, H' L = some (.lst (ls.map V.ref)) ∧ TermsAt H' ls (mulT (x.take i) y) ∧ Same H H') ⟨[], upd_same, .nil, same_upd eL⟩ (fun i H' _ ⟨_, _, _, s⟩ => SqT.of (s _ _ ha)) ?_ ?_
    · rintro i v H1 H1' hi ⟨ls, e1, hT1, s1⟩ ⟨rfl, ev⟩
      obtain ⟨t, et, rfl⟩ := ref_at ev
      obtain ⟨c, ec, p, hp1, hp2⟩ := hx.at et
      have hix := (List.getElem?_eq_some_iff.mp ec).1
      have zc := zx c (List.mem_of_getElem? ec)
      refine ⟨t, _, rfl, SqT.of (s1 _ _ hp1), rfl, _, _, rfl, _, _, rfl, rfl, rfl, ?_⟩
      refine ⟨.ref b, rfl, b, rfl, ⟨_, SqT.of (s1 _ _ hb)⟩, ?_⟩
      rw [mulT_take ec]
      refine it_walk (walk_tup (K := K) (a := b) (xs := us.map V.ref)) (fun j H' => ∃ ls : List Addr, H' L = some (.lst (ls.map V.ref)) ∧ TermsAt H' ls (mulT (x.take i) y ++ mulA c (y.take j)) ∧ Same H H') ⟨ls, e1, by show TermsAt _ _ (_ ++ []); rw [List.append_nil]; exact hT1, s1⟩ (fun j H' _ ⟨_, _, _, s⟩ => SqT.of (s _ _ hb)) ?_ ?_
      · rintro j v2 H2 H2' hj ⟨l2, e2, hT2, s2⟩ ⟨rfl, ev2⟩
        obtain ⟨t2, et2, rfl⟩ := ref_at ev2
        obtain ⟨d, ed, p2, hd1, hd2⟩ := (hy.same s2).at et2
        have hjy := (List.getElem?_eq_some_iff.mp ed).1
        have zd := zy d (List.mem_of_getElem? ed)
        refine ⟨t2, _, rfl, SqT.of hd1, rfl, _, _, rfl, _, _, rfl, rfl, rfl, ?_⟩
        refine ⟨.ref p, rfl, .ref p2, rfl, p, p2, c.1, d.1, rfl, s2 _ _ hp2, hd2, by rw [zc.1, zd.1], by rw [zc.1]; exact n8, fun r H3 s3 _ er => ?_⟩
        refine ⟨.int c.2, rfl, .int d.2, rfl, c.2, d.2, rfl, rfl, big_mul (B := 0) zc.2 zd.2 hm hk, by show 2 ≤ sizeLine; decide, fun t3 et3 => ?_⟩
        have st := same_upd (o := .tup [.ref r, .int (c.2 * d.2)]) et3
        refine ⟨_, st _ _ (s3 _ _ e2), ?_, l2 ++ [t3], ?_, ?_, Same.updN ((s2.trans s3).trans st) eL⟩
        · rw [List.length_map, hT2.1, List.length_append, mulT_len, List.length_take]
          unfold mulA
          rw [List.length_map, List.length_take]
          have z1 : min i x.length = i := by omega
          have z2 : min j y.length = j := by omega
          rw [z1, z2]
          refine small4000 ?_
          have z3 : (i + 1) * y.length ≤ x.length * y.length := Nat.mul_le_mul_right _ hix
          rw [Nat.succ_mul] at z3
          omega
        · rw [upd_same, List.map_append]
          rfl
        · rw [mulA_take ed, ← List.append_assoc]
          exact TermsAt.put (TermsAt.snoc ((hT2.same s3).same st) ⟨r, upd_same, st _ _ er⟩) (st _ _ (s3 _ _ e2))
      · rintro H2 ⟨l2, e2, hT2, s2⟩
        rw [List.length_map, hy.1, List.take_length] at hT2
        exact ⟨l2, e2, hT2, s2⟩
    · rintro H1 ⟨ls, e1, hT1, s1⟩
      rw [List.length_map, hx.1, List.take_length] at hT1
      exact q L ls _ s1 eL e1 hT1
end
end Bw
set_option Elab.async false
set_option linter.all false
set_option maxRecDepth 100000
set_option maxHeartbeats 4000000
namespace Bw
open PySem PySem.Spec PyProof.Rows L2
/-! ### the class Sum -/
structure SumC (K : PySem.W.Frag) (mg : Str → Option Value) (C : Addr) : Prop where
  gl : mg "Sum" = some (.ref C)
  cls : Cls K C
  nw : NoAttr K C "width"
  np : NoAttr K C "products"
  ha : PySem.W.findIn K (.ref C) "__class__" = some (some (.builtin "object.__class__"))
  hn : PySem.W.specialIn K (.builtin "object.__class__") "__get__" = some (some (.builtin "getset_descriptor.__get__"))
  htk : PySem.W.takesIn K (.builtin "object.__class__") = some true
  hm : PySem.W.mroIn K C (.type "object") = some true
  self : PySem.W.kitOne K (.ref C) (.ref C) = some true
  kp : PySem.W.keepIn K (.ref C) = true
structure MakS (P : Program) (w : World) (K : PySem.W.Frag) (mg : Str → Option Value) (base : Heap) (k : Nat) (C : Addr) (ps : List Str) (sp : Sp) : Prop where
  ex : ∃ (f : Addr) (fd : FuncData), Mk K C f ∧ FnOk P w K mg base CX0 k f fd ps sp ∧ mg "Sum" = some (.ref C) ∧ Binds K fd ps []
structure MetS (P : Program) (w : World) (K : PySem.W.Frag) (mg : Str → Option Value) (base : Heap) (k : Nat) (C : Addr) (m : Str) (ps : List Str) (sp : Sp) : Prop where
  ex : ∃ (f : Addr) (fd : FuncData), Cls K C ∧ Meth K C m f ∧ FnOk P w K mg base CX0 k f fd ps sp ∧ Binds K fd ps []
section
variable {X : Cx} {ps : List Str} {sp : Sp} {k : Nat} {C : Addr} {m : Str} {o e : Expr} {es : List Expr} {p pos apos : Pos} {t : TA} {ta : TE}
theorem pe_mkS (M : MakS X.prog X.w X.K X.mg X.base k C ps sp) (hr : Room (k + 1) X.A) (hg : Gl X "Sum") (ha : PA X (e :: es) t) (he : starEach (e :: es) X.env = (false, eval e X.env) :: starEach es X.env := by rfl)
    (hpl : (backTo pos (starEach es X.env)).any (·.1) = false := by rfl) : PE X (.Call (.Name "Sum" p) (e :: es) [] pos) (tMake C sp [] E0 t) := by
  obtain ⟨f, fd, mk, F, hm, hb⟩ := M.ex
  exact pe_make mk F hr hg hm hb .nil pass0 ha (by decide) he hpl
theorem pe_mtS {pl : Sem Bool} (M : MetS X.prog X.w X.K X.mg X.base k C m ps sp) (hr : Room k X.A) (ho : PE X o ta) (ha : PA X (e :: es) t) (hst : starEach (e :: es) X.env = (false, eval e X.env) :: starEach es X.env := by rfl)
    (hpl : (backTo pos (starEach es X.env)).any (·.1) = false := by rfl)
    (ht : eval (.Call (.Attribute o m apos) (e :: es) [] pos) X.env = (do
      let ov ← eval o X.env
      standAt apos.atName
      let (f, first) ← holding [ov] (getMethod ov m pl)
      callWith pos f first (backTo pos (starEach (e :: es) X.env)) (backToKw pos (keywordEach [] X.env))) := by rfl) : PE X (.Call (.Attribute o m apos) (e :: es) [] pos) (tMeth C m sp [] E0 ta t) := by
  obtain ⟨f, fd, c, hm, F, hb⟩ := M.ex
  exact pe_meth (pl := pl) ho c hm F hr hb .nil pass0 ha hst hpl ht
theorem pe_mtS0 {pl : Sem Bool} (M : MetS X.prog X.w X.K X.mg X.base k C m ps sp) (hr : Room k X.A) (ho : PE X o ta)
    (ht : eval (.Call (.Attribute o m apos) [] [] pos) X.env = (do
      let ov ← eval o X.env
      standAt apos.atName
      let (f, first) ← holding [ov] (getMethod ov m pl)
      callWith pos f first (backTo pos (starEach [] X.env)) (backToKw pos (keywordEach [] X.env))) := by rfl) : PE X (.Call (.Attribute o m apos) [] [] pos) (tMeth C m sp [] E0 ta tNil) := by
  obtain ⟨f, fd, c, hm, F, hb⟩ := M.ex
  exact pe_meth0 (pl := pl) ho c hm F hr hb .nil pass0 ht
theorem pf {K : PySem.W.Frag} {f : Str} (he : PE X e ta) (hK : X.K = K := by rfl) (hb : attributeBase e f X.env (eval e X.env) = eval e X.env := by rfl) : PE X (.Attribute e f pos) (tFld K ta f) := by
  subst hK
  exact pe_fld he hb
end
theorem made_same {H : Hp} {C x dx : Addr} (x0 : H x = none) (dx0 : H dx = none) (n : dx ≠ x) : Same H (upd (upd H dx (.own x)) x (.ins C dx [])) := (same_upd dx0).trans (same_upd (by rw [upd_ne (Ne.symm n)]; exact x0))
/-- what the written part says of an error's class that stands under BudError -/
structure ErrC (K : PySem.W.Frag) (mg : Str → Option Value) (x : Str) (C f CB : Addr) : Prop where
  g : mg x = some (.ref C)
  oex : OexC K C
  iC : PySem.W.findIn K (.ref C) "__init__" = some (some (.ref f))
  tI : PySem.W.typeIn K (.ref f) = some (.type "function")
  nw : PySem.W.findIn K (.ref C) "word" = some none
  xf : XfC K C
  te : PySem.W.exmOne K (.ref C) (.ref CB) = some true
def wordFs (x : Str) : List (Str × V) := [("word", .str x)]
theorem ErrC.at {K : PySem.W.Frag} {mg : Str → Option Value} {x wd : Str} {C f CB d : Addr} {H : Hp} (T : ErrC K mg x C f CB) (h : H d = some (.xd (wordFs wd))) : ErrAt K CB (.ref C) (some d) H (.str wd) := ⟨C, d, _, rfl, rfl, T.te, T.xf, T.nw, h, rfl⟩
section
variable {P : Program} {w : World} {K : PySem.W.Frag} {mg : Str → Option Value} {base : Heap}
abbrev s_bud_init : Stmt := inClass (topS 2) 0
theorem sc_bud_init : FnScope ["self", "word"] ["self", "word"] (defScope s_bud_init) := ⟨rfl, rfl, rfl, by decide +kernel, rfl, by decide +kernel, by decide +kernel⟩
def vV (K : PySem.W.Frag) : Prop := PySem.W.findCls K (.type "ValueError") (.type "type") "__init__" = some (.val (.builtin "ValueError.__init__"))
def spBudInit (K : PySem.W.Frag) : Sp := fun vs H Q _ => ∃ (a C : Addr) (x : V), vs = [.ref a, x] ∧ OexC K C ∧ PySem.W.findIn K (.ref C) "word" = some none ∧ H a = some (exo a C none) ∧ ∀ dx, H dx = none → dx ≠ a → Q .non (upd (upd H dx (exd dx [("word", x)])) a (exo a C (some dx)))
theorem ok_budinit {f : Addr} {fd : FuncData} {k : Nat} (F : Fun K "__init__" "BudError.__init__" s_bud_init f fd) (T : Tx mg) (v : vV K) : FnOk P w K mg base CX0 (k + 1) f fd ["self", "word"] (spBudInit K) := by
  refine F.ok sc_bud_init (fun vs H Q E h => ?_) (fun cdv A outer s H vs Q E hr h => ?_)
  · obtain ⟨a, C, x, rfl, _⟩ := h
    rfl
  · obtain ⟨a, C, x, rfl, O, nw, ha, q⟩ := h
    refine ⟨_, pss_cons (ps_expr (pe_veinit (by rfl) T.ValueError v (pa_cons (pv 0) (pa_cons (pv 1) pa_nil)))) (pss_one (ps_ost (pv 0) (pv 1))), ?_⟩
    refine ⟨.ref a, rfl, x, rfl, a, C, [x], rfl, by show 1 ≤ 1000; decide, O, ha, ?_⟩
    exact ⟨x, rfl, .ref a, rfl, a, C, rfl, O, nw, .inl ⟨ha, q⟩⟩
/-- an error's own __init__ that wants nothing -/
def spErrInit (K : PySem.W.Frag) (wd : Str) : Sp := fun vs H Q _ => ∃ (a C : Addr), vs = [.ref a] ∧ OexC K C ∧ PySem.W.findIn K (.ref C) "word" = some none ∧ H a = some (exo a C none) ∧
  ∀ (dx : Addr) (H' : Hp), H dx = none → dx ≠ a → H' a = some (exo a C (some dx)) → H' dx = some (exd dx (wordFs wd)) → (∀ b, b ≠ a → b ≠ dx → H' b = H b) → Q .non H'
abbrev s_great_init : Stmt := inClass (topS 4) 0
theorem sc_great_init : FnScope ["self"] ["self"] (defScope s_great_init) := ⟨rfl, rfl, rfl, by decide +kernel, rfl, by decide +kernel, by decide +kernel⟩
theorem ok_greatinit {f fB CB : Addr} {fd fdB : FuncData} {k : Nat} (F : Fun K "__init__" "Great.__init__" s_great_init f fd) (T : Tx mg) (TB : ClsFn K mg "BudError" "__init__" CB fB) (FB : FnOk P w K mg base CX0 k fB fdB ["self", "word"] (spBudInit K)) (bB : Binds K fdB ["self", "word"] []) : FnOk P w K mg base CX0 (k + 1) f fd ["self"] (spErrInit K "great") := by
  refine F.ok sc_great_init (fun vs H Q E h => ?_) (fun cdv A outer s H vs Q E hr h => ?_)
  · obtain ⟨a, C, rfl, _⟩ := h
    rfl
  · obtain ⟨a, C, rfl, O, nw, ha, q⟩ := h
    refine ⟨_, pss_one (ps_expr (pe_cfun TB FB hr (by rfl) bB pass0 (pa_cons (pv 0) (pa_cons pe_str pa_nil)))), ?_⟩
    refine ⟨.ref a, rfl, a, C, _, rfl, O, nw, ha, fun dx ed nd => ?_⟩
    refine q dx _ ed nd upd_same ?_ fun b n1 n2 => ?_
    · rw [upd_ne nd, upd_same]
      rfl
    · rw [upd_ne n1, upd_ne n2]
end
/-- raise x(): its reading, where what was stays -/
theorem raise_done {K : PySem.W.Frag} {mg : Str → Option Value} {x wd : Str} {C f CB : Addr} {σ : L2.St} {H : Hp} {E : XK} (T : ErrC K mg x C f CB) (q : ∀ (d : Addr) (H' : Hp), Same H H' → H' d = some (.xd (wordFs wd)) → E (.ref C) (some d) H') : tMkO C (spErrInit K wd) [] tNil σ H E := by
  refine ⟨by show 0 ≤ 1000; decide, fun x ex => ?_⟩
  refine ⟨x, C, rfl, T.oex, T.nw, upd_same, fun dx H6 ed nd hx hd hk => ?_⟩
  have ed2 : H dx = none := by
    rw [upd_ne nd] at ed
    exact ed
  refine ⟨rfl, dx, _, hx, hd, ed2, q dx _ (fun c o e2 => ?_) upd_same⟩
  have n1 : c ≠ x := ne_of_none e2 ex
  have n2 : c ≠ dx := ne_of_none e2 ed2
  rw [upd_ne n2, del_ne n1, hk c n1 n2, upd_ne n1]
  exact e2
/-- too many products: let out, and what was stays -/
def Gr (CG : Addr) (H : Hp) (E : XK) : Prop := ∀ (d : Addr) (H' : Hp), Same H H' → H' d = some (.xd (wordFs "great")) → E (.ref CG) (some d) H'
theorem Gr.same {CG : Addr} {H H' : Hp} {E : XK} (s : Same H H') (h : Gr CG H E) : Gr CG H' E := fun d H2 s2 hd => h d H2 (s.trans s2) hd
structure MakX (P : Program) (w : World) (K : PySem.W.Frag) (mg : Str → Option Value) (base : Heap) (k : Nat) (C : Addr) (ps : List Str) (sp : Sp) : Prop where
  ex : ∃ (f : Addr) (fd : FuncData), Mk K C f ∧ FnOk P w K mg base (L2.CX P w) k f fd ps sp ∧ mg "Sum" = some (.ref C) ∧ Binds K fd ps []
theorem pe_mkX {X : Cx} {ps : List Str} {sp : Sp} {k : Nat} {C : Addr} {e : Expr} {es : List Expr} {p pos : Pos} {t : TA} {E : XK} (M : MakX X.prog X.w X.K X.mg X.base k C ps sp) (hr : Room (k + 1) X.A) (hg : Gl X "Sum") (hx : Passes (L2.CX X.prog X.w) X E) (ha : PA X (e :: es) t) (he : starEach (e :: es) X.env = (false, eval e X.env) :: starEach es X.env := by rfl)
    (hpl : (backTo pos (starEach es X.env)).any (·.1) = false := by rfl) : PE X (.Call (.Name "Sum" p) (e :: es) [] pos) (tMake C sp [] E t) := by
  obtain ⟨f, fd, mk, F, hm, hb⟩ := M.ex
  exact pe_make mk F hr hg hm hb .nil hx ha (by decide) he hpl
structure CalX (P : Program) (w : World) (K : PySem.W.Frag) (mg : Str → Option Value) (base : Heap) (k : Nat) (x : Str) (ps : List Str) (sp : Sp) : Prop where
  ex : ∃ (f : Addr) (fd : FuncData), FnOk P w K mg base (L2.CX P w) k f fd ps sp ∧ mg x = some (.ref f) ∧ PySem.W.keepIn K (.ref f) = true ∧ Binds K fd ps []
theorem pe_calX {X : Cx} {x : Str} {ps : List Str} {sp : Sp} {k : Nat} {e : Expr} {es : List Expr} {p pos : Pos} {t : TA} {E : XK} (C : CalX X.prog X.w X.K X.mg X.base k x ps sp) (hr : Room k X.A) (hg : Gl X x) (hx : Passes (L2.CX X.prog X.w) X E) (ha : PA X (e :: es) t) (hdb : (x == ("__debug__" : Str)) = false := by decide) (he : starEach (e :: es) X.env = (false, eval e X.env) :: starEach es X.env := by rfl)
    (hpl : (backTo pos (starEach es X.env)).any (·.1) = false := by rfl) : PE X (.Call (.Name x p) (e :: es) [] pos) (tCall sp [] E t) := by
  obtain ⟨f, fd, F, hm, hk, hb⟩ := C.ex
  exact pe_call F hr hg hm hk hb .nil hx ha hdb he hpl
structure MetX (P : Program) (w : World) (K : PySem.W.Frag) (mg : Str → Option Value) (base : Heap) (k : Nat) (C : Addr) (m : Str) (ps : List Str) (sp : Sp) : Prop where
  ex : ∃ (f : Addr) (fd : FuncData), Cls K C ∧ Meth K C m f ∧ FnOk P w K mg base (L2.CX P w) k f fd ps sp ∧ Binds K fd ps []
theorem pe_mtX {X : Cx} {ps : List Str} {sp : Sp} {k : Nat} {C : Addr} {m : Str} {o e : Expr} {es : List Expr} {pos apos : Pos} {t : TA} {ta : TE} {E : XK} {pl : Sem Bool} (M : MetX X.prog X.w X.K X.mg X.base k C m ps sp) (hr : Room k X.A) (hx : Passes (L2.CX X.prog X.w) X E) (ho : PE X o ta) (ha : PA X (e :: es) t) (hst : starEach (e :: es) X.env = (false, eval e X.env) :: starEach es X.env := by rfl)
    (hpl : (backTo pos (starEach es X.env)).any (·.1) = false := by rfl)
    (ht : eval (.Call (.Attribute o m apos) (e :: es) [] pos) X.env = (do
      let ov ← eval o X.env
      standAt apos.atName
      let (f, first) ← holding [ov] (getMethod ov m pl)
      callWith pos f first (backTo pos (starEach (e :: es) X.env)) (backToKw pos (keywordEach [] X.env))) := by rfl) : PE X (.Call (.Attribute o m apos) (e :: es) [] pos) (tMeth C m sp [] E ta t) := by
  obtain ⟨f, fd, c, hm, F, hb⟩ := M.ex
  exact pe_meth (pl := pl) ho c hm F hr hb .nil hx ha hst hpl ht
/-- what of a callee may be let out is let out -/
theorem passE {X : Cx} {E : XK} {E₁ : Value → Shared → Prop} (hs : X.stack = X.env :: X.outer) (hf : X.env.frame = some X.env.locals) (hex : X.ex = []) (hx : X.xe = fun e s' => wpAny (model X.prog X.w) X.A (leaving X.env e) (fun _ s'' => L2.CX X.prog X.w X.outer X.H_0 X.s_0 E e s'') E₁ s') : Passes (L2.CX X.prog X.w) X E := passes_call (takes_of hs hf hex hx) fun _ _ _ _ h => h
def SumAt (C : Addr) (H : Hp) (a : Addr) (n : Nat) (r : List Tm) : Prop := ∃ (dx p : Addr) (us : List Addr), H a = some (.ins C dx [("width", .int n), ("products", .ref p)]) ∧ H p = some (.tup (us.map V.ref)) ∧ TermsAt H us r
theorem SumAt.same {C : Addr} {H H' : Hp} {a : Addr} {n : Nat} {r : List Tm} (s : Same H H') (h : SumAt C H a n r) : SumAt C H' a n r := by
  obtain ⟨dx, p, us, h1, h2, h3⟩ := h
  exact ⟨dx, p, us, s _ _ h1, s _ _ h2, h3.same s⟩
theorem any_rep (n : Nat) : (List.replicate n false).any id = false := by
  rw [List.any_eq_false]
  intro x hx
  rw [List.eq_of_mem_replicate hx]
  decide
theorem FunD.ok0 {P : Program} {w : World} {K : PySem.W.Frag} {mg : Str → Option Value} {base : Heap} {x qual : Str} {params : Arguments} {body : List Stmt} {scope : Scope} {dvs : List V} {kws : List (Str × V)} {f : Addr} {fd : FuncData} {N ps : List Str} {k : Nat} {sp : Sp} (F : FunD K x qual params body scope dvs kws f fd) (S : FnScope N ps scope)
    (len : ∀ vs H Q E, sp vs H Q E → vs.length = ps.length)
    (hbody : ∀ (cdv : Value) (A : Around) (outer : List Env) (s : Shared) (H : Hp) (vs : List V) (Q : VK) (E : XK), Room k (A.deeper (envOfC qual scope s.heap.objs.size f cdv)) → sp vs H Q E →
      ∃ t, PSs (cxOf CX0 P w K mg base N qual scope f cdv A outer s H E).nox body t ∧ t { nx := fun _ H' => Q .non H', rt := Q } (L2.start N vs) H) : FnOk P w K mg base CX0 (k + 1) f fd ps sp := by
  refine F.ok S len fun cdv A outer s H vs Q E hr hsp => ?_
  obtain ⟨t, h, q⟩ := hbody cdv A outer s H vs Q E hr hsp
  exact ⟨t, h.nox, q⟩
section
variable {P : Program} {w : World} {K : PySem.W.Frag} {mg : Str → Option Value} {base : Heap} {C CG fG CB : Addr}
abbrev s_init : Stmt := inClass (topS 24) 0
abbrev n_init : List Str := ["self", "width", "terms", "powers", "count", "products"]
theorem sc_init : FnScope n_init ["self", "width", "terms"] (defScope s_init) := ⟨rfl, rfl, rfl, by decide +kernel, rfl, by decide +kernel, by decide +kernel⟩
def spInit (K : PySem.W.Frag) (C CG : Addr) : Sp := fun vs H Q E => ∃ (x dx R : Addr) (ts : List Addr) (terms : List Tm) (n m : Nat) (bb : Bool), vs = [.ref x, .int n, .ref R] ∧ H x = some (.ins C dx []) ∧ SqS K bb H R (ts.map V.ref) ∧ TermsAt H ts terms ∧ terms.length ≤ 4000 ∧ Sized n m terms ∧
  (∀ (r : List Tm) (H' : Hp), SameBut x H H' → SumAt C H' x n r → Cn (Lf terms) r → Sized n (terms.length * m) r → r.length ≤ terms.length → r.length ≤ 400 → Q .non H') ∧ ∀ r : List Tm, Cn (Lf terms) r → 400 < r.length → Gr CG H E
theorem ok_init {f : Addr} {fd fdG : FuncData} {dvs : List V} {kws : List (Str × V)} (F : FunD K "__init__" "Sum.__init__" (defArgs s_init) (defBody s_init) (defScope s_init) dvs kws f fd) (T : Tx mg) (S : SumC K mg C) (TG : ErrC K mg "Great" CG fG CB) (FG : FnOk P w K mg base CX0 2 fG fdG ["self"] (spErrInit K "great")) (bG : Binds K fdG ["self"] []) (c_gathered : Cal P w K mg base CX0 1 "gathered" ["terms"] (spGath K)) : FnOk P w K mg base (L2.CX P w) 4 f fd ["self", "width", "terms"] (spInit K C CG) := by
  refine FunD.ok F sc_init (fun vs H Q E h => ?_) (fun cdv A outer s H vs Q E hr h => ?_)
  · obtain ⟨x, dx, R, ts, terms, n, m, bb, rfl, _⟩ := h
    rfl
  · obtain ⟨x, dx, R, ts, terms, n, m, bb, rfl, hx, hR, hT, hlen, hsz, q, qE⟩ := h
    refine ⟨_, (pss_cons (ps_if (pt_val (pe_callB (c_any (K := K) rfl) (by rfl) T.any (by decide +kernel) (pa_cons (pe_lc (own := [("powers", 3), ("count", 4)]) (by rfl) sc_init.nd (p_seq (K := K) (pv 2)) (blkOk_by (own := [("powers", 3), ("count", 4)]) (N := n_init) (sc := defScope s_init) (by decide +kernel)) (fun _ _ _ _ _ => (g_tup (K := K) (n := 2) rfl (pgs_cons (pg_name (i := 3) sc_init.nd rfl (.inl rfl)) (pgs_cons (pg_name (i := 4) sc_init.nd rfl (.inl rfl)) pgs_nil)))) (fun _ _ _ _ _ => pts_nil) (fun _ _ _ _ _ => (pe_cmpR op_ne (pe_callB (c_len (K := K)) (by rfl) T.len PySem.boot_len (pa_cons (pv 3) pa_nil)) (pv 1) (nomark _)))) pa_nil)))
    pss_never
    pss_nil)
  (pss_cons (ps_set (i := 5) sc_init.nd rfl (.inl rfl) (pe_cal c_gathered (hr.mono (by decide)) (by rfl) (pa_cons (pv 2) pa_nil)))
  (pss_cons (ps_if (pt_cmpR op_gt (pe_callB (c_len (K := K)) (by rfl) T.len PySem.boot_len (pa_cons (pv 5) pa_nil)) (pe_gint (by rfl) T.WIDE) (nomark _))
    (pss_one (ps_raise rfl (takes_of rfl rfl rfl rfl) (pmk_oex0 TG.oex TG.iC TG.tI FG hr bG pass0 (by rfl) TG.g)))
    pss_nil)
  (pss_cons (ps_fld (pv 0) (pv 1) rfl) (pss_one (ps_fld (pv 0) (pv 5) rfl)))))), ?_⟩
    refine ⟨.ref R, rfl, R, _, bb, rfl, hR, fun D eD => ?_⟩
    refine lc_it (walk_seq (K := K) (b := bb) (a := R) (xs := ts.map V.ref)) (fun j H' => H' D = some (.lst ((List.replicate j false).map V.bl)) ∧ Same H H') ⟨upd_same, same_upd eD⟩ (fun j H' _ ⟨_, s⟩ => hR.same s) ?_ ?_
    · rintro j v H1' H1 _ ⟨e1, s1⟩ ⟨rfl, hv⟩
      obtain ⟨t, et, rfl⟩ := ref_at hv
      obtain ⟨a, ea, b, hb1, hb2⟩ := (hT.same s1).at et
      have hi := (List.getElem?_eq_some_iff.mp ea).1
      have za := hsz a (List.mem_of_getElem? ea)
      refine ⟨t, _, rfl, SqT.of hb1, rfl, _, _, rfl, _, _, rfl, rfl, rfl, .ref b, rfl, b, _, rfl, .inr (SqT.of hb2), .int n, rfl, rfl, ?_⟩
      refine ⟨_, e1, by rw [List.length_map, List.length_replicate]; exact small4000 (by omega), ?_, Same.updN s1 eD⟩
      rw [upd_same, List.replicate_succ', List.map_append, List.length_map, za.1, decide_eq_true rfl]
      rfl
    · rintro H1 ⟨e1, s1⟩
      refine ⟨D, _, rfl, SqL.of e1, ?_⟩
      rw [any_rep]
      refine ⟨false, rfl, iteF ?_⟩
      refine ⟨.ref R, rfl, R, ts, terms, n, m, bb, rfl, hR.same s1, hT.same s1, by omega, hsz, fun p us r H2 s2 p0 e2 hT2 cn z2 hl2 => ?_⟩
      refine ⟨.ref p, rfl, p, _, rfl, .inr (SqT.of e2), _, _, rfl, rfl, _, rfl, ite2 (fun hz => ?_) (fun hw => ?_)⟩
      · have z3 := of_decide_eq_true hz
        rw [List.length_map, hT2.1] at z3
        exact raise_done TG fun d H' s hd => qE r cn (by omega) d H' ((s1.trans s2).trans s) hd
      · have hw : r.length ≤ 400 := by
          have z3 := of_decide_eq_false (Bool.not_eq_true _ ▸ hw)
          rw [List.length_map, hT2.1] at z3
          omega
        have hx2 := s2 _ _ (s1 _ _ hx)
        refine ⟨.int n, rfl, .ref x, rfl, x, C, dx, [], rfl, hx2, S.cls, S.nw, by decide, ?_⟩
        refine ⟨.ref p, rfl, .ref x, rfl, x, C, dx, [("width", .int n)], rfl, upd_same, S.cls, S.np, by show 1 < 1000; decide, ?_⟩
        have npx : p ≠ x := ne_of e2 hx2 (by intro z; cases z)
        refine q r _ ((SameBut.upd (SameBut.upd (s1.trans s2).but))) ⟨dx, p, us, ?_, ?_, ?_⟩ cn z2 hl2 hw
        · rw [upd_same]
          rfl
        · rw [upd_ne npx, upd_ne npx]
          exact e2
        · exact TermsAt.updX (TermsAt.updX hT2 hx2 (fun xs z => by cases z)) upd_same (fun xs z => by cases z)
end
end Bw
set_option Elab.async false
set_option linter.all false
set_option maxRecDepth 100000
set_option maxHeartbeats 4000000
namespace Bw
open PySem PySem.Spec PyProof.Rows L2
theorem Falls.nd {r : List Tm} (h : Falls r) : NdB r := by
  unfold NdB List.Nodup
  rw [List.pairwise_map]
  exact h.imp fun {a b} z => Ne.symm (lex_ne z)
/-! ### counting the products of a sum -/
def Psv (ts : List Tm) : Prop := ∀ a ∈ ts, 0 < a.2
theorem Psv.ge {ts : List Tm} (h : Psv ts) (p : List Int) : 0 ≤ Lf ts (ind p) := by
  induction ts with
  | nil => exact Int.le_refl _
  | cons a ts ih =>
    rw [Lf_cons]
    have h1 := ih fun b hb => h b (List.mem_cons_of_mem _ hb)
    have h2 := h a (List.mem_cons_self ..)
    unfold ind at h1 ⊢
    by_cases e : a.1 = p
    · rw [if_pos e]
      omega
    · rw [if_neg e]
      omega
theorem Psv.gt {ts : List Tm} (h : Psv ts) {p : List Int} (m : ∃ a ∈ ts, a.1 = p) : 0 < Lf ts (ind p) := by
  induction ts with
  | nil =>
    obtain ⟨a, ha, _⟩ := m
    cases ha
  | cons a ts ih =>
    have h' : Psv ts := fun b hb => h b (List.mem_cons_of_mem _ hb)
    have h2 := h a (List.mem_cons_self ..)
    have h1 := h'.ge p
    rw [Lf_cons]
    by_cases e : a.1 = p
    · have : ind p a.1 = 1 := by
        unfold ind
        rw [if_pos e]
      rw [this]
      omega
    · have : ind p a.1 = 0 := by
        unfold ind
        rw [if_neg e]
      rw [this]
      obtain ⟨b, hb, eb⟩ := m
      rcases List.mem_cons.mp hb with rfl | hb
      · exact absurd eb e
      · have := ih h' ⟨b, hb, eb⟩
        omega
def keysOf (r : List Tm) : List (List Int) := r.map (·.1)
theorem mem_keys {r : List Tm} {p : List Int} : p ∈ keysOf r ↔ ∃ a ∈ r, a.1 = p := List.mem_map
theorem Cn.key {ts r : List Tm} (h : Psv ts) (cn : Cn (Lf ts) r) (p : List Int) : p ∈ keysOf r ↔ p ∈ keysOf ts := by
  rw [mem_keys, mem_keys]
  constructor
  · rintro ⟨⟨q, c⟩, ha, rfl⟩
    obtain ⟨c0, e⟩ := (cn.mem q c).mp ha
    refine Classical.byContradiction fun z => c0 ?_
    rw [← e]
    exact Lf_ind_none fun b hb eb => z ⟨b, hb, eb⟩
  · intro m
    have g := h.gt m
    exact ⟨(p, Lf ts (ind p)), (cn.mem _ _).mpr ⟨by omega, rfl⟩, rfl⟩
theorem Cn.pos {ts r : List Tm} (h : Psv ts) (cn : Cn (Lf ts) r) : Psv r := by
  rintro ⟨p, c⟩ ha
  obtain ⟨c0, e⟩ := (cn.mem p c).mp ha
  have := h.ge p
  show 0 < c
  omega
theorem nodup_len : ∀ {ks l : List (List Int)}, ks.Nodup → (∀ p ∈ ks, p ∈ l) → ks.length ≤ l.length
  | [], _, _, _ => Nat.zero_le _
  | p :: ks, l, nd, h => by
    have nd' := List.nodup_cons.mp nd
    have hp := h p (List.mem_cons_self ..)
    have ih := nodup_len (l := l.erase p) nd'.2 fun q hq => (List.mem_erase_of_ne (fun e => nd'.1 (by rw [← e]; exact hq))).mpr (h q (List.mem_cons_of_mem _ hq))
    rw [List.length_erase_of_mem hp] at ih
    have : 0 < l.length := List.length_pos_of_mem hp
    rw [List.length_cons]
    omega
theorem Cn.len_ge {ts r : List Tm} (h : Psv ts) (cn : Cn (Lf ts) r) {ks : List (List Int)} (nd : ks.Nodup) (m : ∀ p ∈ ks, p ∈ keysOf ts) : ks.length ≤ r.length := by
  have := nodup_len nd fun p hp => (cn.key h p).mpr (m p hp)
  unfold keysOf at this
  rw [List.length_map] at this
  exact this
theorem Cn.len_eq {ts r : List Tm} (h : Psv ts) (cn : Cn (Lf ts) r) {ks : List (List Int)} (nd : ks.Nodup) (m : ∀ p, p ∈ ks ↔ p ∈ keysOf ts) : r.length = ks.length := by
  have p : (keysOf r).Perm ks := (List.perm_ext_iff_of_nodup cn.fall.nd nd).mpr fun q => by show q ∈ keysOf r ↔ q ∈ ks; rw [cn.key h, m]
  have := p.length_eq
  unfold keysOf at this
  rw [List.length_map] at this
  exact this
theorem mem_mulA {a : Tm} {y : List Tm} {c : Tm} : c ∈ mulA a y ↔ ∃ b ∈ y, c = (addP a.1 b.1, a.2 * b.2) := by
  unfold mulA
  rw [List.mem_map]
  exact ⟨fun ⟨b, h, e⟩ => ⟨b, h, e.symm⟩, fun ⟨b, h, e⟩ => ⟨b, h, e.symm⟩⟩
theorem mem_mulT {y : List Tm} {c : Tm} : ∀ {x : List Tm}, c ∈ mulT x y ↔ ∃ a ∈ x, ∃ b ∈ y, c = (addP a.1 b.1, a.2 * b.2)
  | [] => ⟨fun h => (by cases h), fun ⟨a, h, _⟩ => (by cases h)⟩
  | a :: x => by
    show c ∈ mulA a y ++ mulT x y ↔ _
    rw [List.mem_append, mem_mulA, mem_mulT]
    constructor
    · rintro (⟨b, hb, e⟩ | ⟨a', ha, b, hb, e⟩)
      · exact ⟨a, List.mem_cons_self .., b, hb, e⟩
      · exact ⟨a', List.mem_cons_of_mem _ ha, b, hb, e⟩
    · rintro ⟨a', ha, b, hb, e⟩
      rcases List.mem_cons.mp ha with rfl | ha
      · exact .inl ⟨b, hb, e⟩
      · exact .inr ⟨a', ha, b, hb, e⟩
theorem Psv.mulT {x y : List Tm} (hx : Psv x) (hy : Psv y) : Psv (mulT x y) := by
  intro c hc
  obtain ⟨a, ha, b, hb, rfl⟩ := mem_mulT.mp hc
  exact Int.mul_pos (hx a ha) (hy b hb)
theorem keys_mulT {x y : List Tm} {p : List Int} : p ∈ keysOf (mulT x y) ↔ ∃ s ∈ keysOf x, ∃ t ∈ keysOf y, addP s t = p := by
  rw [mem_keys]
  constructor
  · rintro ⟨c, hc, rfl⟩
    obtain ⟨a, ha, b, hb, rfl⟩ := mem_mulT.mp hc
    exact ⟨_, mem_keys.mpr ⟨a, ha, rfl⟩, _, mem_keys.mpr ⟨b, hb, rfl⟩, rfl⟩
  · rintro ⟨s, hs, t, ht, rfl⟩
    obtain ⟨a, ha, rfl⟩ := mem_keys.mp hs
    obtain ⟨b, hb, rfl⟩ := mem_keys.mp ht
    exact ⟨_, mem_mulT.mpr ⟨a, ha, b, hb, rfl⟩, rfl⟩
theorem lmul_T (x y : List Tm) : lmul (Lf x) (Lf y) = Lf (mulT x y) := funext fun φ => (Lf_mulT x y φ).symm
/-! ### one letter: powers d * 0 .. d * n -/
def iv (d : Int) (n : Nat) : List (List Int) := (List.range (n + 1)).map fun k : Nat => [d * k]
theorem iv_len (d : Int) (n : Nat) : (iv d n).length = n + 1 := by
  unfold iv
  rw [List.length_map, List.length_range]
theorem iv_nd {d : Int} (h : 0 < d) (n : Nat) : (iv d n).Nodup := by
  unfold iv List.Nodup
  rw [List.pairwise_map]
  refine List.nodup_range.imp fun {a b} z e => z ?_
  have e1 : d * (a : Int) = d * b := (List.cons.inj e).1
  have := Int.eq_of_mul_eq_mul_left (by omega) e1
  omega
theorem mem_iv {d : Int} {n : Nat} {p : List Int} : p ∈ iv d n ↔ ∃ k : Nat, k ≤ n ∧ p = [d * k] := by
  unfold iv
  rw [List.mem_map]
  constructor
  · rintro ⟨k, hk, rfl⟩
    exact ⟨k, Nat.le_of_lt_succ (List.mem_range.mp hk), rfl⟩
  · rintro ⟨k, hk, rfl⟩
    exact ⟨k, List.mem_range.mpr (by omega), rfl⟩
/-- a sum whose products are those of ks, with counts above 0 -/
structure On (ks : List (List Int)) (r : List Tm) : Prop where
  pos : Psv r
  key : ∀ p, p ∈ keysOf r ↔ p ∈ ks
theorem On.mul {d : Int} (hd : 0 < d) {n m : Nat} {x y r : List Tm} (hx : On (iv d n) x) (hy : On (iv d m) y) (cn : Cn (lmul (Lf x) (Lf y)) r) : On (iv d (n + m)) r ∧ r.length = n + m + 1 := by
  rw [lmul_T] at cn
  have hp := hx.pos.mulT hy.pos
  have km : ∀ p, p ∈ iv d (n + m) ↔ p ∈ keysOf (mulT x y) := by
    intro p
    rw [keys_mulT, mem_iv]
    constructor
    · rintro ⟨k, hk, rfl⟩
      refine ⟨[d * ((min k n : Nat) : Int)], (hx.key _).mpr (mem_iv.mpr ⟨_, Nat.min_le_right .., rfl⟩), [d * ((k - min k n : Nat) : Int)], (hy.key _).mpr (mem_iv.mpr ⟨_, by omega, rfl⟩), ?_⟩
      show [d * ((min k n : Nat) : Int) + d * ((k - min k n : Nat) : Int)] = _
      rw [← Int.mul_add]
      congr 2
      omega
    · rintro ⟨s, hs, t, ht, rfl⟩
      obtain ⟨a, ha, rfl⟩ := mem_iv.mp ((hx.key _).mp hs)
      obtain ⟨b, hb, rfl⟩ := mem_iv.mp ((hy.key _).mp ht)
      refine ⟨a + b, by omega, ?_⟩
      show [d * (a : Int) + d * (b : Int)] = _
      rw [← Int.mul_add]
      rfl
  refine ⟨⟨cn.pos hp, fun p => by rw [cn.key hp, km]⟩, ?_⟩
  rw [cn.len_eq hp (iv_nd hd _) km, iv_len]
theorem On.of {ts r : List Tm} (h : Psv ts) (cn : Cn (Lf ts) r) {ks : List (List Int)} (k : ∀ p, p ∈ keysOf ts ↔ p ∈ ks) : On ks r := ⟨cn.pos h, fun p => by rw [cn.key h, k]⟩
/-! ### sums in two letters -/
def fullT (far : Int) (n : Nat) : List Tm := (List.range n).map fun k : Nat => ([far + k, (k : Int)], 1 + (k : Int) % 5)
theorem lex2 {a b c d : Int} (h : a < c) : HT.lexLt [a, b] [c, d] = true := by
  rw [HT.lexLt_cons, if_neg (by omega)]
  exact decide_eq_true h
theorem lex2e {a b d : Int} (h : b < d) : HT.lexLt [a, b] [a, d] = true := by
  rw [HT.lexLt_cons, if_pos rfl, HT.lexLt_cons, if_neg (by omega)]
  exact decide_eq_true h
theorem fall_rev {ts : List Tm} (h : ts.Pairwise fun a b => HT.lexLt a.1 b.1 = true) : Falls ts.reverse := by
  unfold Falls
  rw [List.pairwise_reverse]
  exact h
theorem full_rise (far : Int) (n : Nat) : (fullT far n).Pairwise fun a b => HT.lexLt a.1 b.1 = true := by
  unfold fullT
  rw [List.pairwise_map]
  refine (List.pairwise_lt_range (n := n)).imp fun {a b} z => ?_
  exact lex2 (by omega)
theorem full_nz {far : Int} {n : Nat} : ∀ a ∈ fullT far n, a.2 ≠ 0 := by
  intro a ha
  obtain ⟨k, _, rfl⟩ := List.mem_map.mp ha
  show 1 + (k : Int) % 5 ≠ 0
  omega
theorem full_key {far : Int} {n : Nat} {a : Tm} (h : a ∈ fullT far n) : ∃ k : Nat, k < n ∧ a = ([far + k, (k : Int)], 1 + (k : Int) % 5) := by
  obtain ⟨k, hk, rfl⟩ := List.mem_map.mp h
  exact ⟨k, List.mem_range.mp hk, rfl⟩
theorem full_len (far : Int) (n : Nat) : (fullT far n).length = n := by
  unfold fullT
  rw [List.length_map, List.length_range]
theorem full_succ (far : Int) (n : Nat) : fullT far (n + 1) = fullT far n ++ [([far + n, (n : Int)], 1 + (n : Int) % 5)] := by
  unfold fullT
  rw [List.range_succ, List.map_append]
  rfl
theorem row_succ (n : Nat) : (List.range (n + 1)).map (fun k : Nat => (([(k : Int), 0], 1) : Tm)) = (List.range n).map (fun k : Nat => (([(k : Int), 0], 1) : Tm)) ++ [([(n : Int), 0], 1)] := by
  rw [List.range_succ, List.map_append]
  rfl
theorem col_succ (n : Nat) : (List.range (n + 1)).map (fun k : Nat => (([0, (k : Int)], 1) : Tm)) = (List.range n).map (fun k : Nat => (([0, (k : Int)], 1) : Tm)) ++ [([0, (n : Int)], 1)] := by
  rw [List.range_succ, List.map_append]
  rfl
theorem full_cn {far : Int} {n : Nat} {ts : List Tm} (p : ts.Perm (fullT far n)) : Cn (Lf ts) (fullT far n).reverse :=
  ⟨fall_rev (full_rise far n), fun a ha => full_nz a (List.mem_reverse.mp ha), fun φ => Lf_perm ((List.reverse_perm _).trans p.symm) φ⟩
/-- one more below -/
theorem below_cn {far d c : Int} {n : Nat} {ℓ : (List Int → Int) → Int} (hc : c ≠ 0) (e : ∀ φ, ℓ φ = Lf (fullT far n).reverse φ + c * φ [far - 1, d]) : Cn ℓ ((fullT far n).reverse ++ [([far - 1, d], c)]) := by
  refine ⟨?_, fun a ha => ?_, fun φ => ?_⟩
  · unfold Falls
    rw [List.pairwise_append]
    refine ⟨fall_rev (full_rise far n), List.pairwise_singleton _ _, fun a ha b hb => ?_⟩
    rw [List.mem_singleton.mp hb]
    obtain ⟨k, _, rfl⟩ := full_key (List.mem_reverse.mp ha)
    exact lex2 (by omega)
  · rcases List.mem_append.mp ha with ha | ha
    · exact full_nz a (List.mem_reverse.mp ha)
    · rw [List.mem_singleton.mp ha]
      exact hc
  · rw [Lf_append, Lf_cons, Lf_nil, e]
    show _ + (c * φ [far - 1, d] + 0) = _
    omega
/-- one more above -/
theorem above_cn {far p q c : Int} {n : Nat} {ts : List Tm} (hc : c ≠ 0) (hf : far + n ≤ p) (e : ts = fullT far n ++ [([p, q], c)]) : Cn (Lf ts) (([p, q], c) :: (fullT far n).reverse) := by
  subst e
  refine ⟨?_, fun a ha => ?_, fun φ => ?_⟩
  · unfold Falls
    rw [List.pairwise_cons]
    refine ⟨fun a ha => ?_, fall_rev (full_rise far n)⟩
    obtain ⟨k, hk, rfl⟩ := full_key (List.mem_reverse.mp ha)
    exact lex2 (by omega)
  · rcases List.mem_cons.mp ha with rfl | ha
    · exact hc
    · exact full_nz a (List.mem_reverse.mp ha)
  · rw [Lf_append, Lf_cons, Lf_cons, Lf_nil, Lf_perm (List.reverse_perm _)]
    omega
theorem full_cons (far : Int) (n : Nat) : ∃ l, fullT far (n + 1) = ([far, 0], 1) :: l ∧ l.length = n := by
  unfold fullT
  rw [List.range_succ_eq_map, List.map_cons]
  refine ⟨((List.range n).map Nat.succ).map fun k : Nat => ([far + k, (k : Int)], 1 + (k : Int) % 5), ?_, by rw [List.length_map, List.length_map, List.length_range]⟩
  congr 1
  show ([far + ((0 : Nat) : Int), ((0 : Nat) : Int)], 1 + ((0 : Nat) : Int) % 5) = _
  congr 2
  show far + 0 = far
  omega
/-- the first one taken away -/
theorem less_len {far : Int} {n : Nat} {r : List Tm} {ℓ : (List Int → Int) → Int} (cn : Cn ℓ r) (e : ∀ φ, ℓ φ = Lf (fullT far (n + 1)).reverse φ + -1 * φ [far, 0]) : r.length = n := by
  obtain ⟨l, hl, ll⟩ := full_cons far n
  have c2 : Cn ℓ l.reverse := by
    have hr := full_rise far (n + 1)
    rw [hl] at hr
    refine ⟨fall_rev (List.pairwise_cons.mp hr).2, fun a ha => ?_, fun φ => ?_⟩
    · refine full_nz (far := far) (n := n + 1) a ?_
      rw [hl]
      exact List.mem_cons_of_mem _ (List.mem_reverse.mp ha)
    · rw [e, hl, Lf_perm (List.reverse_perm _), Lf_perm (List.reverse_perm _), Lf_cons]
      show _ = 1 * φ [far, 0] + Lf l φ + -1 * φ [far, 0]
      omega
  rw [cn.uniq c2, List.length_reverse, ll]
def rowT (n : Nat) : List Tm := (List.range n).map fun k : Nat => ([(k : Int), 0], 1)
def colT (n : Nat) : List Tm := (List.range n).map fun k : Nat => ([0, (k : Int)], 1)
theorem row_cn (n : Nat) : Cn (Lf (rowT n)) (rowT n).reverse := by
  refine ⟨fall_rev ?_, fun a ha => ?_, fun φ => Lf_perm (List.reverse_perm _) φ⟩
  · unfold rowT
    rw [List.pairwise_map]
    exact (List.pairwise_lt_range (n := n)).imp fun {a b} z => lex2 (by omega)
  · obtain ⟨k, _, rfl⟩ := List.mem_map.mp (List.mem_reverse.mp ha)
    exact (by decide : (1 : Int) ≠ 0)
theorem col_cn (n : Nat) : Cn (Lf (colT n)) (colT n).reverse := by
  refine ⟨fall_rev ?_, fun a ha => ?_, fun φ => Lf_perm (List.reverse_perm _) φ⟩
  · unfold colT
    rw [List.pairwise_map]
    exact (List.pairwise_lt_range (n := n)).imp fun {a b} z => lex2e (by omega)
  · obtain ⟨k, _, rfl⟩ := List.mem_map.mp (List.mem_reverse.mp ha)
    exact (by decide : (1 : Int) ≠ 0)
theorem row_len (n : Nat) : (rowT n).length = n := by
  unfold rowT
  rw [List.length_map, List.length_range]
theorem col_len (n : Nat) : (colT n).length = n := by
  unfold colT
  rw [List.length_map, List.length_range]
theorem row_pos (n : Nat) : Psv (rowT n) := by
  intro a ha
  obtain ⟨k, _, rfl⟩ := List.mem_map.mp ha
  exact (by decide : (0 : Int) < 1)
theorem col_pos (n : Nat) : Psv (colT n) := by
  intro a ha
  obtain ⟨k, _, rfl⟩ := List.mem_map.mp ha
  exact (by decide : (0 : Int) < 1)
theorem row_key {n : Nat} {p : List Int} : p ∈ keysOf (rowT n) ↔ ∃ k : Nat, k < n ∧ p = [(k : Int), 0] := by
  rw [mem_keys]
  constructor
  · rintro ⟨a, ha, rfl⟩
    obtain ⟨k, hk, rfl⟩ := List.mem_map.mp ha
    exact ⟨k, List.mem_range.mp hk, rfl⟩
  · rintro ⟨k, hk, rfl⟩
    exact ⟨_, List.mem_map.mpr ⟨k, List.mem_range.mpr hk, rfl⟩, rfl⟩
theorem col_key {n : Nat} {p : List Int} : p ∈ keysOf (colT n) ↔ ∃ k : Nat, k < n ∧ p = [0, (k : Int)] := by
  rw [mem_keys]
  constructor
  · rintro ⟨a, ha, rfl⟩
    obtain ⟨k, hk, rfl⟩ := List.mem_map.mp ha
    exact ⟨k, List.mem_range.mp hk, rfl⟩
  · rintro ⟨k, hk, rfl⟩
    exact ⟨_, List.mem_map.mpr ⟨k, List.mem_range.mpr hk, rfl⟩, rfl⟩
/-- all powers a below h, b below w -/
def grid (w : Nat) : Nat → List (List Int)
  | 0 => []
  | h + 1 => (List.range w).map (fun b : Nat => [(h : Int), (b : Int)]) ++ grid w h
theorem grid_len (w : Nat) : ∀ h, (grid w h).length = h * w
  | 0 => by rw [Nat.zero_mul]; rfl
  | h + 1 => by
    show (_ ++ grid w h).length = _
    rw [List.length_append, grid_len, List.length_map, List.length_range, Nat.succ_mul, Nat.add_comm]
theorem mem_grid {w : Nat} {p : List Int} : ∀ {h : Nat}, p ∈ grid w h ↔ ∃ a b : Nat, a < h ∧ b < w ∧ p = [(a : Int), (b : Int)]
  | 0 => ⟨fun h => (by cases h), fun ⟨a, b, h, _⟩ => absurd h (Nat.not_lt_zero _)⟩
  | h + 1 => by
    show p ∈ _ ++ grid w h ↔ _
    rw [List.mem_append, mem_grid, List.mem_map]
    constructor
    · rintro (⟨b, hb, rfl⟩ | ⟨a, b, ha, hb, rfl⟩)
      · exact ⟨h, b, Nat.lt_succ_self _, List.mem_range.mp hb, rfl⟩
      · exact ⟨a, b, by omega, hb, rfl⟩
    · rintro ⟨a, b, ha, hb, rfl⟩
      by_cases e : a = h
      · subst e
        exact .inl ⟨b, List.mem_range.mpr hb, rfl⟩
      · exact .inr ⟨a, b, by omega, hb, rfl⟩
theorem grid_nd (w : Nat) : ∀ h, (grid w h).Nodup
  | 0 => List.nodup_nil
  | h + 1 => by
    show (_ ++ grid w h).Nodup
    rw [List.nodup_append]
    refine ⟨?_, grid_nd w h, ?_⟩
    · unfold List.Nodup
      rw [List.pairwise_map]
      refine List.nodup_range.imp fun {a b} z e => z ?_
      have := (List.cons.inj (List.cons.inj e).2).1
      omega
    · intro p hp q hq e
      obtain ⟨b, _, rfl⟩ := List.mem_map.mp hp
      obtain ⟨a, b', ha, _, rfl⟩ := mem_grid.mp hq
      have := (List.cons.inj e).1
      omega
theorem grid_key {h w : Nat} {x y : List Tm} (hx : ∀ p, p ∈ keysOf x ↔ ∃ k : Nat, k < h ∧ p = [(k : Int), 0]) (hy : ∀ p, p ∈ keysOf y ↔ ∃ k : Nat, k < w ∧ p = [0, (k : Int)]) (p : List Int) : p ∈ grid w h ↔ p ∈ keysOf (mulT x y) := by
  rw [mem_grid, keys_mulT]
  constructor
  · rintro ⟨a, b, ha, hb, rfl⟩
    refine ⟨_, (hx _).mpr ⟨a, ha, rfl⟩, _, (hy _).mpr ⟨b, hb, rfl⟩, ?_⟩
    show [(a : Int) + 0, 0 + (b : Int)] = _
    rw [Int.add_zero, Int.zero_add]
  · rintro ⟨s, hs, t, ht, rfl⟩
    obtain ⟨a, ha, rfl⟩ := (hx _).mp hs
    obtain ⟨b, hb, rfl⟩ := (hy _).mp ht
    refine ⟨a, b, ha, hb, ?_⟩
    show [(a : Int) + 0, 0 + (b : Int)] = _
    rw [Int.add_zero, Int.zero_add]
theorem keys_rev (ts : List Tm) (p : List Int) : p ∈ keysOf ts.reverse ↔ p ∈ keysOf ts := by
  unfold keysOf
  rw [List.map_reverse, List.mem_reverse]
theorem Psv.rev {ts : List Tm} (h : Psv ts) : Psv ts.reverse := fun a ha => h a (List.mem_reverse.mp ha)
theorem grid_len_eq {h w : Nat} {r : List Tm} (cn : Cn (lmul (Lf (rowT h).reverse) (Lf (colT w).reverse)) r) : r.length = h * w := by
  rw [lmul_T] at cn
  rw [cn.len_eq ((row_pos h).rev.mulT (col_pos w).rev) (grid_nd w h) (grid_key (fun p => by rw [keys_rev, row_key]) (fun p => by rw [keys_rev, col_key])), grid_len]
/-- both rows together, twice -/
theorem square_len {h w : Nat} (h2 : 2 ≤ h) {x r : List Tm} (cx : Cn (fun φ => Lf (rowT h).reverse φ + 1 * Lf (colT w).reverse φ) x) (cn : Cn (lmul (Lf x) (Lf x)) r) : h * w < r.length := by
  have pT : Psv ((rowT h).reverse ++ (colT w).reverse) := fun a ha => (List.mem_append.mp ha).elim ((row_pos h).rev a) ((col_pos w).rev a)
  have cx' : Cn (Lf ((rowT h).reverse ++ (colT w).reverse)) x := ⟨cx.fall, cx.nz, fun φ => by rw [cx.lf, Lf_append]; omega⟩
  have px := cx'.pos pT
  have kx : ∀ p, p ∈ keysOf x ↔ p ∈ keysOf (rowT h) ∨ p ∈ keysOf (colT w) := fun p => by
    rw [cx'.key pT]
    unfold keysOf
    rw [List.map_append, List.mem_append, List.map_reverse, List.map_reverse, List.mem_reverse, List.mem_reverse]
  rw [lmul_T] at cn
  have nd : ([((2 * (h - 1) : Nat) : Int), 0] :: grid w h).Nodup := by
    refine List.nodup_cons.mpr ⟨fun m => ?_, grid_nd w h⟩
    obtain ⟨a, b, ha, _, e⟩ := mem_grid.mp m
    have := (List.cons.inj e).1
    omega
  have := cn.len_ge (px.mulT px) nd fun p hp => by
    rw [keys_mulT]
    rcases List.mem_cons.mp hp with rfl | hp
    · refine ⟨[((h - 1 : Nat) : Int), 0], (kx _).mpr (.inl (row_key.mpr ⟨_, by omega, rfl⟩)), [((h - 1 : Nat) : Int), 0], (kx _).mpr (.inl (row_key.mpr ⟨_, by omega, rfl⟩)), ?_⟩
      show [((h - 1 : Nat) : Int) + ((h - 1 : Nat) : Int), 0 + 0] = _
      congr 1
      omega
    · obtain ⟨a, b, ha, hb, rfl⟩ := mem_grid.mp hp
      refine ⟨_, (kx _).mpr (.inl (row_key.mpr ⟨a, ha, rfl⟩)), _, (kx _).mpr (.inr (col_key.mpr ⟨b, hb, rfl⟩)), ?_⟩
      show [(a : Int) + 0, 0 + (b : Int)] = _
      rw [Int.add_zero, Int.zero_add]
  rw [List.length_cons, grid_len] at this
  exact this
theorem addP_zero : ∀ {q : List Int}, addP (List.replicate q.length 0) q = q
  | [] => rfl
  | a :: q => by
    show (0 + a) :: addP (List.replicate q.length 0) q = _
    rw [addP_zero, Int.zero_add]
theorem one_mul_cn {n M : Nat} {x y r : List Tm} (zx : Sized n M x) (cx : Falls x ∧ ∀ a ∈ x, a.2 ≠ 0) (c1 : Cn (Lf [(List.replicate n 0, 1)]) y) (cn : Cn (lmul (Lf y) (Lf x)) r) : r = x := by
  have e : Lf y = Lf [(List.replicate n 0, 1)] := funext c1.lf
  rw [e] at cn
  refine cn.uniq ⟨cx.1, cx.2, fun φ => ?_⟩
  show _ = Lf [(List.replicate n 0, 1)] (fun p => Lf x fun q => φ (addP p q))
  rw [Lf_cons, Lf_nil]
  show _ = 1 * (Lf x fun q => φ (addP (List.replicate n 0) q)) + 0
  have : (Lf x fun q => φ (addP (List.replicate n 0) q)) = Lf x φ := by
    unfold Lf
    congr 1
    refine List.map_congr_left fun a ha => ?_
    have := (zx a ha).1
    subst this
    show a.2 * φ (addP (List.replicate a.1.length 0) a.1) = a.2 * φ a.1
    rw [addP_zero]
  rw [this]
  omega
end Bw
set_option Elab.async false
set_option linter.all false
set_option maxRecDepth 100000
set_option maxHeartbeats 4000000
namespace Bw
open PySem PySem.Spec PyProof.Rows L2
section
variable {P : Program} {w : World} {K : PySem.W.Frag} {mg : Str → Option Value} {base : Heap} {C : Addr}
/-! ### the small methods -/
abbrev s_terms : Stmt := inClass (topS 24) 1
theorem sc_terms : FnScope ["self"] ["self"] (defScope s_terms) := ⟨rfl, rfl, rfl, by decide +kernel, rfl, by decide +kernel, by decide +kernel⟩
def spTermsM (C : Addr) : Sp := fun vs H Q _ => ∃ (a : Addr) (n : Nat) (r : List Tm), vs = [.ref a] ∧ SumAt C H a n r ∧ ∀ (L : Addr) (us : List Addr) (H' : Hp), Same H H' → H L = none → H' L = some (.lst (us.map V.ref)) → TermsAt H' us r → Q (.ref L) H'
theorem ok_termsM {f : Addr} {fd : FuncData} (F : Fun K "terms" "Sum.terms" s_terms f fd) (T : Tx mg) (S : SumC K mg C) : FnOk P w K mg base CX0 1 f fd ["self"] (spTermsM C) := by
  refine F.ok sc_terms (fun vs H Q E h => ?_) (fun cdv A outer s H vs Q E hr h => ?_)
  · obtain ⟨a, n, r, rfl, _⟩ := h
    rfl
  · obtain ⟨a, n, r, rfl, ⟨dx, p, us, h1, h2, h3⟩, q⟩ := h
    refine ⟨_, (pss_one (ps_ret (pe_callTy (c_lst (K := K)) (by rfl) T.list (by decide +kernel) (pa_cons (pf (K := K) (pv 0)) pa_nil)))), ?_⟩
    refine ⟨.ref a, rfl, a, C, dx, _, .ref p, rfl, h1, S.cls, S.np, rfl, p, _, rfl, .inr (SqT.of h2), fun L eL => ?_⟩
    have sL := same_upd (o := .lst (us.map V.ref)) eL
    exact q L us _ sL eL upd_same (h3.same sL)
abbrev s_len : Stmt := inClass (topS 24) 13
theorem sc_len : FnScope ["self"] ["self"] (defScope s_len) := ⟨rfl, rfl, rfl, by decide +kernel, rfl, by decide +kernel, by decide +kernel⟩
def spLenM (C : Addr) : Sp := fun vs H Q _ => ∃ (a : Addr) (n : Nat) (r : List Tm), vs = [.ref a] ∧ SumAt C H a n r ∧ Q (.int r.length) H
theorem ok_lenM {f : Addr} {fd : FuncData} (F : Fun K "__len__" "Sum.__len__" s_len f fd) (T : Tx mg) (S : SumC K mg C) : FnOk P w K mg base CX0 1 f fd ["self"] (spLenM C) := by
  refine F.ok sc_len (fun vs H Q E h => ?_) (fun cdv A outer s H vs Q E hr h => ?_)
  · obtain ⟨a, n, r, rfl, _⟩ := h
    rfl
  · obtain ⟨a, n, r, rfl, ⟨dx, p, us, h1, h2, h3⟩, q⟩ := h
    refine ⟨_, (pss_one (ps_ret (pe_callB (c_len (K := K)) (by rfl) T.len PySem.boot_len (pa_cons (pf (K := K) (pv 0)) pa_nil)))), ?_⟩
    refine ⟨.ref a, rfl, a, C, dx, _, .ref p, rfl, h1, S.cls, S.np, rfl, p, _, rfl, .inr (SqT.of h2), ?_⟩
    rw [List.length_map, h3.1]
    exact q
theorem zeros_flat (n : Nat) : (List.replicate n [V.int 0]).flatten = (List.replicate n (0 : Int)).map V.int := by
  induction n with
  | zero => rfl
  | succ n ih =>
    rw [List.replicate_succ, List.replicate_succ, List.flatten_cons, ih, List.map_cons]
    rfl
theorem rep_zeros {K : PySem.W.Frag} {H : Hp} {l : Addr} {n : Nat} {Q : VK} (hl : H l = some (.tup [.int 0])) (n8 : n ≤ 8) (q : ∀ (p : Addr) (H' : Hp), Same H H' → H' p = some (.tup ((List.replicate n (0 : Int)).map V.int)) → Q (.ref p) H') : rRepZ K (.ref l) (.int n) H Q := by
  refine ⟨l, n, _, rfl, rfl, SqT.of hl, by simp, by omega, by omega, by decide, fun e p ep => ?_, fun e => ?_, fun e p ep => ?_⟩
  · have : n = 0 := by omega
    subst this
    exact q p _ (same_upd ep) upd_same
  · have : n = 1 := by omega
    subst this
    exact q l _ (.refl _) hl
  · refine q p _ (same_upd ep) ?_
    rw [upd_same, Int.toNat_natCast, zeros_flat]
end
theorem cat_refs {K : PySem.W.Frag} {H : Hp} {Q : VK} {a b : Addr} {x y : List Addr} (hx : H a = some (.tup (x.map V.ref))) (hy : H b = some (.tup (y.map V.ref))) (lx : x.length ≤ 500) (ly : y.length ≤ 500) (q : ∀ (p : Addr) (H' : Hp), Same H H' → H' p = some (.tup ((x ++ y).map V.ref)) → Q (.ref p) H') : rCatA K (.ref a) (.ref b) H Q := by
  refine ⟨a, b, _, _, rfl, rfl, SqT.of hx, SqT.of hy, ?_, fun e => ?_, fun _ e => ?_, fun _ _ p hp => ?_⟩
  · rw [List.length_map, List.length_map]
    exact Nat.le_of_lt (small1000 (by omega))
  · have : x = [] := List.map_eq_nil_iff.mp e
    subst this
    exact q b H (.refl _) hy
  · have : y = [] := List.map_eq_nil_iff.mp e
    subst this
    refine q a H (.refl _) ?_
    rw [List.append_nil]
    exact hx
  · refine q p _ (same_upd hp) ?_
    rw [upd_same, List.map_append]
theorem TermsAt.append {H : Hp} {ts us : List Addr} {x y : List Tm} (h : TermsAt H ts x) (k : TermsAt H us y) : TermsAt H (ts ++ us) (x ++ y) := by
  refine ⟨by rw [List.length_append, List.length_append, h.1, k.1], fun i a e => ?_⟩
  rw [List.getElem?_append] at e
  split at e
  · next hi =>
    obtain ⟨t, e1, e2⟩ := h.2 i a e
    exact ⟨t, by rw [List.getElem?_append, if_pos (by rw [h.1]; exact hi)]; exact e1, e2⟩
  · next hi =>
    obtain ⟨t, e1, e2⟩ := k.2 _ a e
    exact ⟨t, by rw [List.getElem?_append, if_neg (by rw [h.1]; exact hi), h.1]; exact e1, e2⟩
theorem SumAt.dp {C : Addr} {K : PySem.W.Frag} {H : Hp} : ∀ {us : List Addr} {r : List Tm}, TermsAt H us r → DpAll K H (us.map V.ref) (r.map tmD)
  | [], [], _ => .nil
  | [], _ :: _, h => absurd h.1 (by simp)
  | _ :: _, [], h => absurd h.1 (by simp)
  | t :: us, a :: r, h => by
    obtain ⟨⟨q, h1, h2⟩, ht⟩ := h.tail
    exact .cons (.tup (SqT.of h1) (.cons (.tup (SqT.of h2) (dp_ints a.1)) (.cons (.int a.2) .nil))) (SumAt.dp (C := C) ht)
theorem Sized.append {n M : Nat} {x y : List Tm} (h : Sized n M x) (k : Sized n M y) : Sized n M (x ++ y) := fun a ha => (List.mem_append.mp ha).elim (h a) (k a)
section
variable {P : Program} {w : World} {K : PySem.W.Frag} {mg : Str → Option Value} {base : Heap} {C CG : Addr}
abbrev s_check_width : Stmt := topS 25
theorem sc_check_width : FnScope ["width", "other"] ["width", "other"] (defScope s_check_width) := ⟨rfl, rfl, rfl, by decide +kernel, rfl, by decide +kernel, by decide +kernel⟩
def spCheck : Sp := fun vs H Q _ => ∃ n : Int, vs = [.int n, .int n] ∧ Q .non H
theorem ok_check {f : Addr} {fd : FuncData} (F : Fun K "check_width" "check_width" s_check_width f fd) : FnOk P w K mg base CX0 1 f fd ["width", "other"] spCheck := by
  refine F.ok sc_check_width (fun vs H Q E h => ?_) (fun cdv A outer s H vs Q E hr h => ?_)
  · obtain ⟨n, rfl, _⟩ := h
    rfl
  · obtain ⟨n, rfl, q⟩ := h
    refine ⟨_, (pss_one (ps_if (pt_cmpR op_ne (pv 0) (pv 1) (nomark _)) pss_never pss_nil)), ?_⟩
    exact ⟨.int n, rfl, .int n, rfl, rfl, _, rfl, iteNS rfl q⟩
def spPlus (sg : Int) (C CG : Addr) : Sp := fun vs H Q E => ∃ (a b : Addr) (n M : Nat) (x y : List Tm), vs = [.ref a, .ref b] ∧ SumAt C H a n x ∧ SumAt C H b n y ∧ Sized n M x ∧ Sized n M y ∧ x.length ≤ 400 ∧ y.length ≤ 400 ∧
  (∀ (c : Addr) (r : List Tm) (H' : Hp), Same H H' → SumAt C H' c n r → Cn (fun φ => Lf x φ + sg * Lf y φ) r → Sized n ((x.length + y.length) * M) r → r.length ≤ 400 → Q (.ref c) H') ∧ ∀ r : List Tm, Cn (fun φ => Lf x φ + sg * Lf y φ) r → 400 < r.length → Gr CG H E
abbrev s_plus : Stmt := inClass (topS 24) 2
theorem sc_plus : FnScope ["self", "other"] ["self", "other"] (defScope s_plus) := ⟨rfl, rfl, rfl, by decide +kernel, rfl, by decide +kernel, by decide +kernel⟩
theorem ok_plus {f : Addr} {fd : FuncData} (F : Fun K "plus" "Sum.plus" s_plus f fd) (T : Tx mg) (S : SumC K mg C) (c_check : Cal P w K mg base CX0 1 "check_width" ["width", "other"] spCheck) (M : MakX P w K mg base 4 C ["self", "width", "terms"] (spInit K C CG)) : FnOk P w K mg base (L2.CX P w) 6 f fd ["self", "other"] (spPlus 1 C CG) := by
  refine F.okX sc_plus (fun vs H Q E h => ?_) (fun cdv A outer s H vs Q E hr h => ?_)
  · obtain ⟨a, b, n, m, x, y, rfl, _⟩ := h
    rfl
  · refine ⟨_, (pss_cons (ps_expr (pe_cal c_check (hr.mono (by decide)) (by rfl) (pa_cons (pf (K := K) (pv 0)) (pa_cons (pf (K := K) (pv 1)) pa_nil))))
      (pss_one (ps_ret (pe_mkX M hr (by rfl) (passE rfl rfl rfl rfl) (pa_cons (pf (K := K) (pv 0)) (pa_cons (pe_op (o_cat (K := K)) (pf (K := K) (pv 0)) (pf (K := K) (pv 1))) pa_nil)))))), ?_⟩
    obtain ⟨a, b, n, m, x, y, rfl, ⟨dx, p, us, h1, h2, h3⟩, ⟨dy, p', us', g1, g2, g3⟩, zx, zy, hlx, hly, q, qE⟩ := h
    · refine ⟨.ref a, rfl, a, C, dx, _, .int n, rfl, h1, S.cls, S.nw, rfl, .ref b, rfl, b, C, dy, _, .int n, rfl, g1, S.cls, S.nw, rfl, n, rfl, ?_⟩
      have l1 := h3.1
      have l2 := g3.1
      refine ⟨.ref a, rfl, a, C, dx, _, .int n, rfl, h1, S.cls, S.nw, rfl, .ref a, rfl, a, C, dx, _, .ref p, rfl, h1, S.cls, S.np, rfl, .ref b, rfl, b, C, dy, _, .ref p', rfl, g1, S.cls, S.np, rfl, ?_⟩
      refine cat_refs h2 g2 (by omega) (by omega) fun L H1 s1 eL => ?_
      intro c dc c0 dc0 ncd
      have s2 := made_same (C := C) c0 dc0 ncd
      have hT := (h3.append g3).same s1
      have ce : ∀ {r : List Tm}, Cn (Lf (x ++ y)) r → Cn (fun φ => Lf x φ + 1 * Lf y φ) r := fun cn => ⟨cn.fall, cn.nz, fun φ => by rw [cn.lf, Lf_append]; omega⟩
      exact ⟨c, dc, L, us ++ us', x ++ y, n, m, false, rfl, upd_same, SqS.of (s2 _ _ eL), hT.same s2, by rw [List.length_append]; omega, zx.append zy, fun r H2 sb hS cn z _ hw => ⟨rfl, q c r H2 (s1.trans (sb.same c0 s2)) hS (ce cn) (by rw [List.length_append] at z; exact z) hw⟩, fun r cn hw => (qE r (ce cn) hw).same (s1.trans s2)⟩
abbrev s_minus : Stmt := inClass (topS 24) 3
abbrev n_minus : List Str := ["self", "other", "powers", "count"]
theorem sc_minus : FnScope n_minus ["self", "other"] (defScope s_minus) := ⟨rfl, rfl, rfl, by decide +kernel, rfl, by decide +kernel, by decide +kernel⟩
def negT (a : Tm) : Tm := (a.1, -a.2)
theorem ok_minus {f : Addr} {fd : FuncData} (F : Fun K "minus" "Sum.minus" s_minus f fd) (T : Tx mg) (S : SumC K mg C) (c_check : Cal P w K mg base CX0 1 "check_width" ["width", "other"] spCheck) (M : MakX P w K mg base 4 C ["self", "width", "terms"] (spInit K C CG)) : FnOk P w K mg base (L2.CX P w) 6 f fd ["self", "other"] (spPlus (-1) C CG) := by
  refine F.okX sc_minus (fun vs H Q E h => ?_) (fun cdv A outer s H vs Q E hr h => ?_)
  · obtain ⟨a, b, n, m, x, y, rfl, _⟩ := h
    rfl
  · refine ⟨_, (pss_cons (ps_expr (pe_cal c_check (hr.mono (by decide)) (by rfl) (pa_cons (pf (K := K) (pv 0)) (pa_cons (pf (K := K) (pv 1)) pa_nil))))
      (pss_one (ps_ret (pe_mkX M hr (by rfl) (passE rfl rfl rfl rfl) (pa_cons (pf (K := K) (pv 0)) (pa_cons (pe_op (o_cat (K := K)) (pf (K := K) (pv 0)) (pe_callTy (c_tup (K := K)) (by rfl) T.tuple (by decide +kernel) (pa_cons (pe_lc (own := [("powers", 2), ("count", 3)]) (by rfl) sc_minus.nd (p_tup (K := K) (pf (K := K) (pv 1))) (blkOk_by (own := [("powers", 2), ("count", 3)]) (N := n_minus) (sc := defScope s_minus) (by decide +kernel)) (fun _ _ _ _ _ => (g_tup (K := K) (n := 2) rfl (pgs_cons (pg_name (i := 2) sc_minus.nd rfl (.inl rfl)) (pgs_cons (pg_name (i := 3) sc_minus.nd rfl (.inl rfl)) pgs_nil)))) (fun _ _ _ _ _ => pts_nil) (fun _ _ _ _ _ => (pe_tup (pa_cons (pv 2) (pa_cons (pe_un un_neg (pv 3)) pa_nil))))) pa_nil))) pa_nil)))))), ?_⟩
    obtain ⟨a, b, n, m, x, y, rfl, ⟨dx, p, us, h1, h2, h3⟩, ⟨dy, p', us', g1, g2, g3⟩, zx, zy, hlx, hly, q, qE⟩ := h
    · refine ⟨.ref a, rfl, a, C, dx, _, .int n, rfl, h1, S.cls, S.nw, rfl, .ref b, rfl, b, C, dy, _, .int n, rfl, g1, S.cls, S.nw, rfl, n, rfl, ?_⟩
      have l1 := h3.1
      have l2 := g3.1
      refine ⟨.ref a, rfl, a, C, dx, _, .int n, rfl, h1, S.cls, S.nw, rfl, .ref a, rfl, a, C, dx, _, .ref p, rfl, h1, S.cls, S.np, rfl, .ref b, rfl, b, C, dy, _, .ref p', rfl, g1, S.cls, S.np, rfl, p', rfl, ⟨_, SqT.of g2⟩, fun D eD => ?_⟩
      refine lc_tup (K := K) (a := p') (xs := us'.map V.ref) (fun j H' => ∃ ts : List Addr, H' D = some (.lst (ts.map V.ref)) ∧ TermsAt H' ts ((y.take j).map negT) ∧ Same H H') ⟨[], upd_same, .nil, same_upd eD⟩ (fun j H' _ ⟨_, _, _, s⟩ => SqT.of (s _ _ g2)) ?_ ?_
      · rintro j v H1 hv ⟨ts, e1, hT1, s1⟩
        obtain ⟨t, et, rfl⟩ := ref_at hv
        obtain ⟨ta, ea, qq, hb1, hb2⟩ := (g3.same s1).at et
        have hj := (List.getElem?_eq_some_iff.mp ea).1
        refine ⟨t, _, rfl, SqT.of hb1, rfl, _, _, rfl, _, _, rfl, rfl, rfl, .ref qq, rfl, .int ta.2, rfl, _, rfl, by show 2 ≤ sizeLine; decide, fun u eu => ?_⟩
        have su := same_upd (o := .tup [.ref qq, .int (-ta.2)]) eu
        have lts : ts.length = j := by
          rw [hT1.1, List.length_map, List.length_take]
          omega
        refine ⟨_, su _ _ e1, by rw [List.length_map]; exact small1000 (by omega), ts ++ [u], ?_, ?_, Same.updN (s1.trans su) eD⟩
        · rw [upd_same, List.map_append]
          rfl
        · rw [List.take_succ, ea, List.map_append]
          exact TermsAt.put ((hT1.same su).snoc ⟨qq, upd_same, su _ _ hb2⟩) (su _ _ e1)
      · rintro H1 ⟨ts, e1, hT1, s1⟩
        rw [List.length_map, l2, List.take_length] at hT1
        refine ⟨D, _, rfl, .inl ⟨SqL.of e1, fun pt ept => ?_⟩⟩
        have spt := same_upd (o := .tup (ts.map V.ref)) ept
        have lt : ts.length = y.length := by
          rw [hT1.1, List.length_map]
        refine cat_refs (spt _ _ (s1 _ _ h2)) upd_same (by omega) (by omega) fun L H2 s2 eL => ?_
        intro c dc c0 dc0 ncd
        have s3 := made_same (C := C) c0 dc0 ncd
        have s02 := (s1.trans spt).trans s2
        have hT := (h3.same s02).append ((hT1.same spt).same s2)
        have zn : Sized n m (y.map negT) := fun c hc => by
          obtain ⟨z, hz, rfl⟩ := List.mem_map.mp hc
          exact ⟨(zy z hz).1, by show (-z.2).natAbs ≤ m; rw [Int.natAbs_neg]; exact (zy z hz).2⟩
        have ce : ∀ {r : List Tm}, Cn (Lf (x ++ y.map negT)) r → Cn (fun φ => Lf x φ + -1 * Lf y φ) r := fun cn => ⟨cn.fall, cn.nz, fun φ => by
          rw [cn.lf, Lf_append]
          have := Lf_neg y φ
          show Lf x φ + Lf (y.map fun a => (a.1, -a.2)) φ = _
          rw [this]
          omega⟩
        exact ⟨c, dc, L, us ++ ts, x ++ y.map negT, n, m, false, rfl, upd_same, SqS.of (s3 _ _ eL), hT.same s3, by rw [List.length_append, List.length_map]; omega, zx.append zn, fun r H4 sb hS cn z _ hw => ⟨rfl, q c r H4 (s02.trans (sb.same c0 s3)) hS (ce cn) (by rw [List.length_append, List.length_map] at z; exact z) hw⟩, fun r cn hw => (qE r (ce cn) hw).same (s02.trans s3)⟩
abbrev s_times : Stmt := inClass (topS 24) 4
theorem sc_times : FnScope ["self", "other"] ["self", "other"] (defScope s_times) := ⟨rfl, rfl, rfl, by decide +kernel, rfl, by decide +kernel, by decide +kernel⟩
def spTimes (C CG : Addr) : Sp := fun vs H Q E => ∃ (a b : Addr) (n m k : Nat) (x y : List Tm), vs = [.ref a, .ref b] ∧ SumAt C H a n x ∧ SumAt C H b n y ∧ n ≤ 8 ∧ Sized n m x ∧ Sized n k y ∧ m < 2 ^ 1000 ∧ k < 2 ^ 1000 ∧ x.length * y.length ≤ 4000 ∧
  (∀ (c : Addr) (r : List Tm) (H' : Hp), Same H H' → SumAt C H' c n r → Cn (lmul (Lf x) (Lf y)) r → Sized n (x.length * y.length * (m * k)) r → r.length ≤ 400 → Q (.ref c) H') ∧ ∀ r : List Tm, Cn (lmul (Lf x) (Lf y)) r → 400 < r.length → Gr CG H E
theorem ok_times {f : Addr} {fd : FuncData} (F : Fun K "times" "Sum.times" s_times f fd) (T : Tx mg) (S : SumC K mg C) (c_check : Cal P w K mg base CX0 1 "check_width" ["width", "other"] spCheck) (c_mul : Cal P w K mg base CX0 2 "multiplied" ["one", "other"] spMul) (M : MakX P w K mg base 4 C ["self", "width", "terms"] (spInit K C CG)) : FnOk P w K mg base (L2.CX P w) 6 f fd ["self", "other"] (spTimes C CG) := by
  refine F.okX sc_times (fun vs H Q E h => ?_) (fun cdv A outer s H vs Q E hr h => ?_)
  · obtain ⟨a, b, n, m, k, x, y, rfl, _⟩ := h
    rfl
  · obtain ⟨a, b, n, m, k, x, y, rfl, ⟨dx, p, us, h1, h2, h3⟩, ⟨dy, p', us', g1, g2, g3⟩, n8, zx, zy, hm, hk, hxy, q, qE⟩ := h
    refine ⟨_, (pss_cons (ps_expr (pe_cal c_check (hr.mono (by decide)) (by rfl) (pa_cons (pf (K := K) (pv 0)) (pa_cons (pf (K := K) (pv 1)) pa_nil))))
      (pss_one (ps_ret (pe_mkX M hr (by rfl) (passE rfl rfl rfl rfl) (pa_cons (pf (K := K) (pv 0)) (pa_cons (pe_cal c_mul (hr.mono (by decide)) (by rfl) (pa_cons (pf (K := K) (pv 0)) (pa_cons (pf (K := K) (pv 1)) pa_nil))) pa_nil)))))), ?_⟩
    refine ⟨.ref a, rfl, a, C, dx, _, .int n, rfl, h1, S.cls, S.nw, rfl, .ref b, rfl, b, C, dy, _, .int n, rfl, g1, S.cls, S.nw, rfl, n, rfl, ?_⟩
    refine ⟨.ref a, rfl, a, C, dx, _, .int n, rfl, h1, S.cls, S.nw, rfl, .ref a, rfl, a, C, dx, _, .ref p, rfl, h1, S.cls, S.np, rfl, .ref b, rfl, b, C, dy, _, .ref p', rfl, g1, S.cls, S.np, rfl, ?_⟩
    refine ⟨p, p', us, us', x, y, n, m, k, rfl, h2, h3, g2, g3, n8, zx, zy, hm, hk, by omega, fun L ls H1 s1 L0 e1 hT1 => ?_⟩
    intro c dc c0 dc0 ncd
    have s2 := made_same (C := C) c0 dc0 ncd
    have ce : ∀ {r : List Tm}, Cn (Lf (mulT x y)) r → Cn (lmul (Lf x) (Lf y)) r := fun cn => ⟨cn.fall, cn.nz, fun φ => by rw [cn.lf, Lf_mulT]⟩
    exact ⟨c, dc, L, ls, mulT x y, n, m * k, true, rfl, upd_same, SqS.of (s2 _ _ e1), hT1.same s2, by rw [mulT_len]; exact hxy, zx.mulT zy, fun r H2 sb hS cn z _ hw => ⟨rfl, q c r H2 (s1.trans (sb.same c0 s2)) hS (ce cn) (by rw [mulT_len] at z; exact z) hw⟩, fun r cn hw => (qE r (ce cn) hw).same (s1.trans s2)⟩
theorem const_len {p : List Int} {c : Int} {r : List Tm} (cn : Cn (Lf [(p, c)]) r) : r.length ≤ 1 := by
  have h : ∀ q ∈ keysOf r, q ∈ [p] := by
    intro q hq
    obtain ⟨⟨q', d⟩, ha, rfl⟩ := mem_keys.mp hq
    obtain ⟨d0, e⟩ := (cn.mem q' d).mp ha
    refine Classical.byContradiction fun z => d0 ?_
    rw [← e]
    refine Lf_ind_none fun b hb eb => z ?_
    rw [List.mem_singleton.mp hb] at eb
    rw [← eb]
    exact List.mem_singleton.mpr rfl
  have := nodup_len cn.fall.nd h
  unfold keysOf at this
  rw [List.length_map] at this
  exact this
abbrev s_constant : Stmt := topS 26
theorem sc_constant : FnScope ["width", "many"] ["width", "many"] (defScope s_constant) := ⟨rfl, rfl, rfl, by decide +kernel, rfl, by decide +kernel, by decide +kernel⟩
def spConst (C : Addr) : Sp := fun vs H Q _ => ∃ (n : Nat) (c : Int), vs = [.int n, .int c] ∧ n ≤ 8 ∧ ∀ (a : Addr) (r : List Tm) (H' : Hp), Same H H' → SumAt C H' a n r → Cn (Lf [(List.replicate n 0, c)]) r → Sized n c.natAbs r → r.length ≤ 1 → Q (.ref a) H'
theorem ok_const {f : Addr} {fd : FuncData} (F : Fun K "constant" "constant" s_constant f fd) (T : Tx mg) (S : SumC K mg C) (M : MakX P w K mg base 4 C ["self", "width", "terms"] (spInit K C CG)) : FnOk P w K mg base (L2.CX P w) 6 f fd ["width", "many"] (spConst C) := by
  refine F.okX sc_constant (fun vs H Q E h => ?_) (fun cdv A outer s H vs Q E hr h => ?_)
  · obtain ⟨n, c, rfl, _⟩ := h
    rfl
  · obtain ⟨n, c, rfl, n8, q⟩ := h
    refine ⟨_, (pss_one (ps_ret (pe_mkX M hr (by rfl) (passE rfl rfl rfl rfl) (pa_cons (pv 0) (pa_cons (pe_lst (pa_cons (pe_tup (pa_cons (pe_op (o_repZ (K := K)) (pe_tup (pa_cons pe_int pa_nil)) (pv 0)) (pa_cons (pv 1) pa_nil))) pa_nil)) pa_nil))))), ?_⟩
    refine ⟨.int n, rfl, by show 1 ≤ sizeLine; decide, fun l el => ⟨.int n, rfl, rep_zeros upd_same n8 fun p H1 s1 e1 => ?_⟩⟩
    have s1 := (same_upd (o := .tup [.int 0]) el).trans s1
    refine ⟨.int c, rfl, by show 2 ≤ sizeLine; decide, fun t et => ?_⟩
    have st := same_upd (o := .tup [.ref p, .int c]) et
    refine ⟨by show 1 ≤ sizeLine; decide, fun L eL => ?_⟩
    have sL := same_upd (o := .lst [.ref t]) eL
    intro x dx x0 dx0 nxd
    have s2 := made_same (C := C) x0 dx0 nxd
    refine ⟨x, dx, L, [t], [(List.replicate n 0, c)], n, c.natAbs, true, rfl, upd_same, SqS.of (s2 _ _ upd_same), ?_, by show 1 ≤ 4000; decide, fun a ha => ?_, fun r H2 sb hS cn z hl _ => ⟨rfl, ?_⟩, fun r cn hw => ?_⟩
    · refine TermsAt.same s2 (TermsAt.same sL ?_)
      refine ⟨rfl, fun i a e => ?_⟩
      match i, e with
      | 0, e =>
        cases (Option.some.inj e)
        exact ⟨t, rfl, p, upd_same, st _ _ e1⟩
      | i + 1, e => simp at e
    · rw [List.mem_singleton.mp ha]
      exact ⟨List.length_replicate, Nat.le_refl _⟩
    · exact q x r H2 (((s1.trans st).trans sL).trans (sb.same x0 s2)) hS cn (z.mono (by show 1 * c.natAbs ≤ c.natAbs; omega)) hl
    · have := const_len cn
      omega
/-! ### raised -/
abbrev s_raised : Stmt := inClass (topS 24) 5
abbrev n_raised : List Str := ["self", "many", "result", "step"]
theorem sc_raised : FnScope n_raised ["self", "many"] (defScope s_raised) := ⟨rfl, rfl, rfl, by decide +kernel, rfl, by decide +kernel, by decide +kernel⟩
def spRaised (C CG : Addr) : Sp := fun vs H Q E => ∃ (a : Addr) (n m j : Nat) (x : List Tm) (I : Nat → List Tm → Prop) (B : Nat → Nat), vs = [.ref a, .int j] ∧ SumAt C H a n x ∧ n ≤ 8 ∧ Sized n m x ∧ m < 2 ^ 1000 ∧ j ≤ 1000 ∧
  (∀ r, Cn (Lf [(List.replicate n 0, 1)]) r → Sized n 1 r → r.length ≤ 1 → I 0 r) ∧
  (∀ i r, i < j → I i r → Sized n (B i) r ∧ B i < 2 ^ 1000 ∧ r.length * x.length ≤ 4000 ∧ (∀ r', Cn (lmul (Lf r) (Lf x)) r' → Sized n (r.length * x.length * (B i * m)) r' → r'.length ≤ 400 → I (i + 1) r') ∧ ∀ r', Cn (lmul (Lf r) (Lf x)) r' → 400 < r'.length → Gr CG H E) ∧
  ∀ (c : Addr) (r : List Tm) (H' : Hp), Same H H' → SumAt C H' c n r → I j r → Q (.ref c) H'
theorem ok_raised {f : Addr} {fd : FuncData} (F : Fun K "raised" "Sum.raised" s_raised f fd) (T : Tx mg) (S : SumC K mg C) (c_const : CalX P w K mg base 6 "constant" ["width", "many"] (spConst C)) (m_times : MetX P w K mg base 6 C "times" ["self", "other"] (spTimes C CG)) : FnOk P w K mg base (L2.CX P w) 7 f fd ["self", "many"] (spRaised C CG) := by
  refine F.okX sc_raised (fun vs H Q E h => ?_) (fun cdv A outer s H vs Q E hr h => ?_)
  · obtain ⟨a, n, m, j, x, I, B, rfl, _⟩ := h
    rfl
  · obtain ⟨a, n, m, j, x, I, B, rfl, hA, n8, zx, hm, j1, q0, qs, q⟩ := h
    refine ⟨_, (pss_cons (ps_set (i := 2) sc_raised.nd rfl (.inl rfl) (pe_calX c_const hr (by rfl) (passE rfl rfl rfl rfl) (pa_cons (pf (K := K) (pv 0)) (pa_cons pe_int pa_nil))))
      (pss_cons (ps_for (passes_of rfl) rfl (pi_range1 (by rfl) T.range (pa_cons (pv 1) pa_nil)) (pg_name (i := 3) sc_raised.nd rfl (.inl rfl))
        (pss_one (ps_set (i := 2) sc_raised.nd rfl (.inl rfl) (pe_mtX m_times hr (passE rfl rfl rfl rfl) (pv 2) (pa_cons (pv 0) pa_nil)))))
      (pss_one (ps_ret (pv 2))))), ?_⟩
    obtain ⟨dx, p, us, h1, h2, h3⟩ := id hA
    refine ⟨.ref a, rfl, a, C, dx, _, .int n, rfl, h1, S.cls, S.nw, rfl, n, 1, rfl, n8, fun c0 r0 H1 s1 hS1 cn1 z1 l1 => ?_⟩
    refine ⟨.int j, rfl, j, rfl, by omega, by omega, ?_⟩
    refine for_range (fun i σ H' => ∃ (c : Addr) (r : List Tm) (y3 : Option V), σ = [some (.ref a), some (.int j), some (.ref c), y3] ∧ Same H H' ∧ SumAt C H' c n r ∧ I i r)
      ⟨c0, r0, none, rfl, s1, hS1, q0 r0 cn1 z1 l1⟩ ?_ ?_
    · rintro i σ H2 hi ⟨c, r, y3, rfl, s2, hS2, hI⟩
      have hi : i < j := hi
      obtain ⟨zr, hB, hl, nx, nE⟩ := qs i r hi hI
      obtain ⟨dc, pc, uc, k1, k2, k3⟩ := id hS2
      exact ⟨.ref c, rfl, c, dc, _, rfl, k1, rfl, .ref a, rfl, c, a, n, B i, m, r, x, rfl, hS2, hA.same s2, n8, zr, zx, hB, hm, hl, fun c' r' H3 s3 hS3 cn3 z3 l3 => ⟨c', r', _, rfl, s2.trans s3, hS3, nx r' cn3 z3 l3⟩, fun r' cn3 l3 => (nE r' cn3 l3).same s2⟩
    · rintro σ H2 ⟨c, r, y3, rfl, s2, hS2, hI⟩
      exact ⟨.ref c, rfl, q c r H2 s2 hS2 hI⟩
end
end Bw
set_option Elab.async false
set_option linter.all false
set_option maxRecDepth 100000
set_option maxHeartbeats 4000000
namespace Bw
open PySem PySem.Spec PyProof.Rows L2 LamX
theorem seqIx {u : Int} {n : Nat} (h0 : 0 ≤ u) (h1 : u < n) : seqIndex? u n = some u.toNat := by
  unfold seqIndex?
  simp only [show ¬ u < 0 by omega, if_false]
  rw [if_pos]
  simp only [Bool.and_eq_true, decide_eq_true_eq]
  exact ⟨h0, h1⟩
theorem erase_perm {α : Type} : ∀ {l : List α} {k : Nat} (h : k < l.length), (l[k] :: l.eraseIdx k).Perm l
  | a :: l, 0, _ => List.Perm.refl _
  | a :: l, k + 1, h => by
    have hk : k < l.length := Nat.lt_of_succ_lt_succ h
    have ih := erase_perm (l := l) (k := k) hk
    show (l[k] :: a :: l.eraseIdx k).Perm (a :: l)
    exact (List.Perm.swap a _ _).trans (ih.cons a)
/-! ### _law_word(lambda: ..) -/
theorem pe_word {X : Cx} {st : Stmt} {g CB c P : Addr} {fd : FuncData} {k : Nat} {params : Arguments} {body : Expr} {scope : Scope} {t : XK → TE} {p lpos pos : Pos}
    (F : Fun X.K "_law_word" "_law_word" st g fd) (gg : X.mg "_law_word" = some (.ref g)) (bb : L2.Binds X.K fd ["_law_asked"] []) (Sg : FnScope ["_law_asked", "e"] ["_law_asked"] (defScope st)) (hva : Vis (defScope st) "_law_asked") (hG : ∀ cdv, GivesTo X ["_law_asked", "e"] "_law_word" (defScope st) g cdv (defBody st) "_law_asked" (X.env.qual ++ "<lambda>") (TWord X.K CB))
    (TB : TabB X.base X.mg c P) (hcode : X.env.code = .ref c) (hr : Room (k + 2) X.A) (hg : Gl X "_law_word") (L : LamS X.env.scope scope)
    (hbody : ∀ (A : Around) (outer : List Env) (s : Shared) (H : Hp) (E : XK) (f c' : Addr), Room k (A.deeper (lamEnv X scope s.heap.objs.size f c')) → PE (lamCx X A outer s H E scope f c') body (t E)) (hdef : defaultsOf params X.env = ([], []))
    (hbind : ∀ (q : Str) (cl : List (Str × Addr)) (pm cv ctv : Value), bindArgs (PySem.W.kla_fn "<lambda>" q params body scope cl pm cv ctv) ⟨[], []⟩ = pure []) :
    PE X (.Call (.Name "_law_word" p) [.Lambda params body scope lpos] [] pos) (tLam [(P, X.env.qual ++ "<lambda>")] (TWord X.K CB) t) := by
  obtain ⟨oc, od, kV, doc, pm, an, cdv, ct, osl, rfl, lk, hcd⟩ := F.ex
  exact pe_lamcall hg gg F.kp lk hcd bb Sg rfl hva (hG cdv) TB hcode (List.mem_singleton.mpr rfl) (fun p hp _ => by rw [List.mem_singleton.mp hp]) hr L hdef hbind hbody
abbrev s_law_word : Stmt := topS 32
theorem sc_law_word : FnScope ["_law_asked", "e"] ["_law_asked"] (defScope s_law_word) := ⟨rfl, rfl, rfl, by decide +kernel, rfl, by decide +kernel, by decide +kernel⟩
structure WordB (K : PySem.W.Frag) (mg : Str → Option Value) (base : Heap) (g CB c P : Addr) (fd : FuncData) : Prop where
  F : Fun K "_law_word" "_law_word" s_law_word g fd
  gg : mg "_law_word" = some (.ref g)
  bb : L2.Binds K fd ["_law_asked"] []
  gB : mg "BudError" = some (.ref CB)
  TB : TabB base mg c P
def qLam : Str := (("law" : Str) ++ (".<locals>." : Str)) ++ ("<lambda>" : Str)
theorem pe_wd {X : Cx} {g CB c P : Addr} {fd : FuncData} {k : Nat} {params : Arguments} {body : Expr} {scope : Scope} {t : XK → TE} {p lpos pos : Pos} (W : WordB X.K X.mg X.base g CB c P fd) (hcode : X.env.code = .ref c) (hr : Room (k + 2) X.A) (hg : Gl X "_law_word") (L : LamS X.env.scope scope)
    (hbody : ∀ (A : Around) (outer : List Env) (s : Shared) (H : Hp) (E : XK) (f c' : Addr), Room k (A.deeper (lamEnv X scope s.heap.objs.size f c')) → PE (lamCx X A outer s H E scope f c') body (t E)) (hq : X.env.qual ++ "<lambda>" = qLam := by rfl) (hdef : defaultsOf params X.env = ([], []) := by rfl)
    (hbind : ∀ (q : Str) (cl : List (Str × Addr)) (pm cv ctv : Value), bindArgs (PySem.W.kla_fn "<lambda>" q params body scope cl pm cv ctv) ⟨[], []⟩ = pure [] := by intros; rfl) :
    PE X (.Call (.Name "_law_word" p) [.Lambda params body scope lpos] [] pos) (tLam [(P, qLam)] (TWord X.K CB) t) := by
  rw [← hq]
  exact pe_word W.F W.gg W.bb sc_law_word (.inl rfl) (fun cdv => word_gives rfl W.gB (by decide) rfl rfl (fun f => rfl)) W.TB hcode hr hg L hbody hdef hbind
theorem one_default {K : PySem.W.Frag} {fd : FuncData} {ps : List Str} {ds : List Value} {e : Addr} (v : Vals [V.ref e] ds) (b : Binds K fd ps ds) : Binds K fd ps [.ref e] := by
  cases v with
  | cons r t =>
    cases t
    cases r
    exact b
theorem FeedAt.neO {H : Hp} {f l b : Addr} {o : HO} (h : FeedAt H f l) (e : H b = some o) (n : ∀ xs, o ≠ .lst xs) : b ≠ f := by
  obtain ⟨_, _, _, _, _, _, b', _⟩ := h
  intro z
  subst z
  rw [e] at b'
  exact n _ (Option.some.inj b')
theorem SumAt.ext {C : Addr} {H H' : Hp} {a : Addr} {n : Nat} {r : List Tm} (s : ExtN H H') (h : SumAt C H a n r) : SumAt C H' a n r := by
  obtain ⟨dx, p, us, h1, h2, h3⟩ := h
  exact ⟨dx, p, us, s _ _ h1 (fun ps z => by cases z), s _ _ h2 (fun ps z => by cases z), h3.keep fun b xs e => s _ _ e (fun ps z => by cases z)⟩
theorem TermsAt.ext {H H' : Hp} {ts : List Addr} {x : List Tm} (s : ExtN H H') (h : TermsAt H ts x) : TermsAt H' ts x := h.keep fun b xs e => s _ _ e (fun ps z => by cases z)
theorem FeedAt.ext {H H' : Hp} {f l : Addr} (s : ExtN H H') (h : FeedAt H f l) : FeedAt H' f l := by
  obtain ⟨ns, i, n, m, c, a, b, d, r⟩ := h
  exact ⟨ns, i, n, m, c, a, s _ _ b (fun ps z => by cases z), s _ _ d (fun ps z => by cases z), r⟩
theorem SumAt.but {C : Addr} {H H' : Hp} {f l a : Addr} {n : Nat} {r : List Tm} (s : SameBut f H H') (hf : FeedAt H f l) (h : SumAt C H a n r) : SumAt C H' a n r := by
  obtain ⟨dx, p, us, h1, h2, h3⟩ := h
  exact ⟨dx, p, us, s _ _ (hf.neO h1 (fun xs z => by cases z)) h1, s _ _ (hf.tup h2) h2, h3.but s hf⟩
theorem Tabs.but {T : List (Addr × Str)} {H H' : Hp} {f l : Addr} (s : SameBut f H H') (hf : FeedAt H f l) (h : Tabs T H) : Tabs T H' := by
  intro p hp
  obtain ⟨ps, h1, h2, h3⟩ := h p hp
  refine ⟨ps, s _ _ (hf.neO h1 (fun xs z => by cases z)) h1, h2, fun pos cv hc => ?_⟩
  obtain ⟨c, e1, e2⟩ := h3 pos cv hc
  exact ⟨c, e1, s _ _ (hf.neO e2 (fun xs z => by cases z)) e2⟩
theorem cut_to {xs : List V} {k : Nat} : cutV xs none (some (k : Int)) = xs.take k := by
  unfold cutV
  rw [HT.sIx_nat, HT.sIx_none]
  show (xs.drop 0).take (min k xs.length - 0) = _
  rw [List.drop_zero, Nat.sub_zero, List.take_eq_take_iff]
  omega
theorem cut_from {xs : List V} {k : Nat} : cutV xs (some (k : Int)) none = xs.drop k := by
  unfold cutV
  rw [HT.sIx_nat, HT.sIx_none]
  by_cases h : k ≤ xs.length
  · rw [Nat.min_eq_left h]
    exact List.take_of_length_le (by rw [List.length_drop]; exact Nat.le_refl _)
  · rw [Nat.min_eq_right (by omega), List.drop_of_length_le (by omega), List.drop_of_length_le (by omega), List.take_nil]
theorem cut40 {xs : List V} : cutV xs none (some 40) = xs.take 40 := cut_to (k := 40)
theorem from40 {xs : List V} : cutV xs (some 40) none = xs.drop 40 := cut_from (k := 40)
/-- one more term of a list that is being made -/
theorem tm_step {H0 H1 : Hp} {D t qq : Addr} {ls : List Addr} {G : Nat → List Tm} {j : Nat} (a : Tm) (eD : H0 D = none) (e1 : H1 D = some (.lst (ls.map V.ref))) (hT : TermsAt H1 ls (G j)) (s1 : Same H0 H1) (lj : (G j).length ≤ 1000) (hG : G (j + 1) = G j ++ [a]) (q0 : H1 qq = none) (t0 : (upd H1 qq (.tup (a.1.map V.int))) t = none) :
    ∃ acc, (upd (upd H1 qq (.tup (a.1.map V.int))) t (.tup [.ref qq, .int a.2])) D = some (.lst acc) ∧ acc.length < sizeLine ∧ ∃ ls' : List Addr, (upd (upd (upd H1 qq (.tup (a.1.map V.int))) t (.tup [.ref qq, .int a.2])) D (.lst (acc ++ [.ref t]))) D = some (.lst (ls'.map V.ref)) ∧ TermsAt (upd (upd (upd H1 qq (.tup (a.1.map V.int))) t (.tup [.ref qq, .int a.2])) D (.lst (acc ++ [.ref t]))) ls' (G (j + 1)) ∧ Same H0 (upd (upd (upd H1 qq (.tup (a.1.map V.int))) t (.tup [.ref qq, .int a.2])) D (.lst (acc ++ [.ref t]))) := by
  have sq := same_upd (o := .tup (a.1.map V.int)) q0
  have st := same_upd (o := .tup [.ref qq, .int a.2]) t0
  have ll := hT.1
  refine ⟨_, st _ _ (sq _ _ e1), by rw [List.length_map]; exact small1000 (by omega), ls ++ [t], ?_, ?_, Same.updN ((s1.trans sq).trans st) eD⟩
  · rw [upd_same, List.map_append]
    rfl
  · rw [hG]
    exact TermsAt.put (((hT.same sq).same st).snoc ⟨qq, upd_same, st _ _ upd_same⟩) (st _ _ (sq _ _ e1))
section
variable {P : Program} {w : World} {K : PySem.W.Frag} {mg : Str → Option Value} {base : Heap} {C CG CB : Addr}
abbrev s_law_shuffled : Stmt := topS 31
abbrev n_law_shuffled : List Str := ["_law_feed_here", "_law_row", "_law_left", "_law_one"]
theorem sc_law_shuffled : FnScope n_law_shuffled ["_law_feed_here", "_law_row"] (defScope s_law_shuffled) := ⟨rfl, rfl, rfl, by decide +kernel, rfl, by decide +kernel, by decide +kernel⟩
def spShuf : Sp := fun vs H Q _ => ∃ (f l a : Addr) (xs : List V), vs = [.ref f, .ref a] ∧ FeedAt H f l ∧ H a = some (.lst xs) ∧ a ≠ f ∧ xs.length ≤ 500 ∧
  ∀ (b : Addr) (ys : List V) (H' : Hp), ys.Perm xs → SameBut f H H' → FeedAt H' f l → H b = none → H' b = some (.lst ys) → Q (.ref b) H'
theorem ok_shuf {f : Addr} {fd : FuncData} (F : Fun K "_law_shuffled" "_law_shuffled" s_law_shuffled f fd) (T : Tx mg) (c_law_draw : Cal P w K mg base CX0 1 "_law_draw" ["_law_feed_here", "_law_many"] spDraw) : FnOk P w K mg base CX0 2 f fd ["_law_feed_here", "_law_row"] spShuf := by
  refine F.ok sc_law_shuffled (fun vs H Q E h => ?_) (fun cdv A outer s H vs Q E hr h => ?_)
  · obtain ⟨f, l, a, xs, rfl, _⟩ := h
    rfl
  · obtain ⟨f, l, a, xs, rfl, hf, ha, naf, hl, q⟩ := h
    refine ⟨_, (pss_cons (ps_set (i := 2) sc_law_shuffled.nd rfl (.inr rfl) (pe_callTy (c_lst (K := K)) (by rfl) T.list (by decide +kernel) (pa_cons (pv 1) pa_nil)))
  (pss_one (ps_ret (pe_lc (own := [("_law_one", 3)]) (by rfl) sc_law_shuffled.nd (p_list (K := K) (pv 1)) (blkOk_by (own := [("_law_one", 3)]) (N := n_law_shuffled) (sc := defScope s_law_shuffled) (by decide +kernel)) (fun _ _ _ _ _ => (pg_name (i := 3) sc_law_shuffled.nd rfl (.inl rfl))) (fun _ _ _ _ _ => pts_nil) (fun _ _ _ _ _ => (p_bm (K := K) PySem.F.plainAttrs_list PySem.F.slot_list_pop PySem.F.type_list_pop mt_popAt (pv 2) (pa_cons (pe_cal c_law_draw (hr.mono (by decide)) (by rfl) (pa_cons (pv 0) (pa_cons (pe_callB (c_len (K := K)) (by rfl) T.len PySem.boot_len (pa_cons (pv 2) pa_nil)) pa_nil))) pa_nil))))))), ?_⟩
    refine ⟨.ref a, rfl, a, _, rfl, .inl (SqL.of ha), fun L eL => ?_⟩
    have sL := same_upd (o := .lst xs) eL
    have nLf : L ≠ f := hf.ne eL
    have nLl : L ≠ l := hf.ne2 eL
    have nLa : L ≠ a := Ne.symm (ne_of_none ha eL)
    refine ⟨.ref a, rfl, a, rfl, ⟨_, SqL.of (sL _ _ ha)⟩, fun D eD => ?_⟩
    have nDL : D ≠ L := fun z => by
      rw [z, upd_same] at eD
      cases eD
    have D0 : H D = none := by
      rw [upd_ne nDL] at eD
      exact eD
    have nDf : D ≠ f := hf.ne D0
    have nDl : D ≠ l := hf.ne2 D0
    refine lc_list (K := K) (a := a) (xs := xs) (fun j H' => ∃ left out : List V, H' L = some (.lst left) ∧ H' D = some (.lst out) ∧ (out ++ left).Perm xs ∧ out.length = j ∧ SameBut f H H' ∧ FeedAt H' f l)
      ⟨xs, [], by rw [upd_ne (Ne.symm nDL)]; exact upd_same, upd_same, List.Perm.refl _, rfl, SameBut.updN sL.but D0, (hf.same sL).put nDf nDl⟩ (fun j H' _ ⟨_, _, _, _, _, _, sb, _⟩ => SqL.of (sb _ _ naf ha)) ?_ ?_
    · rintro j x H1 hx ⟨left, out, e1, e2, pm, lo, sb1, hf1⟩
      have hj := (List.getElem?_eq_some_iff.mp hx).1
      have hlen := pm.length_eq
      rw [List.length_append, lo] at hlen
      refine ⟨rfl, .ref L, rfl, .inl ⟨rfl, _, SqL.of e1⟩, .ref f, rfl, .ref L, rfl, L, _, rfl, .inl (SqL.of e1), f, l, _, rfl, hf1, by omega, Nat.lt_trans (show ((left.length : Int)).natAbs < 1000 by omega) (by decide), fun u H2 u0 u1 sb2 hf2 => ?_⟩
      have hk : u.toNat < left.length := by omega
      have e1' := sb2 _ _ nLf e1
      have e2' := sb2 _ _ nDf e2
      refine ⟨L, left, u, u.toNat, left[u.toNat], rfl, rfl, e1', by omega, by omega, seqIx u0 u1, List.getElem?_eq_getElem hk, ?_⟩
      refine ⟨out, by rw [upd_ne nDL]; exact e2', small1000 (by omega), left.eraseIdx u.toNat, out ++ [left[u.toNat]], by rw [upd_ne (Ne.symm nDL)]; exact upd_same, upd_same, ?_, by rw [List.length_append, lo]; rfl, ?_, ?_⟩
      · rw [List.append_assoc]
        exact ((erase_perm hk).append_left out).trans pm
      · exact SameBut.updN (SameBut.updN (sb1.trans sb2) eL) D0
      · exact (hf2.put nLf nLl).put nDf nDl
    · rintro H1 ⟨left, out, e1, e2, pm, lo, sb1, hf1⟩
      have hlen := pm.length_eq
      rw [List.length_append, lo] at hlen
      have : left = [] := List.eq_nil_of_length_eq_zero (by omega)
      subst this
      rw [List.append_nil] at pm
      exact q D out H1 pm sb1 hf1 D0 e2
/-- Sum(n, terms), where the sum is known -/
theorem mk_ok {E : XK} {H : Hp} {R x dx : Addr} {ts : List Addr} {terms c : List Tm} {n m : Nat} {nI : Int} {Q : VK} (hn : nI = n) (hR : H R = some (.lst (ts.map V.ref))) (hT : TermsAt H ts terms) (l : terms.length ≤ 4000) (z : Sized n m terms) (cn : Cn (Lf terms) c) (c4 : c.length ≤ 400) (x0 : H x = none) (dx0 : H dx = none) (nx : dx ≠ x) (q : ∀ H' : Hp, Same H H' → SumAt C H' x n c → Q .non H') :
    spInit K C CG (.ref x :: ([.int nI, .ref R] ++ [])) (upd (upd H dx (.own x)) x (.ins C dx [])) Q E := by
  subst hn
  have s2 := made_same (C := C) x0 dx0 nx
  refine ⟨x, dx, R, ts, terms, n, m, true, rfl, upd_same, SqS.of (s2 _ _ hR), hT.same s2, l, z, fun r H2 sb hS cn2 _ _ _ => ?_, fun r cn2 hw => ?_⟩
  · rw [cn2.uniq cn] at hS
    exact q H2 (sb.same x0 s2) hS
  · rw [cn2.uniq cn] at hw
    omega
theorem mk_great {E : XK} {H : Hp} {R x dx : Addr} {ts : List Addr} {terms c : List Tm} {n m : Nat} {nI : Int} {Q : VK} (hn : nI = n) (hR : H R = some (.lst (ts.map V.ref))) (hT : TermsAt H ts terms) (l : terms.length ≤ 4000) (z : Sized n m terms) (cn : Cn (Lf terms) c) (c4 : 400 < c.length) (x0 : H x = none) (dx0 : H dx = none) (nx : dx ≠ x) (q : Gr CG H E) :
    spInit K C CG (.ref x :: ([.int nI, .ref R] ++ [])) (upd (upd H dx (.own x)) x (.ins C dx [])) Q E := by
  subst hn
  have s2 := made_same (C := C) x0 dx0 nx
  refine ⟨x, dx, R, ts, terms, n, m, true, rfl, upd_same, SqS.of (s2 _ _ hR), hT.same s2, l, z, fun r H2 sb hS cn2 _ _ hw => ?_, fun r cn2 _ => q.same s2⟩
  rw [cn2.uniq cn] at hw
  omega
end
theorem TermsAt.cons {H : Hp} {t : Addr} {ts : List Addr} {a : Tm} {x : List Tm} (ht : TermAt H t a) (h : TermsAt H ts x) : TermsAt H (t :: ts) (a :: x) := ⟨by rw [List.length_cons, List.length_cons, h.1], fun i b e => by
  cases i with
  | zero =>
    cases Option.some.inj e
    exact ⟨t, rfl, ht⟩
  | succ i => exact h.2 i b e⟩
theorem TermsAt.uncons {H : Hp} {t : Addr} {ts : List Addr} {x : List Tm} (h : TermsAt H (t :: ts) x) : ∃ a y, x = a :: y ∧ TermAt H t a ∧ TermsAt H ts y := by
  cases x with
  | nil => exact absurd h.1 (by simp)
  | cons a y => exact ⟨a, y, rfl, h.tail⟩
theorem TermsAt.perm {H : Hp} {ts us : List Addr} (p : ts.Perm us) : ∀ {x : List Tm}, TermsAt H ts x → ∃ y, y.Perm x ∧ TermsAt H us y := by
  induction p with
  | nil => exact fun {x} h => ⟨x, List.Perm.refl _, h⟩
  | cons t _ ih =>
    intro x h
    obtain ⟨a, y, rfl, h1, h2⟩ := h.uncons
    obtain ⟨z, p, h3⟩ := ih h2
    exact ⟨a :: z, p.cons a, .cons h1 h3⟩
  | swap t u l =>
    intro x h
    obtain ⟨a, y, rfl, h1, h2⟩ := h.uncons
    obtain ⟨b, z, rfl, h3, h4⟩ := h2.uncons
    exact ⟨b :: a :: z, List.Perm.swap a b z, .cons h3 (.cons h1 h4)⟩
  | trans _ _ ih1 ih2 =>
    intro x h
    obtain ⟨y, p1, h1⟩ := ih1 h
    obtain ⟨z, p2, h2⟩ := ih2 h1
    exact ⟨z, p2.trans p1, h2⟩
def unref : V → Addr
  | .ref a => a
  | _ => default
theorem refs_perm {ys : List V} {ts : List Addr} (p : ys.Perm (ts.map V.ref)) : ∃ zs : List Addr, ys = zs.map V.ref ∧ ts.Perm zs := by
  refine ⟨ys.map unref, ?_, ?_⟩
  · rw [List.map_map]
    have : ys.map (V.ref ∘ unref) = ys.map id := List.map_congr_left fun v hv => by
      obtain ⟨t, _, rfl⟩ := List.mem_map.mp (p.mem_iff.mp hv)
      rfl
    rw [this, List.map_id]
  · have := (p.map unref).symm
    rw [List.map_map] at this
    have e : ts.map (unref ∘ V.ref) = ts.map id := List.map_congr_left fun v _ => rfl
    rw [e, List.map_id] at this
    exact this
theorem TermsAt.take {H : Hp} {ts : List Addr} {x : List Tm} (h : TermsAt H ts x) (k : Nat) : TermsAt H (ts.take k) (x.take k) := by
  refine ⟨by rw [List.length_take, List.length_take, h.1], fun i a e => ?_⟩
  rw [List.getElem?_take] at e
  split at e
  · next hi =>
    obtain ⟨t, e1, e2⟩ := h.2 i a e
    exact ⟨t, by rw [List.getElem?_take, if_pos hi]; exact e1, e2⟩
  · cases e
theorem TermsAt.drop {H : Hp} {ts : List Addr} {x : List Tm} (h : TermsAt H ts x) (k : Nat) : TermsAt H (ts.drop k) (x.drop k) := by
  refine ⟨by rw [List.length_drop, List.length_drop, h.1], fun i a e => ?_⟩
  rw [List.getElem?_drop] at e
  obtain ⟨t, e1, e2⟩ := h.2 _ a e
  exact ⟨t, by rw [List.getElem?_drop]; exact e1, e2⟩
theorem full_size (far : Int) (n : Nat) : Sized 2 5 (fullT far n) := by
  intro a ha
  obtain ⟨k, _, rfl⟩ := full_key ha
  exact ⟨rfl, by show (1 + (k : Int) % 5).natAbs ≤ 5; omega⟩
theorem Sized.perm {n M : Nat} {x y : List Tm} (p : y.Perm x) (h : Sized n M x) : Sized n M y := fun a ha => h a (p.mem_iff.mp ha)
theorem len_ok {C a : Addr} {n : Nat} {r : List Tm} {H : Hp} {Q : VK} {E : XK} {k : Int} (h : SumAt C H a n r) (hl : (r.length : Int) = k) (h0 : k < 2 ^ 63) (q : Q (.int k) H) : rLenOwn C (spLenM C) E [V.ref a] H Q := by
  obtain ⟨dx, p, us, h1, h2, h3⟩ := id h
  exact ⟨a, dx, _, rfl, h1, a, n, r, rfl, h, k, by rw [hl], by omega, h0, q⟩
theorem TermsAt.rev {H : Hp} : ∀ {ts : List Addr} {x : List Tm}, TermsAt H ts x → TermsAt H ts.reverse x.reverse
  | [], x, h => by
    have : x = [] := List.eq_nil_of_length_eq_zero h.1.symm
    subst this
    exact .nil
  | t :: ts, x, h => by
    obtain ⟨a, y, rfl, h1, h2⟩ := h.uncons
    rw [List.reverse_cons, List.reverse_cons]
    exact (TermsAt.rev h2).snoc h1
theorem TermsAt.one {H : Hp} {t p : Addr} {a : Tm} (h1 : H t = some (.tup [.ref p, .int a.2])) (h2 : H p = some (.tup (a.1.map V.int))) : TermsAt H [t] [a] := .cons ⟨p, h1, h2⟩ .nil
theorem one_cn {p : List Int} {c : Int} (hc : c ≠ 0) : Cn (Lf [(p, c)]) [(p, c)] := ⟨List.pairwise_singleton _ _, fun a ha => by rw [List.mem_singleton.mp ha]; exact hc, fun φ => rfl⟩
theorem one_sized {p : List Int} {c : Int} {M : Nat} (h : c.natAbs ≤ M) : Sized p.length M [(p, c)] := fun a ha => by rw [List.mem_singleton.mp ha]; exact ⟨rfl, h⟩
theorem terms_eqv (r : List Tm) : PyData.eqv (.list (r.map tmD)) (.list (r.map tmD)) = true := by
  simp only [PyData.eqv]
  rw [all_eqv tmD_eqv]
  exact decide_eq_true rfl
theorem terms_shaped (r : List Tm) : SeqAt.shaped (.list (r.map tmD)) = true := shaped_lst (all_lay tmD_lay r) (Nat.le_trans (all_depth tmD_depth r) (by decide))
theorem three_ok (x : Str) (h : PyData.strOk x = true) : SeqAt.shaped (.list [.str x, .str x, .str x]) = true := shaped_lst (by simp [PyData.canLayAll0, PyData.canLay0, h]) (by simp [PyData.depthAll, PyData.depth])
theorem Sized.rev {n M : Nat} {x : List Tm} (h : Sized n M x) : Sized n M x.reverse := h.perm (List.reverse_perm _)
/-- what stays all along the law -/
structure Wl (C f l R aF Pt : Addr) (ts : List Addr) (far : Int) (H : Hp) : Prop where
  hf : FeedAt H f l
  nR : R ≠ f
  eR : H R = some (.lst (ts.map V.ref))
  hT : TermsAt H ts (fullT far 400)
  sF : SumAt C H aF 2 (fullT far 400).reverse
  tb : Tabs [(Pt, qLam)] H
theorem Wl.same {C f l R aF Pt : Addr} {ts : List Addr} {far : Int} {H H' : Hp} (s : Same H H') (h : Wl C f l R aF Pt ts far H) : Wl C f l R aF Pt ts far H' := ⟨h.hf.same s, h.nR, s _ _ h.eR, h.hT.same s, h.sF.same s, h.tb.ext s⟩
theorem Wl.ext {C f l R aF Pt : Addr} {ts : List Addr} {far : Int} {H H' : Hp} (s : ExtN H H') (t : Tabs [(Pt, qLam)] H') (h : Wl C f l R aF Pt ts far H) : Wl C f l R aF Pt ts far H' := ⟨h.hf.ext s, h.nR, s _ _ h.eR (fun ps z => by cases z), h.hT.ext s, h.sF.ext s, t⟩
theorem Wl.but {C f l R aF Pt : Addr} {ts : List Addr} {far : Int} {H H' : Hp} (s : SameBut f H H') (hf : FeedAt H' f l) (h : Wl C f l R aF Pt ts far H) : Wl C f l R aF Pt ts far H' := ⟨hf, h.nR, s _ _ h.nR h.eR, h.hT.but s h.hf, h.sF.but s h.hf, Tabs.but s h.hf h.tb⟩
theorem SumAt.put {C : Addr} {H : Hp} {lw a : Addr} {xs : List V} {o : HO} {n : Nat} {r : List Tm} (e : H lw = some (.lst xs)) (h : SumAt C H a n r) : SumAt C (upd H lw o) a n r := by
  obtain ⟨dx, p, us, h1, h2, h3⟩ := h
  refine ⟨dx, p, us, ?_, ?_, h3.put e⟩
  · rw [upd_ne (ne_of h1 e (by intro z; cases z))]
    exact h1
  · rw [upd_ne (ne_of h2 e (by intro z; cases z))]
    exact h2
theorem Tabs.put {T : List (Addr × Str)} {H : Hp} {lw : Addr} {xs : List V} {o : HO} (e : H lw = some (.lst xs)) (h : Tabs T H) : Tabs T (upd H lw o) := by
  intro p hp
  obtain ⟨ps, h1, h2, h3⟩ := h p hp
  refine ⟨ps, ?_, h2, fun pos cv hc => ?_⟩
  · rw [upd_ne (ne_of h1 e (by intro z; cases z))]
    exact h1
  · obtain ⟨c, e1, e2⟩ := h3 pos cv hc
    refine ⟨c, e1, ?_⟩
    rw [upd_ne (ne_of e2 e (by intro z; cases z))]
    exact e2
/-- what stays behind the words -/
structure Wm (C f l aF Pt : Addr) (far : Int) (H : Hp) : Prop where
  hf : FeedAt H f l
  sF : SumAt C H aF 2 (fullT far 400).reverse
  tb : Tabs [(Pt, qLam)] H
theorem Wm.same {C f l aF Pt : Addr} {far : Int} {H H' : Hp} (s : Same H H') (h : Wm C f l aF Pt far H) : Wm C f l aF Pt far H' := ⟨h.hf.same s, h.sF.same s, h.tb.ext s⟩
theorem Wm.ext {C f l aF Pt : Addr} {far : Int} {H H' : Hp} (s : ExtN H H') (t : Tabs [(Pt, qLam)] H') (h : Wm C f l aF Pt far H) : Wm C f l aF Pt far H' := ⟨h.hf.ext s, h.sF.ext s, t⟩
theorem Wm.but {C f l aF Pt : Addr} {far : Int} {H H' : Hp} (s : SameBut f H H') (hf : FeedAt H' f l) (h : Wm C f l aF Pt far H) : Wm C f l aF Pt far H' := ⟨hf, h.sF.but s h.hf, Tabs.but s h.hf h.tb⟩
def sixV : List V := [.int 20, .int 16, .int 25, .int 40, .int 10, .int 8]
theorem six_of {v : V} (h : v ∈ sixV) : ∃ p q : Nat, v = .int p ∧ (400 : Int) / p = q ∧ p * q = 400 ∧ 8 ≤ p ∧ p ≤ 40 ∧ 10 ≤ q ∧ q ≤ 50 ∧ (p + q) * (p + q) ≤ 4000 := by
  unfold sixV at h
  simp only [List.mem_cons, List.not_mem_nil, or_false] at h
  rcases h with rfl | rfl | rfl | rfl | rfl | rfl
  · exact ⟨20, 20, rfl, rfl, rfl, by decide, by decide, by decide, by decide, by decide⟩
  · exact ⟨16, 25, rfl, rfl, rfl, by decide, by decide, by decide, by decide, by decide⟩
  · exact ⟨25, 16, rfl, rfl, rfl, by decide, by decide, by decide, by decide, by decide⟩
  · exact ⟨40, 10, rfl, rfl, rfl, by decide, by decide, by decide, by decide, by decide⟩
  · exact ⟨10, 40, rfl, rfl, rfl, by decide, by decide, by decide, by decide, by decide⟩
  · exact ⟨8, 50, rfl, rfl, rfl, by decide, by decide, by decide, by decide, by decide⟩
theorem one_lt_b : 1 < 2 ^ 1000 := Nat.one_lt_two_pow (by decide)
theorem row_sized (n : Nat) : Sized 2 1 (rowT n) := by
  intro a ha
  obtain ⟨k, _, rfl⟩ := List.mem_map.mp ha
  exact ⟨rfl, Nat.le_refl _⟩
theorem col_sized (n : Nat) : Sized 2 1 (colT n) := by
  intro a ha
  obtain ⟨k, _, rfl⟩ := List.mem_map.mp ha
  exact ⟨rfl, Nat.le_refl _⟩
/-! ### one letter -/
def lineT (n : Nat) : List Tm := (List.range n).map fun k : Nat => ([(k : Int)], 1)
theorem line_len (n : Nat) : (lineT n).length = n := by
  unfold lineT
  rw [List.length_map, List.length_range]
theorem line_succ (n : Nat) : lineT (n + 1) = lineT n ++ [([(n : Int)], 1)] := by
  unfold lineT
  rw [List.range_succ, List.map_append]
  rfl
theorem line_sized (n : Nat) : Sized 1 1 (lineT n) := by
  intro a ha
  obtain ⟨k, _, rfl⟩ := List.mem_map.mp ha
  exact ⟨rfl, Nat.le_refl _⟩
theorem line_pos (n : Nat) : Psv (lineT n) := by
  intro a ha
  obtain ⟨k, _, rfl⟩ := List.mem_map.mp ha
  exact (by decide : (0 : Int) < 1)
theorem lex1 {a c : Int} (h : a < c) : HT.lexLt [a] [c] = true := by
  rw [HT.lexLt_cons, if_neg (by omega)]
  exact decide_eq_true h
theorem line_cn (n : Nat) : Cn (Lf (lineT n)) (lineT n).reverse := by
  refine ⟨fall_rev ?_, fun a ha => ?_, fun φ => Lf_perm (List.reverse_perm _) φ⟩
  · unfold lineT
    rw [List.pairwise_map]
    exact (List.pairwise_lt_range (n := n)).imp fun {a b} z => lex1 (by omega)
  · obtain ⟨k, _, rfl⟩ := List.mem_map.mp (List.mem_reverse.mp ha)
    exact (by decide : (1 : Int) ≠ 0)
theorem line_on (n : Nat) : On (iv 1 n) (lineT (n + 1)).reverse := by
  refine ⟨(line_pos _).rev, fun p => ?_⟩
  rw [keys_rev, mem_keys, mem_iv]
  constructor
  · rintro ⟨a, ha, rfl⟩
    obtain ⟨k, hk, rfl⟩ := List.mem_map.mp ha
    exact ⟨k, Nat.le_of_lt_succ (List.mem_range.mp hk), by rw [Int.one_mul]⟩
  · rintro ⟨k, hk, rfl⟩
    exact ⟨_, List.mem_map.mpr ⟨k, List.mem_range.mpr (by omega), rfl⟩, by rw [Int.one_mul]⟩
def Ipow (d : Int) (m : Nat) (i : Nat) (r : List Tm) : Prop := On (iv d (m * i)) r ∧ Sized 1 (4000 ^ i) r ∧ r.length = m * i + 1
theorem raise_0 {d : Int} (hd : 0 < d) {m : Nat} : ∀ r, Cn (Lf [(List.replicate 1 0, 1)]) r → Sized 1 1 r → r.length ≤ 1 → Ipow d m 0 r := by
  intro r cn z hl
  have hp : Psv [((List.replicate 1 0 : List Int), (1 : Int))] := fun a ha => by rw [List.mem_singleton.mp ha]; exact (by decide : (0 : Int) < 1)
  have km : ∀ p, p ∈ iv d (m * 0) ↔ p ∈ keysOf [((List.replicate 1 0 : List Int), (1 : Int))] := fun p => by
    rw [mem_iv, Nat.mul_zero]
    unfold keysOf
    rw [List.map_cons, List.map_nil, List.mem_singleton]
    constructor
    · rintro ⟨k, hk, rfl⟩
      have : k = 0 := by omega
      subst this
      show [d * (0 : Int)] = [0]
      rw [Int.mul_zero]
    · rintro rfl
      refine ⟨0, Nat.le_refl _, ?_⟩
      show [(0 : Int)] = [d * (0 : Int)]
      rw [Int.mul_zero]
  refine ⟨On.of hp cn fun p => (km p).symm, z, ?_⟩
  rw [cn.len_eq hp (iv_nd hd _) km, iv_len]
theorem raise_step {CG : Addr} {H : Hp} {E : XK} {d : Int} (hd : 0 < d) {m j : Nat} {x : List Tm} (hx : On (iv d m) x) (lx : x.length = m + 1) (hj : j ≤ 50) (hb : (m * j + 1) * (m + 1) ≤ 4000) (h4 : m * j + 1 ≤ 400) :
    ∀ i r, i < j → Ipow d m i r → Sized 1 (4000 ^ i) r ∧ 4000 ^ i < 2 ^ 1000 ∧ r.length * x.length ≤ 4000 ∧ (∀ r', Cn (lmul (Lf r) (Lf x)) r' → Sized 1 (r.length * x.length * (4000 ^ i * 1)) r' → r'.length ≤ 400 → Ipow d m (i + 1) r') ∧ ∀ r', Cn (lmul (Lf r) (Lf x)) r' → 400 < r'.length → Gr CG H E := by
  rintro i r hi ⟨h1, h2, h3⟩
  have mi : m * (i + 1) ≤ m * j := Nat.mul_le_mul_left _ hi
  have e1 : m * (i + 1) = m * i + m := Nat.mul_succ m i
  have hl : r.length * x.length ≤ 4000 := by
    rw [h3, lx]
    exact Nat.le_trans (Nat.mul_le_mul_right _ (by omega)) hb
  refine ⟨h2, Nat.lt_of_le_of_lt (Nat.pow_le_pow_right (by decide) (show i ≤ 50 by omega)) (by decide), hl, fun r' cn z _ => ?_, fun r' cn hw => ?_⟩
  · obtain ⟨o, l⟩ := h1.mul hd hx cn
    rw [← e1] at o l
    refine ⟨o, z.mono ?_, l⟩
    rw [Nat.mul_one, Nat.pow_succ, Nat.mul_comm (4000 ^ i)]
    exact Nat.mul_le_mul_right _ hl
  · have l := (h1.mul hd hx cn).2
    omega
/-! ### both rows -/
theorem plus_len {h w : Nat} {r : List Tm} (cn : Cn (fun φ => Lf (rowT h).reverse φ + 1 * Lf (colT w).reverse φ) r) : r.length ≤ h + w := by
  have pT : Psv ((rowT h).reverse ++ (colT w).reverse) := fun a ha => (List.mem_append.mp ha).elim ((row_pos h).rev a) ((col_pos w).rev a)
  have cx' : Cn (Lf ((rowT h).reverse ++ (colT w).reverse)) r := ⟨cn.fall, cn.nz, fun φ => by rw [cn.lf, Lf_append]; omega⟩
  have := nodup_len (l := keysOf ((rowT h).reverse ++ (colT w).reverse)) cx'.fall.nd fun p hp => (cx'.key pT p).mp hp
  unfold keysOf at this
  rw [List.length_map, List.length_map, List.length_append, List.length_reverse, List.length_reverse, row_len, col_len] at this
  exact this
def Isq (x : List Tm) : Nat → List Tm → Prop
  | 0, r => Cn (Lf [(List.replicate 2 0, 1)]) r ∧ Sized 2 1 r ∧ r.length ≤ 1
  | 1, r => r = x
  | _ + 2, _ => False
theorem sq_step {CG : Addr} {H : Hp} {E : XK} {h w : Nat} {x : List Tm} (h2 : 2 ≤ h) (hpq : h * w = 400) (h90 : h + w ≤ 90) (hsq : (h + w) * (h + w) ≤ 4000) (cx : Cn (fun φ => Lf (rowT h).reverse φ + 1 * Lf (colT w).reverse φ) x) (zx : Sized 2 90 x) (q : Gr CG H E) :
    ∀ i r, i < 9 → Isq x i r → Sized 2 90 r ∧ 90 < 2 ^ 1000 ∧ r.length * x.length ≤ 4000 ∧ (∀ r', Cn (lmul (Lf r) (Lf x)) r' → Sized 2 (r.length * x.length * (90 * 90)) r' → r'.length ≤ 400 → Isq x (i + 1) r') ∧ ∀ r', Cn (lmul (Lf r) (Lf x)) r' → 400 < r'.length → Gr CG H E
  | 0, r, _, ⟨h1, h3, h4⟩ => by
    have lx := plus_len cx
    refine ⟨h3.mono (by decide), by decide, Nat.le_trans (Nat.mul_le_mul h4 lx) (by omega), fun r' cn _ _ => ?_, fun r' _ _ => q⟩
    exact one_mul_cn zx ⟨cx.fall, cx.nz⟩ h1 cn
  | 1, r, _, e => by
    have e : r = x := e
    subst e
    have lx := plus_len cx
    refine ⟨zx, by decide, Nat.le_trans (Nat.mul_le_mul lx lx) hsq, fun r' cn _ hl => ?_, fun r' _ _ => q⟩
    have := square_len h2 cx cn
    omega
  | _ + 2, _, _, z => z.elim
end Bw
set_option Elab.async false
set_option linter.all false
set_option maxRecDepth 100000
set_option maxHeartbeats 0
namespace Bw
open PySem PySem.Spec PyProof.Rows L2 LamX
section
variable {P : Program} {w : World} {K : PySem.W.Frag} {mg : Str → Option Value} {base : Heap} {C CG CB fG : Addr}
abbrev s_law : Stmt := topS 33
abbrev n_law : List Str := ["_law_script", "_law_feed_here", "_law_far", "_law_full", "_law_found", "_law_one", "_law_words", "_law_high", "_law_wide", "_law_rows", "_law_columns", "_law_more", "_law_ten", "_law_thirty", "_law_two", "_law_k"]
theorem sc_law : FnScope n_law ["_law_script"] (defScope s_law) := ⟨rfl, rfl, rfl, by decide +kernel, rfl, by decide +kernel, by decide +kernel⟩
def spLaw (K : PySem.W.Frag) (Pt : Addr) : Sp := fun vs H Q _ => ∃ (a : Addr) (ns : List Int), vs = [.ref a] ∧ SqL K H a (ns.map V.int) ∧ ns.length ≤ 63 ∧ H Pt = some (.tbl #[]) ∧ ∀ H', Q (.bl true) H'
theorem ok_law {f fl gW cc Pt : Addr} {fdl fdW : FuncData} {oc kV doc pm ct : Value} {od an : Option Addr} {osl : Array (Option Value)} (lk : K.lookup f = some ⟨oc, od, .func (PySem.W.fnOf "law" "law" (defArgs s_law) (defBody s_law) (defScope s_law) .none kV doc pm an (.ref cc) ct), osl⟩) (hcd : PySem.W.codeIn K (.ref cc) "law" = true) (T : Tx mg) (S : SumC K mg C) (TG : ErrC K mg "Great" CG fG CB)
    (c_law_feed : Cal P w K mg base CX0 1 "_law_feed" ["_law_script"] (spFeed K)) (c_law_draw : Cal P w K mg base CX0 1 "_law_draw" ["_law_feed_here", "_law_many"] spDraw)
    (c_law_pick : Cal P w K mg base CX0 2 "_law_pick" ["_law_feed_here", "_law_row"] spPick) (c_law_shuffled : Cal P w K mg base CX0 2 "_law_shuffled" ["_law_feed_here", "_law_row"] spShuf)
    (M : MakX P w K mg base 4 C ["self", "width", "terms"] (spInit K C CG)) (m_terms : MetS P w K mg base 1 C "terms" ["self"] (spTermsM C))
    (m_plus : MetX P w K mg base 6 C "plus" ["self", "other"] (spPlus 1 C CG)) (m_minus : MetX P w K mg base 6 C "minus" ["self", "other"] (spPlus (-1) C CG)) (m_times : MetX P w K mg base 6 C "times" ["self", "other"] (spTimes C CG)) (m_raised : MetX P w K mg base 7 C "raised" ["self", "many"] (spRaised C CG))
    (hsl : PySem.W.findIn K (.ref C) "__len__" = some (some (.ref fl))) (hfl : PySem.W.isFn K (.ref fl) = true) (Fl : FnOk P w K mg base CX0 1 fl fdl ["self"] (spLenM C)) (bl : Binds K fdl ["self"] [])
    (WB : WordB K mg base gW CB cc Pt fdW) : FnOk P w K mg base CX0 10 f (PySem.W.fnOf "law" "law" (defArgs s_law) (defBody s_law) (defScope s_law) .none kV doc pm an (.ref cc) ct) ["_law_script"] (spLaw K Pt) := by
  refine fn_of lk hcd sc_law (fun vs H Q E h => ?_) (fun A outer s H vs Q E hr h => ?_)
  · obtain ⟨a, ns, rfl, _⟩ := h
    rfl
  · obtain ⟨a, ns, rfl, hS, hlen, hPt, q⟩ := h
    suffices hh : ∃ t, PSs (cxOf CX0 P w K mg base n_law "law" (defScope s_law) f (.ref cc) A outer s H E).nox (defBody s_law) t ∧ t { nx := fun _ H' => Q .non H', rt := Q } (L2.start n_law [.ref a]) H by
      obtain ⟨t, h1, h2⟩ := hh
      exact ⟨t, h1.nox, h2⟩
    have hu := hr.units
    have hr1 := hr.mono (show 1 ≤ 9 by decide)
    have hr2 := hr.mono (show 2 ≤ 9 by decide)
    have hr5 := hr.mono (show 5 ≤ 9 by decide)
    have hr6 := hr.mono (show 6 ≤ 9 by decide)
    have hr7 := hr.mono (show 7 ≤ 9 by decide)
    refine ⟨_, (pss_cons (ps_set (i := 1) sc_law.nd rfl (.inl rfl) (pe_cal c_law_feed hr1 (by rfl) (pa_cons (pv 0) pa_nil)))
  (pss_cons (ps_set (i := 2) sc_law.nd rfl (.inr rfl) (pe_op op_sub (pe_cal c_law_draw hr1 (by rfl) (pa_cons (pv 1) (pa_cons pe_int pa_nil))) pe_int))
  (pss_cons (ps_set (i := 3) sc_law.nd rfl (.inr rfl) (pe_lc (own := [("_law_k", 15)]) (by rfl) sc_law.nd (pi_range1 (by rfl) T.range (pa_cons pe_int pa_nil)) (blkOk_by (own := [("_law_k", 15)]) (N := n_law) (sc := defScope s_law) (by decide +kernel)) (fun _ _ _ _ _ => (pg_name (i := 15) sc_law.nd rfl (.inl rfl))) (fun _ _ _ _ _ => pts_nil) (fun _ _ _ _ _ => (pe_tup (pa_cons (pe_tup (pa_cons (pe_op op_add (pv 2) (pv 15)) (pa_cons (pv 15) pa_nil))) (pa_cons (pe_op op_add pe_int (pe_op op_mod (pv 15) pe_int)) pa_nil))))))
  (pss_cons (ps_set (i := 4) sc_law.nd rfl (.inr rfl) (pe_mkX M hr5 (by rfl) passL (pa_cons pe_int (pa_cons (pe_op op_cat (pe_cal c_law_shuffled hr2 (by rfl) (pa_cons (pv 1) (pa_cons (pe_slice (l_list (K := K)) (pv 3) po_none (po_some pe_int)) pa_nil))) (pe_slice (l_list (K := K)) (pv 3) (po_some pe_int) po_none)) pa_nil))))
  (pss_cons (ps_if (PW.pt (pw_or (pt_cmpR op_ne (pe_callB (c_lenOwn hsl hfl Fl hr2 bl pass0) (by rfl) T.len PySem.boot_len (pa_cons (pv 4) pa_nil)) (pe_gint (by rfl) T.WIDE) (nomark _)) (pw_or (pt_cmpR op_ne (pe_gint (by rfl) T.WIDE) pe_int (nomark _)) (pw_or1 (pt_cmpR (o_neD (K := K) hu) (pe_mtS0 m_terms hr1 (pv 4)) (pe_revL (pv 3)) (nomark _))))))
    (pss_one (ps_ret pe_bl))
    pss_nil)
  (pss_cons (ps_set (i := 5) sc_law.nd rfl (.inr rfl) (pe_mkX M hr5 (by rfl) passL (pa_cons pe_int (pa_cons (pe_lst (pa_cons (pe_tup (pa_cons (pe_tup (pa_cons (pe_op op_sub (pv 2) pe_int) (pa_cons (pe_cal c_law_draw hr1 (by rfl) (pa_cons (pv 1) (pa_cons pe_int pa_nil))) pa_nil))) (pa_cons pe_int pa_nil))) pa_nil)) pa_nil))))
  (pss_cons (ps_set (i := 6) sc_law.nd rfl (.inl rfl) (pe_lst (pa_cons (pe_wd WB rfl hr (by rfl) (lamS_by (sc := defScope s_law) (by decide +kernel)) (fun A outer s H E f c' hr' => pe_mtX m_plus (hr'.mono (by decide)) (passE rfl rfl rfl rfl) (pv 4) (pa_cons (pv 5) pa_nil))) (pa_cons (pe_wd WB rfl hr (by rfl) (lamS_by (sc := defScope s_law) (by decide +kernel)) (fun A outer s H E f c' hr' => pe_mtX m_minus (hr'.mono (by decide)) (passE rfl rfl rfl rfl) (pv 4) (pa_cons (pv 5) pa_nil))) pa_nil))))
  (pss_cons (ps_expr (pe_bm PySem.F.plainAttrs_list PySem.F.slot_list_append PySem.F.type_list_append mt_append (pv 6) (pa_cons (pe_wd WB rfl hr (by rfl) (lamS_by (sc := defScope s_law) (by decide +kernel)) (fun A outer s H E f c' hr' => pe_mkX M (hr'.mono (by decide)) (by rfl) (passE rfl rfl rfl rfl) (pa_cons pe_int (pa_cons (pe_op op_cat (pv 3) (pe_lst (pa_cons (pe_tup (pa_cons (pe_tup (pa_cons pe_int (pa_cons pe_int pa_nil))) (pa_cons pe_int pa_nil))) pa_nil))) pa_nil)))) pa_nil)))
  (pss_cons (ps_if (PW.pt (pw_or (pt_cmpR (o_neD (K := K) hu) (pv 6) (pe_op op_rep (pe_lst (pa_cons pe_str pa_nil)) pe_int) (nomark _)) (pw_or1 (pt_cmpR op_ne (pe_callB (c_lenOwn hsl hfl Fl hr2 bl pass0) (by rfl) T.len PySem.boot_len (pa_cons (pe_mtX m_plus hr6 passL (pv 4) (pa_cons (pe_mkX M hr5 (by rfl) passL (pa_cons pe_int (pa_cons (pe_lst (pa_cons (pe_tup (pa_cons (pe_tup (pa_cons (pv 2) (pa_cons pe_int pa_nil))) (pa_cons (pe_un un_neg pe_int) pa_nil))) pa_nil)) pa_nil))) pa_nil)) pa_nil)) pe_int (nomark _)))))
    (pss_one (ps_ret pe_bl))
    pss_nil)
  (pss_cons (ps_set (i := 7) sc_law.nd rfl (.inl rfl) (pe_cal c_law_pick hr2 (by rfl) (pa_cons (pv 1) (pa_cons (pe_lst (pa_cons pe_int (pa_cons pe_int (pa_cons pe_int (pa_cons pe_int (pa_cons pe_int (pa_cons pe_int pa_nil))))))) pa_nil))))
  (pss_cons (ps_set (i := 8) sc_law.nd rfl (.inl rfl) (pe_op op_fdiv pe_int (pv 7)))
  (pss_cons (ps_set (i := 9) sc_law.nd rfl (.inr rfl) (pe_mkX M hr5 (by rfl) passL (pa_cons pe_int (pa_cons (pe_lc (own := [("_law_k", 15)]) (by rfl) sc_law.nd (pi_range1 (by rfl) T.range (pa_cons (pv 7) pa_nil)) (blkOk_by (own := [("_law_k", 15)]) (N := n_law) (sc := defScope s_law) (by decide +kernel)) (fun _ _ _ _ _ => (pg_name (i := 15) sc_law.nd rfl (.inl rfl))) (fun _ _ _ _ _ => pts_nil) (fun _ _ _ _ _ => (pe_tup (pa_cons (pe_tup (pa_cons (pv 15) (pa_cons pe_int pa_nil))) (pa_cons pe_int pa_nil))))) pa_nil))))
  (pss_cons (ps_set (i := 10) sc_law.nd rfl (.inr rfl) (pe_mkX M hr5 (by rfl) passL (pa_cons pe_int (pa_cons (pe_lc (own := [("_law_k", 15)]) (by rfl) sc_law.nd (pi_range1 (by rfl) T.range (pa_cons (pv 8) pa_nil)) (blkOk_by (own := [("_law_k", 15)]) (N := n_law) (sc := defScope s_law) (by decide +kernel)) (fun _ _ _ _ _ => (pg_name (i := 15) sc_law.nd rfl (.inl rfl))) (fun _ _ _ _ _ => pts_nil) (fun _ _ _ _ _ => (pe_tup (pa_cons (pe_tup (pa_cons pe_int (pa_cons (pv 15) pa_nil))) (pa_cons pe_int pa_nil))))) pa_nil))))
  (pss_cons (ps_set (i := 11) sc_law.nd rfl (.inr rfl) (pe_mkX M hr5 (by rfl) passL (pa_cons pe_int (pa_cons (pe_lc (own := [("_law_k", 15)]) (by rfl) sc_law.nd (pi_range1 (by rfl) T.range (pa_cons (pe_op op_add (pv 8) pe_int) pa_nil)) (blkOk_by (own := [("_law_k", 15)]) (N := n_law) (sc := defScope s_law) (by decide +kernel)) (fun _ _ _ _ _ => (pg_name (i := 15) sc_law.nd rfl (.inl rfl))) (fun _ _ _ _ _ => pts_nil) (fun _ _ _ _ _ => (pe_tup (pa_cons (pe_tup (pa_cons pe_int (pa_cons (pv 15) pa_nil))) (pa_cons pe_int pa_nil))))) pa_nil))))
  (pss_cons (ps_if (PW.pt (pw_or (pt_cmpR op_ne (pe_callB (c_lenOwn hsl hfl Fl hr2 bl pass0) (by rfl) T.len PySem.boot_len (pa_cons (pe_mtX m_times hr6 passL (pv 9) (pa_cons (pv 10) pa_nil)) pa_nil)) pe_int (nomark _)) (pw_or1 (pt_cmpR op_ne (pe_wd WB rfl hr (by rfl) (lamS_by (sc := defScope s_law) (by decide +kernel)) (fun A outer s H E f c' hr' => pe_mtX m_times (hr'.mono (by decide)) (passE rfl rfl rfl rfl) (pv 9) (pa_cons (pv 11) pa_nil))) pe_str (nomark _)))))
    (pss_one (ps_ret pe_bl))
    pss_nil)
  (pss_cons (ps_par (i := 12) (j := 13) (by rfl) sc_law.nd rfl rfl (by decide) rfl rfl (pa_cons (pe_mkX M hr5 (by rfl) passL (pa_cons pe_int (pa_cons (pe_lc (own := [("_law_k", 15)]) (by rfl) sc_law.nd (pi_range1 (by rfl) T.range (pa_cons pe_int pa_nil)) (blkOk_by (own := [("_law_k", 15)]) (N := n_law) (sc := defScope s_law) (by decide +kernel)) (fun _ _ _ _ _ => (pg_name (i := 15) sc_law.nd rfl (.inl rfl))) (fun _ _ _ _ _ => pts_nil) (fun _ _ _ _ _ => (pe_tup (pa_cons (pe_tup (pa_cons (pv 15) pa_nil)) (pa_cons pe_int pa_nil))))) pa_nil))) (pa_cons (pe_mkX M hr5 (by rfl) passL (pa_cons pe_int (pa_cons (pe_lc (own := [("_law_k", 15)]) (by rfl) sc_law.nd (pi_range1 (by rfl) T.range (pa_cons pe_int pa_nil)) (blkOk_by (own := [("_law_k", 15)]) (N := n_law) (sc := defScope s_law) (by decide +kernel)) (fun _ _ _ _ _ => (pg_name (i := 15) sc_law.nd rfl (.inl rfl))) (fun _ _ _ _ _ => pts_nil) (fun _ _ _ _ _ => (pe_tup (pa_cons (pe_tup (pa_cons (pv 15) pa_nil)) (pa_cons pe_int pa_nil))))) pa_nil))) pa_nil)) (by rfl))
  (pss_cons (ps_if (PW.pt (pw_or (pt_cmpR op_ne (pe_callB (c_lenOwn hsl hfl Fl hr2 bl pass0) (by rfl) T.len PySem.boot_len (pa_cons (pe_mtX m_raised hr7 passL (pv 12) (pa_cons pe_int pa_nil)) pa_nil)) pe_int (nomark _)) (pw_or1 (pt_cmpR op_ne (pe_callB (c_lenOwn hsl hfl Fl hr2 bl pass0) (by rfl) T.len PySem.boot_len (pa_cons (pe_mtX m_times hr6 passL (pv 13) (pa_cons (pv 13) pa_nil)) pa_nil)) pe_int (nomark _)))))
    (pss_one (ps_ret pe_bl))
    pss_nil)
  (pss_cons (ps_set (i := 14) sc_law.nd rfl (.inl rfl) (pe_mkX M hr5 (by rfl) passL (pa_cons pe_int (pa_cons (pe_lst (pa_cons (pe_tup (pa_cons (pe_tup (pa_cons pe_int pa_nil)) (pa_cons pe_int pa_nil))) (pa_cons (pe_tup (pa_cons (pe_tup (pa_cons (pe_op op_add pe_int (pe_cal c_law_draw hr1 (by rfl) (pa_cons (pv 1) (pa_cons pe_int pa_nil)))) pa_nil)) (pa_cons pe_int pa_nil))) pa_nil))) pa_nil))))
  (pss_cons (ps_if (PW.pt (pw_or (pt_cmpR op_ne (pe_callB (c_lenOwn hsl hfl Fl hr2 bl pass0) (by rfl) T.len PySem.boot_len (pa_cons (pe_mtX m_raised hr7 passL (pv 14) (pa_cons pe_int pa_nil)) pa_nil)) pe_int (nomark _)) (pw_or1 (pt_cmpR op_ne (pe_wd WB rfl hr (by rfl) (lamS_by (sc := defScope s_law) (by decide +kernel)) (fun A outer s H E f c' hr' => pe_mtX m_raised hr' (passE rfl rfl rfl rfl) (pe_mtX m_plus (hr'.mono (by decide)) (passE rfl rfl rfl rfl) (pv 9) (pa_cons (pv 10) pa_nil)) (pa_cons pe_int pa_nil))) pe_str (nomark _)))))
    (pss_one (ps_ret pe_bl))
    pss_nil)
  (pss_one (ps_ret (pe_and (pe_cmpR op_eq (pe_callB (c_lenOwn hsl hfl Fl hr2 bl pass0) (by rfl) T.len PySem.boot_len (pa_cons (pv 4) pa_nil)) pe_int (nomark _)) (pe_and (pe_cmpR op_eq (pe_callB (c_lenOwn hsl hfl Fl hr2 bl pass0) (by rfl) T.len PySem.boot_len (pa_cons (pv 9) pa_nil)) (pv 7) (nomark _)) (pe_one (pe_cmpR op_eq (pe_callB (c_lenOwn hsl hfl Fl hr2 bl pass0) (by rfl) T.len PySem.boot_len (pa_cons (pv 11) pa_nil)) (pe_op op_add (pv 8) pe_int) (nomark _)))))))))))))))))))))))))), ?_⟩
    -- feed, far
    refine ⟨.ref a, rfl, a, ns, rfl, hS, fun f l H1 s1 nf hf1 => ?_⟩
    refine ⟨.ref f, rfl, f, l, 300, rfl, hf1, by decide, by decide, fun u H2 u0 u1 sb2 hf2 => ⟨_, _, rfl, rfl, ?_⟩⟩
    have hP2 : H2 Pt = some (.tbl #[]) := sb2 _ _ (hf1.neO (s1 _ _ hPt) (fun xs z => by cases z)) (s1 _ _ hPt)
    clear hf1 sb2 hS s1 hlen hPt
    have far0 : u - 900 + (400 : Nat) ≤ 1 := by omega
    clear u0 u1
    -- full
    refine ⟨400, rfl, by decide, by decide, fun R eR0 => ?_⟩
    refine lc_range (fun j H' => ∃ ls : List Addr, H' R = some (.lst (ls.map V.ref)) ∧ TermsAt H' ls (fullT (u - 900) j) ∧ Same H2 H') ⟨[], upd_same, .nil, same_upd eR0⟩ ?_ ?_
    · rintro j H3 hj ⟨ls, e3, hT3, s3⟩
      have hj : j < 400 := hj
      have e0 : (0 : Int) + (j : Int) = (j : Int) := by omega
      rw [e0]
      refine ⟨rfl, .int (u - 900), rfl, .int j, rfl, _, _, rfl, rfl, .int j, rfl, by show 2 ≤ sizeLine; decide, fun qq q0 => ⟨.int j, rfl, j, 5, rfl, rfl, (by decide : (0 : Int) < 5), _, _, rfl, rfl, by show 2 ≤ sizeLine; decide, fun t t0 => ?_⟩⟩
      exact tm_step ([u - 900 + (j : Int), (j : Int)], 1 + (j : Int) % 5) eR0 e3 hT3 s3 (by rw [full_len]; omega) (full_succ _ _) q0 t0
    rintro H3 ⟨ts, eR, hT3, s3⟩
    have hT3 : TermsAt H3 ts (fullT (u - 900) 400) := hT3
    have hf3 := hf2.same s3
    have hP3 := s3 _ _ hP2
    have nR := hf2.ne eR0
    clear s3 hf2 hP2 eR0
    -- found
    refine ⟨.ref f, rfl, .ref R, rfl, 40, rfl, R, _, rfl, SqL.of eR, fun R2 eR2 => ?_⟩
    have sR2 := same_upd (o := .lst (cutV (ts.map V.ref) none (some 40))) eR2
    have lts := hT3.1
    rw [full_len] at lts
    refine ⟨f, l, R2, _, rfl, hf3.same sR2, upd_same, hf3.ne eR2, by rw [cut40, List.length_take, List.length_map]; omega, fun R3 ys H4 pm sb4 hf4 eR30 eR3 => ?_⟩
    rw [cut40, ← List.map_take] at pm
    obtain ⟨zs, rfl, pz⟩ := refs_perm pm
    obtain ⟨y, py, hTy⟩ := (hT3.take 40).perm pz
    have hTy := (hTy.same sR2).but sb4 (hf3.same sR2)
    have eR4 := sb4 _ _ nR (sR2 _ _ eR)
    have hT4 := (hT3.same sR2).but sb4 (hf3.same sR2)
    have hP4 := sb4 _ _ ((hf3.same sR2).neO (sR2 _ _ hP3) (fun xs z => by cases z)) (sR2 _ _ hP3)
    have lzs := hTy.1
    have ly := py.length_eq
    rw [List.length_take, full_len] at ly
    clear sb4 sR2 eR2 hf3 hP3 hT3 eR eR30 pm pz
    refine ⟨.ref R, rfl, 40, rfl, R, _, rfl, SqL.of eR4, fun R5 eR5 => ?_⟩
    have sR5 := same_upd (o := .lst (cutV (ts.map V.ref) (some 40) none)) eR5
    refine ⟨R3, R5, _, _, rfl, rfl, sR5 _ _ eR3, upd_same, by rw [from40, List.length_map, List.length_drop, List.length_map]; exact Nat.le_of_lt (small1000 (by omega)), fun R6 eR6 => ?_⟩
    have eR6' : (upd (upd H4 R5 (.lst (cutV (ts.map V.ref) (some 40) none))) R6 (.lst (zs.map V.ref ++ cutV (ts.map V.ref) (some 40) none))) R6 = some (.lst ((zs ++ ts.drop 40).map V.ref)) := by
      rw [upd_same, from40, List.map_append, List.map_drop]
    have s6 := sR5.trans (same_upd (o := .lst (zs.map V.ref ++ cutV (ts.map V.ref) (some 40) none)) eR6)
    have pf : (y ++ (fullT (u - 900) 400).drop 40).Perm (fullT (u - 900) 400) := by
      have := py.append_right ((fullT (u - 900) 400).drop 40)
      rw [List.take_append_drop] at this
      exact this
    intro aF dF0 x0 dx0 nx
    refine mk_ok (n := 2) (m := 5) (c := (fullT (u - 900) 400).reverse) rfl eR6' ((hTy.append (hT4.drop 40)).same s6) (by rw [pf.length_eq, full_len]; decide) ((full_size _ _).perm pf) (full_cn pf) (by rw [List.length_reverse, full_len]; decide) x0 dx0 nx fun H5 s5 hF => ⟨rfl, ?_⟩
    have s5 := s6.trans s5
    have W : Wl C f l R aF Pt ts (u - 900) H5 := ⟨hf4.same s5, nR, s5 _ _ eR4, hT4.same s5, hF, fun p hp => by rw [List.mem_singleton.mp hp]; exact TabS.nil (s5 _ _ hP4)⟩
    have cr : ((fullT (u - 900) 400).reverse).length = 400 := by rw [List.length_reverse, full_len]
    clear s5 s6 hf4 eR4 hT4 hF hP4 sR5 eR5 eR6 eR6' eR3 hTy py pf lzs ly nR
    -- as many, and just these
    obtain ⟨dF, pF, uF, k1, k2, k3⟩ := id W.sF
    refine ⟨.ref aF, rfl, aF, dF, _, rfl, k1, aF, 2, _, rfl, W.sF, 400, by rw [cr]; rfl, by decide, by decide, rfl, _, rfl, iteNS rfl ⟨rfl, _, rfl, iteNS rfl ?_⟩⟩
    refine ⟨.ref aF, rfl, aF, dF, _, rfl, k1, rfl, aF, 2, _, rfl, W.sF, fun L us H6 s6 L0 eL hTL => ?_⟩
    refine ⟨.ref R, rfl, R, _, rfl, SqL.of (s6 _ _ W.eR), fun Rr eRr => ?_⟩
    have sRr := same_upd (o := .lst (ts.map V.ref).reverse) eRr
    have eRr' : (upd H6 Rr (.lst (ts.map V.ref).reverse)) Rr = some (.lst (ts.reverse.map V.ref)) := by
      rw [upd_same, List.map_reverse]
    refine ⟨.list ((fullT (u - 900) 400).reverse.map tmD), .list ((fullT (u - 900) 400).reverse.map tmD), .lst (SqL.of (sRr _ _ eL)) (SumAt.dp (C := C) (hTL.same sRr)), .lst (SqL.of eRr') (SumAt.dp (C := C) (((W.hT.same s6).same sRr).rev)), terms_shaped _, terms_shaped _, ?_⟩
    rw [terms_eqv]
    refine ⟨_, rfl, iteF ?_⟩
    have W := W.same (s6.trans sRr)
    generalize (upd H6 Rr (.lst (ts.map V.ref).reverse)) = H6' at W
    clear k1 k2 k3 eRr' sRr eRr hTL eL L0 s6
    -- one more
    refine ⟨.int (u - 900), rfl, _, _, rfl, rfl, .ref f, rfl, f, l, 9, rfl, W.hf, by decide, by decide, fun v H7 v0 v1 sb7 hf7 => ⟨by show 2 ≤ sizeLine; decide, fun qq q0 => ⟨by show 2 ≤ sizeLine; decide, fun t t0 => ⟨by show 1 ≤ sizeLine; decide, fun L L0 => ?_⟩⟩⟩⟩
    have W := W.but sb7 hf7
    have sq := same_upd (o := .tup [.int (u - 900 - 1), .int v]) q0
    have st := same_upd (o := .tup [.ref qq, .int 1]) t0
    have sL := same_upd (o := .lst [.ref t]) L0
    have hTO : TermsAt _ [t] [([u - 900 - 1, v], 1)] := TermsAt.same sL (TermsAt.one upd_same (st _ _ upd_same))
    intro aO dO x0 dx0 nx
    refine mk_ok (n := 2) (m := 5) (c := [([u - 900 - 1, v], 1)]) rfl (ts := [t]) upd_same hTO (by show 1 ≤ 4000; decide) (one_sized (p := [u - 900 - 1, v]) (by decide)) (one_cn (by decide)) (by show 1 ≤ 400; decide) x0 dx0 nx fun H8 s8 sO => ⟨rfl, ?_⟩
    have W := W.same (((sq.trans st).trans sL).trans s8)
    clear x0 dx0 nx s8 sL st sq hTO L0 t0 q0 sb7 hf7 v0 v1
    -- two words
    refine ⟨W.tb, fun H9 x9 tb9 => ?_⟩
    have W := W.ext x9 tb9
    have sO := sO.ext x9
    obtain ⟨dF, pF, uF, k1, k2, k3⟩ := id W.sF
    refine ⟨.ref aF, rfl, aF, dF, _, rfl, k1, rfl, .ref aO, rfl, aF, aO, 2, 5, _, _, rfl, W.sF, sO, (full_size _ _).rev, one_sized (p := [u - 900 - 1, v]) (by decide), by omega, by show 1 ≤ 400; decide, fun c r H' s hS cn z hl => ?_, fun r cn hw d H10 s10 hd => ⟨.str "great", TG.at hd, ?_⟩⟩
    · have e := cn.uniq (below_cn (far := u - 900) (d := v) (c := 1) (n := 400) (by decide) fun φ => by rw [Lf_cons, Lf_nil]; show _ + 1 * (1 * φ [u - 900 - 1, v] + 0) = _; omega)
      rw [e, List.length_append, cr] at hl
      exact absurd hl (by show ¬ 400 + 1 ≤ 400; decide)
    have W := W.same s10
    have sO := sO.same s10
    clear k1 k2 k3 hd s10 cn hw x9 tb9
    refine ⟨W.tb, fun H11 x11 tb11 => ?_⟩
    have W := W.ext x11 tb11
    have sO := sO.ext x11
    obtain ⟨dF, pF, uF, k1, k2, k3⟩ := id W.sF
    refine ⟨.ref aF, rfl, aF, dF, _, rfl, k1, rfl, .ref aO, rfl, aF, aO, 2, 5, _, _, rfl, W.sF, sO, (full_size _ _).rev, one_sized (p := [u - 900 - 1, v]) (by decide), by omega, by show 1 ≤ 400; decide, fun c r H' s hS cn z hl => ?_, fun r cn hw d H12 s12 hd => ⟨.str "great", TG.at hd, ?_⟩⟩
    · have e := cn.uniq (below_cn (far := u - 900) (d := v) (c := -1) (n := 400) (by decide) fun φ => by rw [Lf_cons, Lf_nil]; show _ + -1 * (1 * φ [u - 900 - 1, v] + 0) = _; omega)
      rw [e, List.length_append, cr] at hl
      exact absurd hl (by show ¬ 400 + 1 ≤ 400; decide)
    have W := W.same s12
    clear k1 k2 k3 hd s12 cn hw x11 tb11 sO
    refine ⟨by show 2 ≤ sizeLine; decide, fun lw elw => ?_⟩
    have slw := same_upd (o := .lst [.str "great", .str "great"]) elw
    have elw' : (upd H12 lw (.lst [.str "great", .str "great"])) lw = some (.lst [.str "great", .str "great"]) := upd_same
    have nlw := W.hf.ne elw
    have nlw2 := W.hf.ne2 elw
    have W := W.same slw
    generalize (upd H12 lw (.lst [.str "great", .str "great"])) = H13 at W elw'
    clear slw elw
    -- the third
    refine ⟨.ref lw, rfl, .inl ⟨rfl, _, SqL.of elw'⟩, W.tb, fun H14 x14 tb14 => ?_⟩
    have W := W.ext x14 tb14
    have elw := x14 _ _ elw' (fun ps z => by cases z)
    refine ⟨.ref R, rfl, by show 2 ≤ sizeLine; decide, fun qq q0 => ⟨by show 2 ≤ sizeLine; decide, fun t t0 => ⟨by show 1 ≤ sizeLine; decide, fun L L0 => ?_⟩⟩⟩
    have sq := same_upd (o := .tup [.int 1, .int 2]) q0
    have st := same_upd (o := .tup [.ref qq, .int 3]) t0
    have sL := same_upd (o := .lst [.ref t]) L0
    have s3 := (sq.trans st).trans sL
    refine ⟨R, L, _, _, rfl, rfl, s3 _ _ W.eR, upd_same, by rw [List.length_map]; exact Nat.le_of_lt (small1000 (by show ts.length + 1 ≤ 1000; omega)), fun L2 L20 => ?_⟩
    have sL2 := same_upd (o := .lst (ts.map V.ref ++ [.ref t])) L20
    have hTG : TermsAt _ [t] [([1, 2], 3)] := TermsAt.same sL (TermsAt.one upd_same (st _ _ upd_same))
    intro x dx x0 dx0 nx
    refine mk_great (n := 2) (m := 5) (ts := ts ++ [t]) (terms := fullT (u - 900) 400 ++ [([1, 2], 3)]) (c := ([1, 2], 3) :: (fullT (u - 900) 400).reverse) rfl (by rw [upd_same, List.map_append]; rfl) (((W.hT.same s3).append hTG).same sL2) (by rw [List.length_append, full_len]; decide) ((full_size _ _).append (one_sized (p := [1, 2]) (by decide))) (above_cn (by decide) far0 rfl) (by rw [List.length_cons, cr]; decide) x0 dx0 nx fun d H15 s15 hd => ⟨.str "great", TG.at hd, ?_⟩
    have s15 := (s3.trans sL2).trans s15
    have W := W.same s15
    have elw := s15 _ _ elw
    have W : Wm C f l aF Pt (u - 900) H15 := ⟨W.hf, W.sF, W.tb⟩
    clear x0 dx0 nx s15 hd hTG sL2 L20 s3 sL st sq L0 t0 q0 x14 tb14 elw' lts hT3 hTy
    refine ⟨lw, _, _, rfl, rfl, elw, by show 2 < sizeLine; decide, ?_⟩
    have W : Wm C f l aF Pt (u - 900) (upd H15 lw (.lst [.str "great", .str "great", .str "great"])) := ⟨W.hf.put nlw nlw2, W.sF.put elw, Tabs.put elw W.tb⟩
    have elw' : (upd H15 lw (.lst [.str "great", .str "great", .str "great"])) lw = some (.lst [.str "great", .str "great", .str "great"]) := upd_same
    -- three words
    refine ⟨.ref lw, rfl, by show 1 ≤ sizeLine; decide, fun la ela => ?_⟩
    have sla := same_upd (o := .lst [.str "great"]) ela
    refine ⟨la, 3, _, rfl, rfl, upd_same, by decide, by decide, by show 1 * 3 ≤ sizeLine; decide, fun lb elb => ?_⟩
    have slb := same_upd (o := .lst [.str "great", .str "great", .str "great"]) elb
    have dpl : ∀ {H : Hp}, DpAll K H [.str "great", .str "great", .str "great"] [.str "great", .str "great", .str "great"] := .cons (.str _) (.cons (.str _) (.cons (.str _) .nil))
    refine ⟨.list [.str "great", .str "great", .str "great"], .list [.str "great", .str "great", .str "great"], .lst (SqL.of (slb _ _ (sla _ _ elw'))) dpl, .lst (SqL.of upd_same) dpl, three_ok _ (by decide +kernel), three_ok _ (by decide +kernel), ?_⟩
    have eq3 : PyData.eqv (.list [.str "great", .str "great", .str "great"]) (.list [.str "great", .str "great", .str "great"]) = true := by simp [PyData.eqv, PyData.eqvAll]
    rw [eq3]
    refine ⟨_, rfl, iteF ?_⟩
    have W := (W.same sla).same slb
    clear elw elw' slb elb sla ela dpl eq3 nlw nlw2
    -- one less
    obtain ⟨dF, pF, uF, k1, k2, k3⟩ := id W.sF
    refine ⟨.ref aF, rfl, aF, dF, _, rfl, k1, rfl, .int (u - 900), rfl, by show 2 ≤ sizeLine; decide, fun qq q0 => ⟨1, rfl, by show 2 ≤ sizeLine; decide, fun t t0 => ⟨by show 1 ≤ sizeLine; decide, fun L L0 => ?_⟩⟩⟩
    have sq := same_upd (o := .tup [.int (u - 900), .int 0]) q0
    have st := same_upd (o := .tup [.ref qq, .int (-1)]) t0
    have sL := same_upd (o := .lst [.ref t]) L0
    have hTN : TermsAt _ [t] [([u - 900, 0], -1)] := TermsAt.same sL (TermsAt.one upd_same (st _ _ upd_same))
    intro aN dN x0 dx0 nx
    refine mk_ok (n := 2) (m := 5) (c := [([u - 900, 0], -1)]) rfl (ts := [t]) upd_same hTN (by show 1 ≤ 4000; decide) (one_sized (p := [u - 900, 0]) (by decide)) (one_cn (by decide)) (by show 1 ≤ 400; decide) x0 dx0 nx fun H17 s17 sN => ⟨rfl, ?_⟩
    have W := W.same (((sq.trans st).trans sL).trans s17)
    clear x0 dx0 nx s17 sL st sq hTN L0 t0 q0 k1 k2 k3
    have less : ∀ {r : List Tm}, Cn (fun φ => Lf (fullT (u - 900) 400).reverse φ + 1 * Lf [([u - 900, 0], -1)] φ) r → r.length = 399 := fun cn => less_len (n := 399) cn fun φ => by rw [Lf_cons, Lf_nil]; show Lf (fullT (u - 900) 400).reverse φ + 1 * (-1 * φ [u - 900, 0] + 0) = Lf (fullT (u - 900) 400).reverse φ + -1 * φ [u - 900, 0]; omega
    refine ⟨aF, aN, 2, 5, _, _, rfl, W.sF, sN, (full_size _ _).rev, one_sized (p := [u - 900, 0]) (by decide), by omega, by show 1 ≤ 400; decide, fun c r H18 s18 hS cn z hl => ?_, fun r cn hw => by have := less cn; omega⟩
    obtain ⟨dc, pc, uc, k1, k2, k3⟩ := id hS
    refine ⟨c, dc, _, rfl, k1, c, 2, _, rfl, hS, 399, by rw [less cn]; rfl, by decide, by decide, rfl, _, rfl, iteNS rfl ?_⟩
    have W := W.same s18
    clear k1 k2 k3 s18 hS cn z hl sN less
    -- high, wide
    refine ⟨.ref f, rfl, by show 6 ≤ sizeLine; decide, fun lp elp => ?_⟩
    have slp := same_upd (o := .lst sixV) elp
    refine ⟨f, l, lp, sixV, rfl, W.hf.same slp, upd_same, W.hf.ne elp, by decide, by decide, fun v H19 hv sb19 hf19 => ?_⟩
    have W := (W.same slp).but sb19 hf19
    clear slp elp sb19 hf19
    obtain ⟨h, wd, rfl, hwd, hpq, h8, h40, w10, w50, hsq⟩ := six_of hv
    refine ⟨.int h, rfl, 400, h, rfl, rfl, ⟨by omega, by omega⟩, ?_⟩
    -- rows
    refine ⟨.int h, rfl, h, rfl, by omega, by omega, fun D eD => ?_⟩
    refine lc_range (fun j H' => ∃ ls : List Addr, H' D = some (.lst (ls.map V.ref)) ∧ TermsAt H' ls (rowT j) ∧ Same H19 H') ⟨[], upd_same, .nil, same_upd eD⟩ ?_ ?_
    · rintro j H3 hj ⟨ls, e3, hT3, s3⟩
      have hj : j < h := by
        have : j < ((h : Nat) : Int).toNat := hj
        omega
      have e0 : (0 : Int) + (j : Int) = (j : Int) := by omega
      rw [e0]
      exact ⟨rfl, .int j, rfl, by show 2 ≤ sizeLine; decide, fun qq q0 => ⟨by show 2 ≤ sizeLine; decide, fun t t0 => tm_step ([(j : Int), 0], 1) eD e3 hT3 s3 (by rw [row_len]; omega) (row_succ j) q0 t0⟩⟩
    rintro H20 ⟨ls, e20, hT20, s20⟩
    rw [Int.toNat_natCast] at hT20
    intro aR dR x0 dx0 nx
    refine mk_ok (n := 2) (m := 1) (c := (rowT h).reverse) rfl e20 hT20 (by rw [row_len]; omega) (row_sized h) (row_cn h) (by rw [List.length_reverse, row_len]; omega) x0 dx0 nx fun H21 s21 sR => ⟨rfl, ?_⟩
    have W := W.same (s20.trans s21)
    clear x0 dx0 nx s21 s20 e20 hT20 eD
    -- columns
    have hwn : ((400 : Int) / (h : Int)).toNat = wd := by rw [hwd]; rfl
    have hwn1 : ((400 : Int) / (h : Int) + 1).toNat = wd + 1 := by rw [hwd]; omega
    refine ⟨.int (400 / (h : Int)), rfl, _, rfl, by rw [hwd]; omega, by rw [hwd]; omega, fun D eD => ?_⟩
    refine lc_range (fun j H' => ∃ ls : List Addr, H' D = some (.lst (ls.map V.ref)) ∧ TermsAt H' ls (colT j) ∧ Same H21 H') ⟨[], upd_same, .nil, same_upd eD⟩ ?_ ?_
    · rintro j H3 hj ⟨ls, e3, hT3, s3⟩
      have hj : j < wd := by
        have : j < ((400 : Int) / (h : Int)).toNat := hj
        omega
      have e0 : (0 : Int) + (j : Int) = (j : Int) := by omega
      rw [e0]
      exact ⟨rfl, .int j, rfl, by show 2 ≤ sizeLine; decide, fun qq q0 => ⟨by show 2 ≤ sizeLine; decide, fun t t0 => tm_step ([0, (j : Int)], 1) eD e3 hT3 s3 (by rw [col_len]; omega) (col_succ j) q0 t0⟩⟩
    rintro H22 ⟨ls, e22, hT22, s22⟩
    rw [hwn] at hT22
    intro aC dC x0 dx0 nx
    refine mk_ok (n := 2) (m := 1) (c := (colT wd).reverse) rfl e22 hT22 (by rw [col_len]; omega) (col_sized wd) (col_cn wd) (by rw [List.length_reverse, col_len]; omega) x0 dx0 nx fun H23 s23 sC => ⟨rfl, ?_⟩
    have W := W.same (s22.trans s23)
    have sR := sR.same (s22.trans s23)
    clear x0 dx0 nx s23 s22 e22 hT22 eD
    -- more
    refine ⟨.int (400 / (h : Int)), rfl, _, _, rfl, rfl, 400 / (h : Int) + 1, rfl, by rw [hwd]; omega, by rw [hwd]; omega, fun D eD => ?_⟩
    refine lc_range (fun j H' => ∃ ls : List Addr, H' D = some (.lst (ls.map V.ref)) ∧ TermsAt H' ls (colT j) ∧ Same H23 H') ⟨[], upd_same, .nil, same_upd eD⟩ ?_ ?_
    · rintro j H3 hj ⟨ls, e3, hT3, s3⟩
      have hj : j < wd + 1 := by
        have : j < ((400 : Int) / (h : Int) + 1).toNat := hj
        omega
      have e0 : (0 : Int) + (j : Int) = (j : Int) := by omega
      rw [e0]
      exact ⟨rfl, .int j, rfl, by show 2 ≤ sizeLine; decide, fun qq q0 => ⟨by show 2 ≤ sizeLine; decide, fun t t0 => tm_step ([0, (j : Int)], 1) eD e3 hT3 s3 (by rw [col_len]; omega) (col_succ j) q0 t0⟩⟩
    rintro H24 ⟨ls, e24, hT24, s24⟩
    rw [hwn1] at hT24
    intro aM dM x0 dx0 nx
    refine mk_ok (n := 2) (m := 1) (c := (colT (wd + 1)).reverse) rfl e24 hT24 (by rw [col_len]; omega) (col_sized _) (col_cn _) (by rw [List.length_reverse, col_len]; omega) x0 dx0 nx fun H25 s25 sM => ⟨rfl, ?_⟩
    have W := W.same (s24.trans s25)
    have sR := sR.same (s24.trans s25)
    have sC := sC.same (s24.trans s25)
    clear x0 dx0 nx s25 s24 e24 hT24 eD
    -- rows times columns
    have lR : (rowT h).reverse.length = h := by rw [List.length_reverse, row_len]
    have lC : (colT wd).reverse.length = wd := by rw [List.length_reverse, col_len]
    have lM : (colT (wd + 1)).reverse.length = wd + 1 := by rw [List.length_reverse, col_len]
    have hp1 : h * (wd + 1) = 400 + h := by rw [Nat.mul_succ, hpq]
    obtain ⟨dR', pR, uR, k1, k2, k3⟩ := id sR
    refine ⟨.ref aR, rfl, aR, dR', _, rfl, k1, rfl, .ref aC, rfl, aR, aC, 2, 1, 1, _, _, rfl, sR, sC, by decide, (row_sized h).rev, (col_sized wd).rev, one_lt_b, one_lt_b, by rw [lR, lC]; omega, fun c r H26 s26 hS cn z hl => ?_, fun r cn hw => by have := grid_len_eq cn; omega⟩
    obtain ⟨dc, pc, uc, c1, c2, c3⟩ := id hS
    refine ⟨c, dc, _, rfl, c1, c, 2, _, rfl, hS, 400, by rw [grid_len_eq cn, hpq]; rfl, by decide, by decide, rfl, _, rfl, iteNS rfl ?_⟩
    have W := W.same s26
    have sR := sR.same s26
    have sC := sC.same s26
    have sM := sM.same s26
    clear k1 k2 k3 c1 c2 c3 s26 hS cn z hl
    refine ⟨W.tb, fun H27 x27 tb27 => ?_⟩
    have W := W.ext x27 tb27
    have sR := sR.ext x27
    have sC := sC.ext x27
    have sM := sM.ext x27
    obtain ⟨dR', pR, uR, k1, k2, k3⟩ := id sR
    refine ⟨.ref aR, rfl, aR, dR', _, rfl, k1, rfl, .ref aM, rfl, aR, aM, 2, 1, 1, _, _, rfl, sR, sM, by decide, (row_sized h).rev, (col_sized _).rev, one_lt_b, one_lt_b, by rw [lR, lM]; omega, fun c r H' s hS cn z hl => by have := grid_len_eq cn; omega, fun r cn hw d H28 s28 hd => ⟨.str "great", TG.at hd, rfl, _, rfl, iteNS rfl ?_⟩⟩
    have W := W.same s28
    have sR := sR.same s28
    have sC := sC.same s28
    have sM := sM.same s28
    clear k1 k2 k3 s28 hd cn hw x27 tb27
    -- ten, thirty
    refine ⟨10, rfl, by decide, by decide, fun D eD => ?_⟩
    refine lc_range (fun j H' => ∃ ls : List Addr, H' D = some (.lst (ls.map V.ref)) ∧ TermsAt H' ls (lineT j) ∧ Same H28 H') ⟨[], upd_same, .nil, same_upd eD⟩ ?_ ?_
    · rintro j H3 hj ⟨ls, e3, hT3, s3⟩
      have hj : j < 10 := hj
      have e0 : (0 : Int) + (j : Int) = (j : Int) := by omega
      rw [e0]
      exact ⟨rfl, .int j, rfl, by show 1 ≤ sizeLine; decide, fun qq q0 => ⟨by show 2 ≤ sizeLine; decide, fun t t0 => tm_step ([(j : Int)], 1) eD e3 hT3 s3 (by rw [line_len]; omega) (line_succ j) q0 t0⟩⟩
    rintro H29 ⟨ls, e29, hT29, s29⟩
    have hT29 : TermsAt H29 ls (lineT 10) := hT29
    intro aT dT x0 dx0 nx
    refine mk_ok (n := 1) (m := 1) (c := (lineT 10).reverse) rfl e29 hT29 (by rw [line_len]; decide) (line_sized _) (line_cn _) (by rw [List.length_reverse, line_len]; decide) x0 dx0 nx fun H30 s30 sT => ⟨rfl, ?_⟩
    have W := W.same (s29.trans s30)
    have sR := sR.same (s29.trans s30)
    have sC := sC.same (s29.trans s30)
    have sM := sM.same (s29.trans s30)
    clear x0 dx0 nx s30 s29 e29 hT29 eD
    refine ⟨30, rfl, by decide, by decide, fun D eD => ?_⟩
    refine lc_range (fun j H' => ∃ ls : List Addr, H' D = some (.lst (ls.map V.ref)) ∧ TermsAt H' ls (lineT j) ∧ Same H30 H') ⟨[], upd_same, .nil, same_upd eD⟩ ?_ ?_
    · rintro j H3 hj ⟨ls, e3, hT3, s3⟩
      have hj : j < 30 := hj
      have e0 : (0 : Int) + (j : Int) = (j : Int) := by omega
      rw [e0]
      exact ⟨rfl, .int j, rfl, by show 1 ≤ sizeLine; decide, fun qq q0 => ⟨by show 2 ≤ sizeLine; decide, fun t t0 => tm_step ([(j : Int)], 1) eD e3 hT3 s3 (by rw [line_len]; omega) (line_succ j) q0 t0⟩⟩
    rintro H31 ⟨ls, e31, hT31, s31⟩
    have hT31 : TermsAt H31 ls (lineT 30) := hT31
    intro aU dU x0 dx0 nx
    refine mk_ok (n := 1) (m := 1) (c := (lineT 30).reverse) rfl e31 hT31 (by rw [line_len]; decide) (line_sized _) (line_cn _) (by rw [List.length_reverse, line_len]; decide) x0 dx0 nx fun H32 s32 sU => ⟨rfl, ?_⟩
    have W := W.same (s31.trans s32)
    have sR := sR.same (s31.trans s32)
    have sC := sC.same (s31.trans s32)
    have sM := sM.same (s31.trans s32)
    have sT := sT.same (s31.trans s32)
    clear x0 dx0 nx s32 s31 e31 hT31 eD
    have lT : (lineT 10).reverse.length = 10 := by rw [List.length_reverse, line_len]
    have lU : (lineT 30).reverse.length = 30 := by rw [List.length_reverse, line_len]
    obtain ⟨dT', pT, uT, k1, k2, k3⟩ := id sT
    refine ⟨_, _, rfl, .ref aT, rfl, aT, dT', _, rfl, k1, rfl, ?_⟩
    refine ⟨aT, 1, 1, 9, (lineT 10).reverse, Ipow 1 9, fun i => 4000 ^ i, rfl, sT, by decide, (line_sized _).rev, one_lt_b, by decide, raise_0 (by decide), raise_step (by decide) (line_on 9) lT (by decide) (by decide) (by decide), fun c r H33 s33 hS hI => ?_⟩
    obtain ⟨dc, pc, uc, c1, c2, c3⟩ := id hS
    refine ⟨c, dc, _, rfl, c1, c, 1, _, rfl, hS, 82, by rw [hI.2.2]; rfl, by decide, by decide, rfl, _, rfl, iteNS rfl ?_⟩
    have W := W.same s33
    have sR := sR.same s33
    have sC := sC.same s33
    have sM := sM.same s33
    have sU := sU.same s33
    clear k1 k2 k3 c1 c2 c3 s33 hS hI sT
    obtain ⟨dU', pU, uU, k1, k2, k3⟩ := id sU
    have l59 : ∀ {r : List Tm}, Cn (lmul (Lf (lineT 30).reverse) (Lf (lineT 30).reverse)) r → r.length = 59 := fun cn => (On.mul (by decide) (line_on 29) (line_on 29) cn).2
    refine ⟨.ref aU, rfl, aU, dU', _, rfl, k1, rfl, .ref aU, rfl, aU, aU, 1, 1, 1, _, _, rfl, sU, sU, by decide, (line_sized _).rev, (line_sized _).rev, one_lt_b, one_lt_b, by rw [lU]; decide, fun c r H34 s34 hS cn z hl => ?_, fun r cn hw => by have := l59 cn; omega⟩
    obtain ⟨dc, pc, uc, c1, c2, c3⟩ := id hS
    refine ⟨c, dc, _, rfl, c1, c, 1, _, rfl, hS, 59, by rw [l59 cn]; rfl, by decide, by decide, rfl, _, rfl, iteNS rfl ?_⟩
    have W := W.same s34
    have sR := sR.same s34
    have sC := sC.same s34
    have sM := sM.same s34
    clear k1 k2 k3 c1 c2 c3 s34 hS cn z hl sU l59
    -- two
    refine ⟨by show 1 ≤ sizeLine; decide, fun q1 q10 => ⟨by show 2 ≤ sizeLine; decide, fun t1 t10 => ?_⟩⟩
    have sq1 := same_upd (o := .tup [.int 0]) q10
    have st1 := same_upd (o := .tup [.ref q1, .int 1]) t10
    refine ⟨.ref f, rfl, f, l, 3, rfl, (W.hf.same sq1).same st1, by decide, by decide, fun v H35 v0 v1 sb35 hf35 => ⟨_, _, rfl, rfl, by show 1 ≤ sizeLine; decide, fun q2 q20 => ⟨by show 2 ≤ sizeLine; decide, fun t2 t20 => ⟨by show 2 ≤ sizeLine; decide, fun L L0 => ?_⟩⟩⟩⟩
    have h1T := (TermsAt.one (a := ([0], 1)) upd_same (st1 _ _ upd_same)).but sb35 ((W.hf.same sq1).same st1)
    have W1 := (W.same sq1).same st1
    have sR := ((sR.same sq1).same st1).but sb35 W1.hf
    have sC := ((sC.same sq1).same st1).but sb35 W1.hf
    have sM := ((sM.same sq1).same st1).but sb35 W1.hf
    have W := W1.but sb35 hf35
    have sq2 := same_upd (o := .tup [.int (8 + v)]) q20
    have st2 := same_upd (o := .tup [.ref q2, .int 1]) t20
    have sL := same_upd (o := .lst [.ref t1, .ref t2]) L0
    have h2T : TermsAt _ [t1, t2] [([0], 1), ([8 + v], 1)] := TermsAt.same sL (.cons (((h1T.same sq2).same st2).tail.1) (TermsAt.one upd_same (st2 _ _ upd_same)))
    have dv : 0 < 8 + v := by omega
    have two_cn : Cn (Lf [([0], 1), ([8 + v], 1)]) [([8 + v], 1), ([0], 1)] := ⟨by
        unfold Falls
        rw [List.pairwise_cons]
        exact ⟨fun a ha => by rw [List.mem_singleton.mp ha]; exact lex1 dv, List.pairwise_singleton _ _⟩, fun a ha => by
        rcases List.mem_cons.mp ha with rfl | ha
        · exact (by decide : (1 : Int) ≠ 0)
        · rw [List.mem_singleton.mp ha]
          exact (by decide : (1 : Int) ≠ 0), fun φ => Lf_perm (List.Perm.swap _ _ _) φ⟩
    have two_sz : Sized 1 1 [(([0] : List Int), (1 : Int)), ([8 + v], 1)] := fun a ha => by
        rcases List.mem_cons.mp ha with rfl | ha
        · exact ⟨rfl, Nat.le_refl _⟩
        · rw [List.mem_singleton.mp ha]
          exact ⟨rfl, Nat.le_refl _⟩
    have two_on : On (iv (8 + v) 1) [([8 + v], 1), ([0], 1)] := by
      refine ⟨fun a ha => ?_, fun p => ?_⟩
      · rcases List.mem_cons.mp ha with rfl | ha
        · exact (by decide : (0 : Int) < 1)
        · rw [List.mem_singleton.mp ha]
          exact (by decide : (0 : Int) < 1)
      · rw [mem_iv]
        unfold keysOf
        rw [List.map_cons, List.map_cons, List.map_nil, List.mem_cons, List.mem_singleton]
        constructor
        · rintro (rfl | rfl)
          · exact ⟨1, Nat.le_refl _, by show [8 + v] = [(8 + v) * (1 : Int)]; rw [Int.mul_one]⟩
          · exact ⟨0, by decide, by show [(0 : Int)] = [(8 + v) * (0 : Int)]; rw [Int.mul_zero]⟩
        · rintro ⟨k, hk, rfl⟩
          have : k = 0 ∨ k = 1 := by omega
          rcases this with rfl | rfl
          · right
            show [(8 + v) * (0 : Int)] = [0]
            rw [Int.mul_zero]
          · left
            show [(8 + v) * (1 : Int)] = [8 + v]
            rw [Int.mul_one]
    intro aW dW x0 dx0 nx
    refine mk_ok (n := 1) (m := 1) (ts := [t1, t2]) (c := [([8 + v], 1), ([0], 1)]) rfl upd_same h2T (by show 2 ≤ 4000; decide) two_sz two_cn (by show 2 ≤ 400; decide) x0 dx0 nx fun H36 s36 sW => ⟨rfl, ?_⟩
    have s36 := ((sq2.trans st2).trans sL).trans s36
    have W := W.same s36
    have sR := sR.same s36
    have sC := sC.same s36
    have sM := sM.same s36
    clear x0 dx0 nx s36 sL st2 sq2 h2T h1T L0 t20 q20 W1 sb35 hf35 sq1 st1 t10 q10 two_cn
    obtain ⟨dW', pW, uW, k1, k2, k3⟩ := id sW
    refine ⟨.ref aW, rfl, aW, dW', _, rfl, k1, rfl, ?_⟩
    refine ⟨aW, 1, 1, 50, [([8 + v], 1), ([0], 1)], Ipow (8 + v) 1, fun i => 4000 ^ i, rfl, sW, by decide, two_sz.perm (List.Perm.swap _ _ _), one_lt_b, by decide, raise_0 dv, raise_step dv two_on rfl (by decide) (by decide) (by decide), fun c r H37 s37 hS hI => ?_⟩
    obtain ⟨dc, pc, uc, c1, c2, c3⟩ := id hS
    refine ⟨c, dc, _, rfl, c1, c, 1, _, rfl, hS, 51, by rw [hI.2.2]; rfl, by decide, by decide, rfl, _, rfl, iteNS rfl ?_⟩
    have W := W.same s37
    have sR := sR.same s37
    have sC := sC.same s37
    have sM := sM.same s37
    clear k1 k2 k3 c1 c2 c3 s37 hS hI sW two_on two_sz
    -- raised too far
    refine ⟨W.tb, fun H38 x38 tb38 => ?_⟩
    have W := W.ext x38 tb38
    have sR := sR.ext x38
    have sC := sC.ext x38
    have sM := sM.ext x38
    obtain ⟨dR', pR, uR, k1, k2, k3⟩ := id sR
    refine ⟨.ref aR, rfl, aR, dR', _, rfl, k1, rfl, .ref aC, rfl, aR, aC, 2, 1, _, _, rfl, sR, sC, (row_sized h).rev, (col_sized wd).rev, by omega, by omega, fun c x H39 s39 hS cx z hl => ?_, fun r cn hw => by have := plus_len cn; omega⟩
    obtain ⟨dc, pc, uc, c1, c2, c3⟩ := id hS
    have zx : Sized 2 90 x := z.mono (by rw [lR, lC]; omega)
    refine ⟨c, dc, _, rfl, c1, rfl, c, 2, 90, 9, x, Isq x, fun _ => 90, rfl, hS, by decide, zx, Nat.lt_of_lt_of_le (by decide : 90 < 2 ^ 10) (Nat.pow_le_pow_right (by decide) (by decide)), by decide, fun r a b c => ⟨a, b, c⟩, sq_step (by omega) hpq (by omega) hsq cx zx fun d H40 s40 hd => ⟨.str "great", TG.at hd, rfl, _, rfl, iteNS rfl ?_⟩, fun c r H' s hS hI => hI.elim⟩
    have W := W.same (s39.trans s40)
    have sR := sR.same (s39.trans s40)
    have sM := sM.same (s39.trans s40)
    clear k1 k2 k3 c1 c2 c3 s39 s40 hd zx cx z hl hS x38 tb38
    -- all stay
    obtain ⟨dF, pF, uF, k1, k2, k3⟩ := id W.sF
    obtain ⟨dR', pR, uR, c1, c2, c3⟩ := id sR
    obtain ⟨dM', pM, uM, m1, m2, m3⟩ := id sM
    have eM : V.int ((wd + 1 : Nat) : Int) = V.int (400 / (h : Int) + 1) := by
      rw [hwd]
      rfl
    refine ⟨.ref aF, rfl, aF, dF, _, rfl, k1, aF, 2, _, rfl, W.sF, 400, by rw [cr]; rfl, by decide, by decide, rfl, ?_⟩
    rw [decide_eq_true rfl]
    refine ⟨true, rfl, iteT ?_⟩
    refine ⟨.ref aR, rfl, aR, dR', _, rfl, c1, aR, 2, _, rfl, sR, h, by rw [lR], by omega, by omega, .int h, rfl, rfl, ?_⟩
    rw [decide_eq_true rfl]
    refine ⟨true, rfl, iteT ?_⟩
    refine ⟨.ref aM, rfl, aM, dM', _, rfl, m1, aM, 2, _, rfl, sM, ((wd + 1 : Nat) : Int), by rw [lM], by omega, by omega, .int (400 / (h : Int)), rfl, _, _, rfl, rfl, rfl, ?_⟩
    first
      | (rw [decide_eq_true eM]; exact q _)
      | (have eD : decide (V.int ((wd + 1 : Nat) : Int) = V.int (400 / (h : Int) + 1)) = true := decide_eq_true eM
         show Q (.bl (decide (V.int ((wd + 1 : Nat) : Int) = V.int (400 / (h : Int) + 1)))) _
         rw [eD]
         exact q _)
end
end Bw
set_option Elab.async false
set_option linter.all false
set_option maxRecDepth 100000
set_option maxHeartbeats 4000000
namespace Bw
open PySem PySem.Spec PyProof.Rows L2
theorem all_mk {l : PySem.W.OpenLaw} {w : World} {K : PySem.W.Frag} {h : Heap} {mg : Str → Option Value} {fa : Addr} (X : K.In h) (G : h.Ns mainGlobals mg) (hfa : mg "law" = some (.ref fa)) (own : LamX.OwnTab K fa h)
    {C_BudError : Addr}
    {C_Great : Addr}
    {C_Sum : Addr}
    {od_gathered an_gathered : Option Addr} {sl_gathered : Array (Option Value)} {oc_gathered kV_gathered dc_gathered pm_gathered cd_gathered ct_gathered : Value} {f_gathered : Addr}
    {od_added_powers an_added_powers : Option Addr} {sl_added_powers : Array (Option Value)} {oc_added_powers kV_added_powers dc_added_powers pm_added_powers cd_added_powers ct_added_powers : Value} {f_added_powers : Addr}
    {od_multiplied an_multiplied : Option Addr} {sl_multiplied : Array (Option Value)} {oc_multiplied kV_multiplied dc_multiplied pm_multiplied cd_multiplied ct_multiplied : Value} {f_multiplied : Addr}
    {od_check_width an_check_width : Option Addr} {sl_check_width : Array (Option Value)} {oc_check_width kV_check_width dc_check_width pm_check_width cd_check_width ct_check_width : Value} {f_check_width : Addr}
    {od_constant an_constant : Option Addr} {sl_constant : Array (Option Value)} {oc_constant kV_constant dc_constant pm_constant cd_constant ct_constant : Value} {f_constant : Addr}
    {od_law_feed an_law_feed : Option Addr} {sl_law_feed : Array (Option Value)} {oc_law_feed kV_law_feed dc_law_feed pm_law_feed cd_law_feed ct_law_feed : Value} {f_law_feed : Addr}
    {od_law_draw an_law_draw : Option Addr} {sl_law_draw : Array (Option Value)} {oc_law_draw kV_law_draw dc_law_draw pm_law_draw cd_law_draw ct_law_draw : Value} {f_law_draw : Addr}
    {od_law_pick an_law_pick : Option Addr} {sl_law_pick : Array (Option Value)} {oc_law_pick kV_law_pick dc_law_pick pm_law_pick cd_law_pick ct_law_pick : Value} {f_law_pick : Addr}
    {od_law_shuffled an_law_shuffled : Option Addr} {sl_law_shuffled : Array (Option Value)} {oc_law_shuffled kV_law_shuffled dc_law_shuffled pm_law_shuffled cd_law_shuffled ct_law_shuffled : Value} {f_law_shuffled : Addr}
    {od_law_word an_law_word : Option Addr} {sl_law_word : Array (Option Value)} {oc_law_word kV_law_word dc_law_word pm_law_word cd_law_word ct_law_word : Value} {f_law_word : Addr}
    {od_law an_law : Option Addr} {sl_law : Array (Option Value)} {oc_law kV_law dc_law pm_law ct_law : Value} {f_law : Addr}
    {cc_law Pt : Addr} {oc2 : Value} {od2 : Option Addr} {vs_law : Array Value} {sl2 : Array (Option Value)}
    {od_bud_init an_bud_init : Option Addr} {sl_bud_init : Array (Option Value)} {oc_bud_init kV_bud_init dc_bud_init pm_bud_init cd_bud_init ct_bud_init : Value} {f_bud_init : Addr}
    {od_great_init an_great_init : Option Addr} {sl_great_init : Array (Option Value)} {oc_great_init kV_great_init dc_great_init pm_great_init cd_great_init ct_great_init : Value} {f_great_init : Addr}
    {od_m_terms an_m_terms : Option Addr} {sl_m_terms : Array (Option Value)} {oc_m_terms kV_m_terms dc_m_terms pm_m_terms cd_m_terms ct_m_terms : Value} {f_m_terms : Addr}
    {od_m_plus an_m_plus : Option Addr} {sl_m_plus : Array (Option Value)} {oc_m_plus kV_m_plus dc_m_plus pm_m_plus cd_m_plus ct_m_plus : Value} {f_m_plus : Addr}
    {od_m_minus an_m_minus : Option Addr} {sl_m_minus : Array (Option Value)} {oc_m_minus kV_m_minus dc_m_minus pm_m_minus cd_m_minus ct_m_minus : Value} {f_m_minus : Addr}
    {od_m_times an_m_times : Option Addr} {sl_m_times : Array (Option Value)} {oc_m_times kV_m_times dc_m_times pm_m_times cd_m_times ct_m_times : Value} {f_m_times : Addr}
    {od_m_raised an_m_raised : Option Addr} {sl_m_raised : Array (Option Value)} {oc_m_raised kV_m_raised dc_m_raised pm_m_raised cd_m_raised ct_m_raised : Value} {f_m_raised : Addr}
    {od_m_len an_m_len : Option Addr} {sl_m_len : Array (Option Value)} {oc_m_len kV_m_len dc_m_len pm_m_len cd_m_len ct_m_len : Value} {f_m_len : Addr}
    {t_WIDE : Tok}
    {od_init an_init odT : Option Addr} {sl_init slT : Array (Option Value)} {oc_init kV_init dc_init pm_init cd_init ct_init ocT : Value} {f_init T_init e_init : Addr} {nT nE : Nat} {odE : Option Addr} {slE : Array (Option Value)}
    {nm q : Str} {N : Addr} {bs : List Value} {sn : List Str} {sub : List Value} {ab : Bool} {col : Option Bool} {dd : Option Addr} {m0 m1 m2 m3 m5 : Option Value}
    (a_BudError : PySem.W.nsIn K mainGlobals "BudError" = some (some (.ref C_BudError)))
    (a_Great : PySem.W.nsIn K mainGlobals "Great" = some (some (.ref C_Great)))
    (a_Sum : PySem.W.nsIn K mainGlobals "Sum" = some (some (.ref C_Sum)))
    (a_gathered : PySem.W.nsIn K mainGlobals "gathered" = some (some (.ref f_gathered)))
    (l_gathered : K.lookup f_gathered = some ⟨oc_gathered, od_gathered, .func (PySem.W.fnOf "gathered" "gathered" (defArgs s_gathered) (defBody s_gathered) (defScope s_gathered) .none kV_gathered dc_gathered pm_gathered an_gathered cd_gathered ct_gathered), sl_gathered⟩)
    (c_gathered : PySem.W.codeIn K cd_gathered "gathered" = true)
    (k_gathered : PySem.W.keepIn K (.ref f_gathered) = true)
    (a_added_powers : PySem.W.nsIn K mainGlobals "added_powers" = some (some (.ref f_added_powers)))
    (l_added_powers : K.lookup f_added_powers = some ⟨oc_added_powers, od_added_powers, .func (PySem.W.fnOf "added_powers" "added_powers" (defArgs s_added_powers) (defBody s_added_powers) (defScope s_added_powers) .none kV_added_powers dc_added_powers pm_added_powers an_added_powers cd_added_powers ct_added_powers), sl_added_powers⟩)
    (c_added_powers : PySem.W.codeIn K cd_added_powers "added_powers" = true)
    (k_added_powers : PySem.W.keepIn K (.ref f_added_powers) = true)
    (a_multiplied : PySem.W.nsIn K mainGlobals "multiplied" = some (some (.ref f_multiplied)))
    (l_multiplied : K.lookup f_multiplied = some ⟨oc_multiplied, od_multiplied, .func (PySem.W.fnOf "multiplied" "multiplied" (defArgs s_multiplied) (defBody s_multiplied) (defScope s_multiplied) .none kV_multiplied dc_multiplied pm_multiplied an_multiplied cd_multiplied ct_multiplied), sl_multiplied⟩)
    (c_multiplied : PySem.W.codeIn K cd_multiplied "multiplied" = true)
    (k_multiplied : PySem.W.keepIn K (.ref f_multiplied) = true)
    (a_check_width : PySem.W.nsIn K mainGlobals "check_width" = some (some (.ref f_check_width)))
    (l_check_width : K.lookup f_check_width = some ⟨oc_check_width, od_check_width, .func (PySem.W.fnOf "check_width" "check_width" (defArgs s_check_width) (defBody s_check_width) (defScope s_check_width) .none kV_check_width dc_check_width pm_check_width an_check_width cd_check_width ct_check_width), sl_check_width⟩)
    (c_check_width : PySem.W.codeIn K cd_check_width "check_width" = true)
    (k_check_width : PySem.W.keepIn K (.ref f_check_width) = true)
    (a_constant : PySem.W.nsIn K mainGlobals "constant" = some (some (.ref f_constant)))
    (l_constant : K.lookup f_constant = some ⟨oc_constant, od_constant, .func (PySem.W.fnOf "constant" "constant" (defArgs s_constant) (defBody s_constant) (defScope s_constant) .none kV_constant dc_constant pm_constant an_constant cd_constant ct_constant), sl_constant⟩)
    (c_constant : PySem.W.codeIn K cd_constant "constant" = true)
    (k_constant : PySem.W.keepIn K (.ref f_constant) = true)
    (a_law_feed : PySem.W.nsIn K mainGlobals "_law_feed" = some (some (.ref f_law_feed)))
    (l_law_feed : K.lookup f_law_feed = some ⟨oc_law_feed, od_law_feed, .func (PySem.W.fnOf "_law_feed" "_law_feed" (defArgs s_law_feed) (defBody s_law_feed) (defScope s_law_feed) .none kV_law_feed dc_law_feed pm_law_feed an_law_feed cd_law_feed ct_law_feed), sl_law_feed⟩)
    (c_law_feed : PySem.W.codeIn K cd_law_feed "_law_feed" = true)
    (k_law_feed : PySem.W.keepIn K (.ref f_law_feed) = true)
    (a_law_draw : PySem.W.nsIn K mainGlobals "_law_draw" = some (some (.ref f_law_draw)))
    (l_law_draw : K.lookup f_law_draw = some ⟨oc_law_draw, od_law_draw, .func (PySem.W.fnOf "_law_draw" "_law_draw" (defArgs s_law_draw) (defBody s_law_draw) (defScope s_law_draw) .none kV_law_draw dc_law_draw pm_law_draw an_law_draw cd_law_draw ct_law_draw), sl_law_draw⟩)
    (c_law_draw : PySem.W.codeIn K cd_law_draw "_law_draw" = true)
    (k_law_draw : PySem.W.keepIn K (.ref f_law_draw) = true)
    (a_law_pick : PySem.W.nsIn K mainGlobals "_law_pick" = some (some (.ref f_law_pick)))
    (l_law_pick : K.lookup f_law_pick = some ⟨oc_law_pick, od_law_pick, .func (PySem.W.fnOf "_law_pick" "_law_pick" (defArgs s_law_pick) (defBody s_law_pick) (defScope s_law_pick) .none kV_law_pick dc_law_pick pm_law_pick an_law_pick cd_law_pick ct_law_pick), sl_law_pick⟩)
    (c_law_pick : PySem.W.codeIn K cd_law_pick "_law_pick" = true)
    (k_law_pick : PySem.W.keepIn K (.ref f_law_pick) = true)
    (a_law_shuffled : PySem.W.nsIn K mainGlobals "_law_shuffled" = some (some (.ref f_law_shuffled)))
    (l_law_shuffled : K.lookup f_law_shuffled = some ⟨oc_law_shuffled, od_law_shuffled, .func (PySem.W.fnOf "_law_shuffled" "_law_shuffled" (defArgs s_law_shuffled) (defBody s_law_shuffled) (defScope s_law_shuffled) .none kV_law_shuffled dc_law_shuffled pm_law_shuffled an_law_shuffled cd_law_shuffled ct_law_shuffled), sl_law_shuffled⟩)
    (c_law_shuffled : PySem.W.codeIn K cd_law_shuffled "_law_shuffled" = true)
    (k_law_shuffled : PySem.W.keepIn K (.ref f_law_shuffled) = true)
    (a_law_word : PySem.W.nsIn K mainGlobals "_law_word" = some (some (.ref f_law_word)))
    (l_law_word : K.lookup f_law_word = some ⟨oc_law_word, od_law_word, .func (PySem.W.fnOf "_law_word" "_law_word" (defArgs s_law_word) (defBody s_law_word) (defScope s_law_word) .none kV_law_word dc_law_word pm_law_word an_law_word cd_law_word ct_law_word), sl_law_word⟩)
    (c_law_word : PySem.W.codeIn K cd_law_word "_law_word" = true)
    (k_law_word : PySem.W.keepIn K (.ref f_law_word) = true)
    (a_law : PySem.W.nsIn K mainGlobals "law" = some (some (.ref f_law)))
    (l_law : K.lookup f_law = some ⟨oc_law, od_law, .func (PySem.W.fnOf "law" "law" (defArgs s_law) (defBody s_law) (defScope s_law) .none kV_law dc_law pm_law an_law (.ref cc_law) ct_law), sl_law⟩)
    (c_law : PySem.W.codeIn K (.ref cc_law) "law" = true)
    (k_law : PySem.W.keepIn K (.ref f_law) = true)
    (a_bud_init : PySem.W.findIn K (.ref C_BudError) "__init__" = some (some (.ref f_bud_init)))
    (l_bud_init : K.lookup f_bud_init = some ⟨oc_bud_init, od_bud_init, .func (PySem.W.fnOf "__init__" "BudError.__init__" (defArgs s_bud_init) (defBody s_bud_init) (defScope s_bud_init) .none kV_bud_init dc_bud_init pm_bud_init an_bud_init cd_bud_init ct_bud_init), sl_bud_init⟩)
    (c_bud_init : PySem.W.codeIn K cd_bud_init "BudError.__init__" = true)
    (k_bud_init : PySem.W.keepIn K (.ref f_bud_init) = true)
    (a_great_init : PySem.W.findIn K (.ref C_Great) "__init__" = some (some (.ref f_great_init)))
    (l_great_init : K.lookup f_great_init = some ⟨oc_great_init, od_great_init, .func (PySem.W.fnOf "__init__" "Great.__init__" (defArgs s_great_init) (defBody s_great_init) (defScope s_great_init) .none kV_great_init dc_great_init pm_great_init an_great_init cd_great_init ct_great_init), sl_great_init⟩)
    (c_great_init : PySem.W.codeIn K cd_great_init "Great.__init__" = true)
    (k_great_init : PySem.W.keepIn K (.ref f_great_init) = true)
    (a_m_terms : PySem.W.findIn K (.ref C_Sum) "terms" = some (some (.ref f_m_terms)))
    (l_m_terms : K.lookup f_m_terms = some ⟨oc_m_terms, od_m_terms, .func (PySem.W.fnOf "terms" "Sum.terms" (defArgs s_terms) (defBody s_terms) (defScope s_terms) .none kV_m_terms dc_m_terms pm_m_terms an_m_terms cd_m_terms ct_m_terms), sl_m_terms⟩)
    (c_m_terms : PySem.W.codeIn K cd_m_terms "Sum.terms" = true)
    (k_m_terms : PySem.W.keepIn K (.ref f_m_terms) = true)
    (a_m_plus : PySem.W.findIn K (.ref C_Sum) "plus" = some (some (.ref f_m_plus)))
    (l_m_plus : K.lookup f_m_plus = some ⟨oc_m_plus, od_m_plus, .func (PySem.W.fnOf "plus" "Sum.plus" (defArgs s_plus) (defBody s_plus) (defScope s_plus) .none kV_m_plus dc_m_plus pm_m_plus an_m_plus cd_m_plus ct_m_plus), sl_m_plus⟩)
    (c_m_plus : PySem.W.codeIn K cd_m_plus "Sum.plus" = true)
    (k_m_plus : PySem.W.keepIn K (.ref f_m_plus) = true)
    (a_m_minus : PySem.W.findIn K (.ref C_Sum) "minus" = some (some (.ref f_m_minus)))
    (l_m_minus : K.lookup f_m_minus = some ⟨oc_m_minus, od_m_minus, .func (PySem.W.fnOf "minus" "Sum.minus" (defArgs s_minus) (defBody s_minus) (defScope s_minus) .none kV_m_minus dc_m_minus pm_m_minus an_m_minus cd_m_minus ct_m_minus), sl_m_minus⟩)
    (c_m_minus : PySem.W.codeIn K cd_m_minus "Sum.minus" = true)
    (k_m_minus : PySem.W.keepIn K (.ref f_m_minus) = true)
    (a_m_times : PySem.W.findIn K (.ref C_Sum) "times" = some (some (.ref f_m_times)))
    (l_m_times : K.lookup f_m_times = some ⟨oc_m_times, od_m_times, .func (PySem.W.fnOf "times" "Sum.times" (defArgs s_times) (defBody s_times) (defScope s_times) .none kV_m_times dc_m_times pm_m_times an_m_times cd_m_times ct_m_times), sl_m_times⟩)
    (c_m_times : PySem.W.codeIn K cd_m_times "Sum.times" = true)
    (k_m_times : PySem.W.keepIn K (.ref f_m_times) = true)
    (a_m_raised : PySem.W.findIn K (.ref C_Sum) "raised" = some (some (.ref f_m_raised)))
    (l_m_raised : K.lookup f_m_raised = some ⟨oc_m_raised, od_m_raised, .func (PySem.W.fnOf "raised" "Sum.raised" (defArgs s_raised) (defBody s_raised) (defScope s_raised) .none kV_m_raised dc_m_raised pm_m_raised an_m_raised cd_m_raised ct_m_raised), sl_m_raised⟩)
    (c_m_raised : PySem.W.codeIn K cd_m_raised "Sum.raised" = true)
    (k_m_raised : PySem.W.keepIn K (.ref f_m_raised) = true)
    (a_m_len : PySem.W.findIn K (.ref C_Sum) "__len__" = some (some (.ref f_m_len)))
    (l_m_len : K.lookup f_m_len = some ⟨oc_m_len, od_m_len, .func (PySem.W.fnOf "__len__" "Sum.__len__" (defArgs s_len) (defBody s_len) (defScope s_len) .none kV_m_len dc_m_len pm_m_len an_m_len cd_m_len ct_m_len), sl_m_len⟩)
    (c_m_len : PySem.W.codeIn K cd_m_len "Sum.__len__" = true)
    (k_m_len : PySem.W.keepIn K (.ref f_m_len) = true)
    (z_len : PySem.W.nsIn K mainGlobals "len" = some none)
    (z_range : PySem.W.nsIn K mainGlobals "range" = some none)
    (z_zip : PySem.W.nsIn K mainGlobals "zip" = some none)
    (z_all : PySem.W.nsIn K mainGlobals "all" = some none)
    (z_any : PySem.W.nsIn K mainGlobals "any" = some none)
    (z_sorted : PySem.W.nsIn K mainGlobals "sorted" = some none)
    (z_isinstance : PySem.W.nsIn K mainGlobals "isinstance" = some none)
    (z_bool : PySem.W.nsIn K mainGlobals "bool" = some none)
    (z_tuple : PySem.W.nsIn K mainGlobals "tuple" = some none)
    (z_list : PySem.W.nsIn K mainGlobals "list" = some none)
    (z_dict : PySem.W.nsIn K mainGlobals "dict" = some none)
    (z_str : PySem.W.nsIn K mainGlobals "str" = some none)
    (z_ValueError : PySem.W.nsIn K mainGlobals "ValueError" = some none)
    (i_WIDE : PySem.W.nsIn K mainGlobals "WIDE" = some (some (.int 400 t_WIDE)))
    (a_init : PySem.W.findIn K (.ref C_Sum) "__init__" = some (some (.ref f_init)))
    (l_init : K.lookup f_init = some ⟨oc_init, od_init, .func (PySem.W.fnOf "__init__" "Sum.__init__" (defArgs s_init) (defBody s_init) (defScope s_init) (.ref T_init) kV_init dc_init pm_init an_init cd_init ct_init), sl_init⟩)
    (c_init : PySem.W.codeIn K cd_init "Sum.__init__" = true)
    (k_init : PySem.W.keepIn K (.ref f_init) = true)
    (lT : K.lookup T_init = some ⟨ocT, odT, .seq #[.ref e_init] nT, slT⟩)
    (fn_init : PySem.W.isFn K (.ref f_init) = true)
    (fn_terms : PySem.W.isFn K (.ref f_m_terms) = true)
    (fn_plus : PySem.W.isFn K (.ref f_m_plus) = true)
    (fn_minus : PySem.W.isFn K (.ref f_m_minus) = true)
    (fn_times : PySem.W.isFn K (.ref f_m_times) = true)
    (fn_raised : PySem.W.isFn K (.ref f_m_raised) = true)
    (lE : K.lookup e_init = some ⟨.type "tuple", odE, .seq #[] nE, slE⟩)
    (sg : PySem.W.specialIn K (.ref C_BudError) "__getattribute__" = some (some (.builtin "type.__getattribute__")))
    (tyB : PySem.W.typeIn K (.ref C_BudError) = some (.type "type"))
    (rdB : PySem.W.readsIn K C_BudError (.type "type") = true)
    (fcB : PySem.W.findCls K (.ref C_BudError) (.type "type") "__init__" = some (.val (.ref f_bud_init)))
    (vv : PySem.W.findCls K (.type "ValueError") (.type "type") "__init__" = some (.val (.builtin "ValueError.__init__")))
    (eB : PySem.W.subIn K (.ref C_BudError) (.type "BaseException") = some true)
    (hB : PySem.W.hasDictIn K C_BudError = true)
    (xL : K.lookup C_Great = some (excClassObj nm q C_Great N bs [.ref C_BudError, .type "ValueError", .type "Exception", .type "BaseException", .type "object"] true sn sub ab col dd m0 m1 m2 m3 m5 "ValueError.__new__"))
    (saB : PySem.W.findIn K (.ref C_Great) "__setattr__" = some (some (.builtin "object.__setattr__")))
    (gaB : PySem.W.findIn K (.ref C_Great) "__getattribute__" = some (some (.builtin "BaseException.__getattribute__")))
    (ggB : PySem.W.findIn K (.ref C_Great) "__getattr__" = some none)
    (nwB : PySem.W.findIn K (.ref C_Great) "word" = some none)
    (tIB : PySem.W.typeIn K (.ref f_great_init) = some (.type "function"))
    (kCB : PySem.W.keepIn K (.ref C_Great) = true)
    (eCB : PySem.W.subIn K (.ref C_Great) (.type "BaseException") = some true)
    (tCB : PySem.W.typeIn K (.ref C_Great) = some (.type "type"))
    (hCB : PySem.W.hasDictIn K C_Great = true)
    (sCB : PySem.W.subIn K (.ref C_Great) (.ref C_BudError) = some true)
    (fn_len : PySem.W.isFn K (.ref f_m_len) = true)
    (mk : PySem.W.makesIn K C_Sum = true)
    (kc : PySem.W.keepIn K (.ref C_Sum) = true)
    (pg : PySem.W.plainGet K C_Sum Str.empty = true)
    (hd : PySem.W.hasDictIn K C_Sum = true)
    (po : PySem.W.plainOver K C_Sum = true)
    (sa : PySem.W.findIn K (.ref C_Sum) "__setattr__" = some (some (.builtin "object.__setattr__")))
    (nw : PySem.W.findIn K (.ref C_Sum) "width" = some none)
    (np : PySem.W.findIn K (.ref C_Sum) "products" = some none)
    (hcl : PySem.W.findIn K (.ref C_Sum) "__class__" = some (some (.builtin "object.__class__")))
    (hgt : PySem.W.specialIn K (.builtin "object.__class__") "__get__" = some (some (.builtin "getset_descriptor.__get__")))
    (htk : PySem.W.takesIn K (.builtin "object.__class__") = some true)
    (hmr : PySem.W.mroIn K C_Sum (.type "object") = some true)
    (slf : PySem.W.kitOne K (.ref C_Sum) (.ref C_Sum) = some true)
    (cl_law : K.lookup cc_law = some ⟨oc2, od2, .fields vs_law, sl2⟩)
    (v11 : vs_law[11]? = some (.ref Pt))
    (hd_law : PySem.W.codeHdIn K cc_law Pt = true)
    (nP : K.lookup Pt = none)
    : LamX.LawAtS l w K CX0 10 63 "_law_script" mg fa h := by
  have e := hfa.symm.trans (PySem.W.mg_of X G a_law)
  cases e
  have T : Tx mg := { len := PySem.W.mg_none_of X G z_len, range := PySem.W.mg_none_of X G z_range, zip := PySem.W.mg_none_of X G z_zip, all := PySem.W.mg_none_of X G z_all, any := PySem.W.mg_none_of X G z_any, sorted := PySem.W.mg_none_of X G z_sorted, isinstance := PySem.W.mg_none_of X G z_isinstance, bool := PySem.W.mg_none_of X G z_bool, tuple := PySem.W.mg_none_of X G z_tuple, list := PySem.W.mg_none_of X G z_list, dict := PySem.W.mg_none_of X G z_dict, str := PySem.W.mg_none_of X G z_str, ValueError := PySem.W.mg_none_of X G z_ValueError, WIDE := ⟨_, PySem.W.mg_of X G i_WIDE⟩ }
  have F_gathered := fun_mk (st := s_gathered) l_gathered c_gathered k_gathered
  have b_gathered := F_gathered.binds (ps := ["terms"]) fun _ _ _ _ _ _ us hl => match us, hl with | [_], _ => rfl
  have F_added_powers := fun_mk (st := s_added_powers) l_added_powers c_added_powers k_added_powers
  have b_added_powers := F_added_powers.binds (ps := ["one", "other"]) fun _ _ _ _ _ _ us hl => match us, hl with | [_, _], _ => rfl
  have F_multiplied := fun_mk (st := s_multiplied) l_multiplied c_multiplied k_multiplied
  have b_multiplied := F_multiplied.binds (ps := ["one", "other"]) fun _ _ _ _ _ _ us hl => match us, hl with | [_, _], _ => rfl
  have F_check_width := fun_mk (st := s_check_width) l_check_width c_check_width k_check_width
  have b_check_width := F_check_width.binds (ps := ["width", "other"]) fun _ _ _ _ _ _ us hl => match us, hl with | [_, _], _ => rfl
  have F_constant := fun_mk (st := s_constant) l_constant c_constant k_constant
  have b_constant := F_constant.binds (ps := ["width", "many"]) fun _ _ _ _ _ _ us hl => match us, hl with | [_, _], _ => rfl
  have F_law_feed := fun_mk (st := s_law_feed) l_law_feed c_law_feed k_law_feed
  have b_law_feed := F_law_feed.binds (ps := ["_law_script"]) fun _ _ _ _ _ _ us hl => match us, hl with | [_], _ => rfl
  have F_law_draw := fun_mk (st := s_law_draw) l_law_draw c_law_draw k_law_draw
  have b_law_draw := F_law_draw.binds (ps := ["_law_feed_here", "_law_many"]) fun _ _ _ _ _ _ us hl => match us, hl with | [_, _], _ => rfl
  have F_law_pick := fun_mk (st := s_law_pick) l_law_pick c_law_pick k_law_pick
  have b_law_pick := F_law_pick.binds (ps := ["_law_feed_here", "_law_row"]) fun _ _ _ _ _ _ us hl => match us, hl with | [_, _], _ => rfl
  have F_law_shuffled := fun_mk (st := s_law_shuffled) l_law_shuffled c_law_shuffled k_law_shuffled
  have b_law_shuffled := F_law_shuffled.binds (ps := ["_law_feed_here", "_law_row"]) fun _ _ _ _ _ _ us hl => match us, hl with | [_, _], _ => rfl
  have F_law_word := fun_mk (st := s_law_word) l_law_word c_law_word k_law_word
  have b_law_word := F_law_word.binds (ps := ["_law_asked"]) fun _ _ _ _ _ _ us hl => match us, hl with | [_], _ => rfl
  have F_law := fun_mk (st := s_law) l_law c_law k_law
  have F_bud_init := fun_mk (st := s_bud_init) l_bud_init c_bud_init k_bud_init
  have b_bud_init := F_bud_init.binds (ps := ["self", "word"]) fun _ _ _ _ _ _ us hl => match us, hl with | [_, _], _ => rfl
  have F_great_init := fun_mk (st := s_great_init) l_great_init c_great_init k_great_init
  have b_great_init := F_great_init.binds (ps := ["self"]) fun _ _ _ _ _ _ us hl => match us, hl with | [_], _ => rfl
  have F_m_terms := fun_mk (st := s_terms) l_m_terms c_m_terms k_m_terms
  have b_m_terms := F_m_terms.binds (ps := ["self"]) fun _ _ _ _ _ _ us hl => match us, hl with | [_], _ => rfl
  have F_m_plus := fun_mk (st := s_plus) l_m_plus c_m_plus k_m_plus
  have b_m_plus := F_m_plus.binds (ps := ["self", "other"]) fun _ _ _ _ _ _ us hl => match us, hl with | [_, _], _ => rfl
  have F_m_minus := fun_mk (st := s_minus) l_m_minus c_m_minus k_m_minus
  have b_m_minus := F_m_minus.binds (ps := ["self", "other"]) fun _ _ _ _ _ _ us hl => match us, hl with | [_, _], _ => rfl
  have F_m_times := fun_mk (st := s_times) l_m_times c_m_times k_m_times
  have b_m_times := F_m_times.binds (ps := ["self", "other"]) fun _ _ _ _ _ _ us hl => match us, hl with | [_, _], _ => rfl
  have F_m_raised := fun_mk (st := s_raised) l_m_raised c_m_raised k_m_raised
  have b_m_raised := F_m_raised.binds (ps := ["self", "many"]) fun _ _ _ _ _ _ us hl => match us, hl with | [_, _], _ => rfl
  have F_m_len := fun_mk (st := s_len) l_m_len c_m_len k_m_len
  have b_m_len := F_m_len.binds (ps := ["self"]) fun _ _ _ _ _ _ us hl => match us, hl with | [_], _ => rfl
  have g_gathered := PySem.W.mg_of X G a_gathered
  have g_added_powers := PySem.W.mg_of X G a_added_powers
  have g_multiplied := PySem.W.mg_of X G a_multiplied
  have g_check_width := PySem.W.mg_of X G a_check_width
  have g_constant := PySem.W.mg_of X G a_constant
  have g_law_feed := PySem.W.mg_of X G a_law_feed
  have g_law_draw := PySem.W.mg_of X G a_law_draw
  have g_law_pick := PySem.W.mg_of X G a_law_pick
  have g_law_shuffled := PySem.W.mg_of X G a_law_shuffled
  have g_law_word := PySem.W.mg_of X G a_law_word
  have g_law := PySem.W.mg_of X G a_law
  have S : SumC K mg C_Sum := ⟨PySem.W.mg_of X G a_Sum, ⟨pg, hd, po, sa⟩, nw, np, hcl, hgt, htk, hmr, slf, kc⟩
  have F_init : FunD K "__init__" "Sum.__init__" (defArgs s_init) (defBody s_init) (defScope s_init) [.ref e_init] [] f_init _ := ⟨⟨oc_init, od_init, .ref T_init, kV_init, dc_init, pm_init, an_init, cd_init, ct_init, sl_init, rfl, l_init, c_init, .inr ⟨by simp, T_init, _, [.ref e_init], nT, rfl, lT, rfl, .cons rfl .nil⟩, .inl rfl⟩, k_init⟩
  obtain ⟨ds, vds, b_init⟩ := F_init.binds1 (ps := ["self", "width", "terms"]) 3 1 (by simp) rfl (fun T kV doc pm an cdv ct us its hl hi => match us, its, hl, hi with | [_, _, _], [_], _, _ => ⟨_, rfl, rfl⟩)
  have vds : Vals [] ds := vds
  cases vds
  have oex : OexC K C_Great := ⟨⟨nm, q, N, bs, _, sn, sub, ab, col, dd, m0, m1, m2, m3, m5, xL, rfl⟩, saB, eCB, tCB, kCB⟩
  have TS : ErrC K mg "Great" C_Great f_great_init C_BudError := ⟨PySem.W.mg_of X G a_Great, oex, a_great_init, tIB, nwB, ⟨gaB, ggB, eCB, hCB⟩, PySem.W.exm_ref eB hB tyB sCB⟩
  have TB : ClsFn K mg "BudError" "__init__" C_BudError f_bud_init := ⟨PySem.W.mg_of X G a_BudError, sg, tyB, rdB, fcB, k_bud_init⟩
  have hcs : ∀ p ∈ [(cc_law, Pt)], p = (cc_law, Pt) := fun p hp => List.mem_singleton.mp hp
  refine ⟨PySem.W.fnOf "law" "law" (defArgs s_law) (defBody s_law) (defScope s_law) .none kV_law dc_law pm_law an_law (.ref cc_law) ct_law, [(cc_law, Pt)], spLaw K Pt, fun p hp => ?_, fun p hp => ?_, fun p hp => ?_, fun s v => .of_eq rfl, fun H a ns hl _ hT hS => ⟨a, ns, rfl, hS, hl, hT _ (List.mem_singleton.mpr rfl), fun _ => rfl⟩, fun base _ _ TBs => ?_⟩
  · rw [hcs p hp]
    exact own cc_law Pt _ _ _ _ _ _ l_law rfl rfl cl_law v11
  · rw [hcs p hp]
    exact nP
  · rw [hcs p hp]
    exact PySem.W.codeHd_of_K X hd_law
  have cDraw : Cal l.prog w K mg base CX0 1 "_law_draw" ["_law_feed_here", "_law_many"] spDraw := ⟨_, _, ok_draw F_law_draw T, g_law_draw, k_law_draw, b_law_draw⟩
  have cFeed : Cal l.prog w K mg base CX0 1 "_law_feed" ["_law_script"] (spFeed K) := ⟨_, _, ok_feed F_law_feed T, g_law_feed, k_law_feed, b_law_feed⟩
  have cPick : Cal l.prog w K mg base CX0 2 "_law_pick" ["_law_feed_here", "_law_row"] spPick := ⟨_, _, ok_pick (j := 0) F_law_pick T cDraw, g_law_pick, k_law_pick, b_law_pick⟩
  have cShuf : Cal l.prog w K mg base CX0 2 "_law_shuffled" ["_law_feed_here", "_law_row"] spShuf := ⟨_, _, ok_shuf F_law_shuffled T cDraw, g_law_shuffled, k_law_shuffled, b_law_shuffled⟩
  have cGath : Cal l.prog w K mg base CX0 1 "gathered" ["terms"] (spGath K) := ⟨_, _, ok_gath F_gathered T, g_gathered, k_gathered, b_gathered⟩
  have cAddP : Cal l.prog w K mg base CX0 1 "added_powers" ["one", "other"] spAddP := ⟨_, _, ok_added_powers F_added_powers T, g_added_powers, k_added_powers, b_added_powers⟩
  have cMul : Cal l.prog w K mg base CX0 2 "multiplied" ["one", "other"] spMul := ⟨_, _, ok_mul F_multiplied T cAddP, g_multiplied, k_multiplied, b_multiplied⟩
  have cChk : Cal l.prog w K mg base CX0 1 "check_width" ["width", "other"] spCheck := ⟨_, _, ok_check F_check_width, g_check_width, k_check_width, b_check_width⟩
  have FBI : FnOk l.prog w K mg base CX0 1 f_bud_init _ ["self", "word"] (spBudInit K) := ok_budinit F_bud_init T vv
  have FS : FnOk l.prog w K mg base CX0 2 f_great_init _ ["self"] (spErrInit K "great") := ok_greatinit F_great_init T TB FBI b_bud_init
  have FI : FnOk l.prog w K mg base (L2.CX l.prog w) 4 f_init _ ["self", "width", "terms"] (spInit K C_Sum C_Great) := ok_init F_init T S TS FS b_great_init cGath
  have M : MakX l.prog w K mg base 4 C_Sum ["self", "width", "terms"] (spInit K C_Sum C_Great) := ⟨f_init, _, ⟨mk, a_init, fn_init, kc⟩, FI, S.gl, b_init⟩
  have mTerms : MetS l.prog w K mg base 1 C_Sum "terms" ["self"] (spTermsM C_Sum) := ⟨f_m_terms, _, S.cls, ⟨a_m_terms, fn_terms, k_m_terms⟩, ok_termsM F_m_terms T S, b_m_terms⟩
  have mPlus : MetX l.prog w K mg base 6 C_Sum "plus" ["self", "other"] (spPlus 1 C_Sum C_Great) := ⟨f_m_plus, _, S.cls, ⟨a_m_plus, fn_plus, k_m_plus⟩, ok_plus F_m_plus T S cChk M, b_m_plus⟩
  have mMinus : MetX l.prog w K mg base 6 C_Sum "minus" ["self", "other"] (spPlus (-1) C_Sum C_Great) := ⟨f_m_minus, _, S.cls, ⟨a_m_minus, fn_minus, k_m_minus⟩, ok_minus F_m_minus T S cChk M, b_m_minus⟩
  have mTimes : MetX l.prog w K mg base 6 C_Sum "times" ["self", "other"] (spTimes C_Sum C_Great) := ⟨f_m_times, _, S.cls, ⟨a_m_times, fn_times, k_m_times⟩, ok_times F_m_times T S cChk cMul M, b_m_times⟩
  have cCon : CalX l.prog w K mg base 6 "constant" ["width", "many"] (spConst C_Sum) := ⟨_, _, ok_const F_constant T S M, g_constant, k_constant, b_constant⟩
  have mRaised : MetX l.prog w K mg base 7 C_Sum "raised" ["self", "many"] (spRaised C_Sum C_Great) := ⟨f_m_raised, _, S.cls, ⟨a_m_raised, fn_raised, k_m_raised⟩, ok_raised F_m_raised T S cCon mTimes, b_m_raised⟩
  exact ok_law l_law c_law T S TS cFeed cDraw cPick cShuf M mTerms mPlus mMinus mTimes mRaised a_m_len fn_len (ok_lenM F_m_len T S) b_m_len ⟨F_law_word, g_law_word, b_law_word, PySem.W.mg_of X G a_BudError, TBs _ (List.mem_singleton.mpr rfl)⟩
end Bw
open PySem PySem.W PyProof.Rows
set_option maxRecDepth 100000 in
set_option maxHeartbeats 0 in
theorem PySem.Challenge.cw_budwright_k04_sums_too_wide_holds : PySem.Challenge.rw_budwright_k04_sums_too_wide.Holds := by
  w_on; o_law; k_head; (case hw => w_witness2)
  k_fill
  refine LamX.walk_ofOwn (l := PySem.Challenge.rw_budwright_k04_sums_too_wide) (n := 63) (k := 10) (x := "_law_script") (CX := fun _ => L2.CX0) rfl (by decide) rfl ⟨rfl, by decide, by decide⟩ (by first | rfl | decide +kernel) (fun w h Y => by first | exact PySem.W.km_in_of Y | exact PySem.W.kIn_of Y) ?F (fun _ _ _ _ _ h => h)
  case F =>
    intro w mg fa h YP KX G hmg own
    refine' Bw.all_mk KX G hmg own ?a_BudError ?a_Great ?a_Sum ?a_gathered ?l_gathered ?c_gathered ?k_gathered ?a_added_powers ?l_added_powers ?c_added_powers ?k_added_powers ?a_multiplied ?l_multiplied ?c_multiplied ?k_multiplied ?a_check_width ?l_check_width ?c_check_width ?k_check_width ?a_constant ?l_constant ?c_constant ?k_constant ?a_law_feed ?l_law_feed ?c_law_feed ?k_law_feed ?a_law_draw ?l_law_draw ?c_law_draw ?k_law_draw ?a_law_pick ?l_law_pick ?c_law_pick ?k_law_pick ?a_law_shuffled ?l_law_shuffled ?c_law_shuffled ?k_law_shuffled ?a_law_word ?l_law_word ?c_law_word ?k_law_word ?a_law ?l_law ?c_law ?k_law ?a_bud_init ?l_bud_init ?c_bud_init ?k_bud_init ?a_great_init ?l_great_init ?c_great_init ?k_great_init ?a_m_terms ?l_m_terms ?c_m_terms ?k_m_terms ?a_m_plus ?l_m_plus ?c_m_plus ?k_m_plus ?a_m_minus ?l_m_minus ?c_m_minus ?k_m_minus ?a_m_times ?l_m_times ?c_m_times ?k_m_times ?a_m_raised ?l_m_raised ?c_m_raised ?k_m_raised ?a_m_len ?l_m_len ?c_m_len ?k_m_len ?z_len ?z_range ?z_zip ?z_all ?z_any ?z_sorted ?z_isinstance ?z_bool ?z_tuple ?z_list ?z_dict ?z_str ?z_ValueError ?i_WIDE ?a_init ?l_init ?c_init ?k_init ?lT ?fn_init ?fn_terms ?fn_plus ?fn_minus ?fn_times ?fn_raised ?lE ?sg ?tyB ?rdB ?fcB ?vv ?eB ?hB ?xL ?saB ?gaB ?ggB ?nwB ?tIB ?kCB ?eCB ?tCB ?hCB ?sCB ?fn_len ?mk ?kc ?pg ?hd ?po ?sa ?nw ?np ?hcl ?hgt ?htk ?hmr ?slf ?cl_law ?v11 ?hd_law ?nP
    (case a_BudError => k_is)
    (case a_Great => k_is)
    (case a_Sum => k_is)
    (case a_gathered => k_is)
    (case l_gathered => k_is)
    (case c_gathered => k_is)
    (case k_gathered => k_is)
    (case a_added_powers => k_is)
    (case l_added_powers => k_is)
    (case c_added_powers => k_is)
    (case k_added_powers => k_is)
    (case a_multiplied => k_is)
    (case l_multiplied => k_is)
    (case c_multiplied => k_is)
    (case k_multiplied => k_is)
    (case a_check_width => k_is)
    (case l_check_width => k_is)
    (case c_check_width => k_is)
    (case k_check_width => k_is)
    (case a_constant => k_is)
    (case l_constant => k_is)
    (case c_constant => k_is)
    (case k_constant => k_is)
    (case a_law_feed => k_is)
    (case l_law_feed => k_is)
    (case c_law_feed => k_is)
    (case k_law_feed => k_is)
    (case a_law_draw => k_is)
    (case l_law_draw => k_is)
    (case c_law_draw => k_is)
    (case k_law_draw => k_is)
    (case a_law_pick => k_is)
    (case l_law_pick => k_is)
    (case c_law_pick => k_is)
    (case k_law_pick => k_is)
    (case a_law_shuffled => k_is)
    (case l_law_shuffled => k_is)
    (case c_law_shuffled => k_is)
    (case k_law_shuffled => k_is)
    (case a_law_word => k_is)
    (case l_law_word => k_is)
    (case c_law_word => k_is)
    (case k_law_word => k_is)
    (case a_law => k_is)
    (case l_law => k_is)
    (case c_law => k_is)
    (case k_law => k_is)
    (case a_bud_init => k_is)
    (case l_bud_init => k_is)
    (case c_bud_init => k_is)
    (case k_bud_init => k_is)
    (case a_great_init => k_is)
    (case l_great_init => k_is)
    (case c_great_init => k_is)
    (case k_great_init => k_is)
    (case a_m_terms => k_is)
    (case l_m_terms => k_is)
    (case c_m_terms => k_is)
    (case k_m_terms => k_is)
    (case a_m_plus => k_is)
    (case l_m_plus => k_is)
    (case c_m_plus => k_is)
    (case k_m_plus => k_is)
    (case a_m_minus => k_is)
    (case l_m_minus => k_is)
    (case c_m_minus => k_is)
    (case k_m_minus => k_is)
    (case a_m_times => k_is)
    (case l_m_times => k_is)
    (case c_m_times => k_is)
    (case k_m_times => k_is)
    (case a_m_raised => k_is)
    (case l_m_raised => k_is)
    (case c_m_raised => k_is)
    (case k_m_raised => k_is)
    (case a_m_len => k_is)
    (case l_m_len => k_is)
    (case c_m_len => k_is)
    (case k_m_len => k_is)
    (case z_len => k_is)
    (case z_range => k_is)
    (case z_zip => k_is)
    (case z_all => k_is)
    (case z_any => k_is)
    (case z_sorted => k_is)
    (case z_isinstance => k_is)
    (case z_bool => k_is)
    (case z_tuple => k_is)
    (case z_list => k_is)
    (case z_dict => k_is)
    (case z_str => k_is)
    (case z_ValueError => k_is)
    (case i_WIDE => k_is)
    (case a_init => k_is)
    (case l_init => k_is)
    (case c_init => k_is)
    (case k_init => k_is)
    (case lT => k_is)
    (case fn_init => k_is)
    (case fn_terms => k_is)
    (case fn_plus => k_is)
    (case fn_minus => k_is)
    (case fn_times => k_is)
    (case fn_raised => k_is)
    (case lE => k_is)
    (case sg => k_is)
    (case tyB => k_is)
    (case rdB => k_is)
    (case fcB => k_is)
    (case vv => k_is)
    (case eB => k_is)
    (case hB => k_is)
    (case xL => k_is)
    (case saB => k_is)
    (case gaB => k_is)
    (case ggB => k_is)
    (case nwB => k_is)
    (case tIB => k_is)
    (case kCB => k_is)
    (case eCB => k_is)
    (case tCB => k_is)
    (case hCB => k_is)
    (case sCB => first | rfl | k_is)
    (case fn_len => k_is)
    (case mk => k_is)
    (case kc => k_is)
    (case pg => k_is)
    (case hd => k_is)
    (case po => k_is)
    (case sa => k_is)
    (case nw => k_is)
    (case np => k_is)
    (case hcl => k_is)
    (case hgt => k_is)
    (case htk => first | k_is | rfl)
    (case hmr => first | k_is | rfl)
    (case slf => first | k_is | rfl)
    (case cl_law => k_is)
    (case v11 => rfl)
    (case hd_law => first | k_is | rfl | decide +kernel)
    (case nP => first | rfl | k_is | decide +kernel)
