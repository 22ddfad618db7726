import PyProof.Rows.All
import Wide.All
import OpenK.AllK
import Wide.FinOn
import HandS.ForMost
import HandS.ForExc
import HandS.Codes
import HandS.IsInst
import HandS.Zip
import HandS.Walk
import HandS.TupAny
import HandS.TupMul
import HandS.Conv
import HandS.Flow
import HandS.ExcInit
import HandS.SortOrd
import HandS.SortRule
import HandS.SortKw
import HandS.NamedTupSort
import KE.KDictPairs
import HandS.OwnEq
import HandS.Style
import PyProof.InstEq
import HandS.ExcField
import HandS.CallSlots
import HandS.More
import HandS.Deep
import HandS.TupLe
import KE.KRevSl
import KE.GoesMore
import HandS.Lambda
import HandS.EndOwn
import HandS.NestedK
import HandS.Wide
import HandS.ExcIs
import PySem.Challenge.RW_budwright_k47_cuts_of_polygons
set_option Elab.async false
set_option linter.all false
set_option maxRecDepth 100000
namespace Bw
open PySem PySem.Spec PyProof.Rows L2
/-! ### a def that may be called, by its name -/
structure Cal (P : Program) (w : World) (K : PySem.W.Frag) (mg : Str → Option Value) (base : Heap) (CX : CXT) (k : Nat) (x : Str) (ps : List Str) (sp : Sp) : Prop where
  ex : ∃ (f : Addr) (fd : FuncData), FnOk P w K mg base CX k f fd ps sp ∧ mg x = some (.ref f) ∧ PySem.W.keepIn K (.ref f) = true ∧ Binds K fd ps []
section
variable {X : Cx} {x : Str} {ps : List Str} {sp : Sp} {k : Nat} {e : Expr} {es : List Expr} {p pos : Pos} {t : TA}
theorem pe_cal (C : Cal X.prog X.w X.K X.mg X.base CX0 k x ps sp) (hr : Room k X.A) (hg : Gl X x) (ha : PA X (e :: es) t) (hdb : (x == ("__debug__" : Str)) = false := by decide) (he : starEach (e :: es) X.env = (false, eval e X.env) :: starEach es X.env := by rfl)
    (hpl : (backTo pos (starEach es X.env)).any (·.1) = false := by rfl) : PE X (.Call (.Name x p) (e :: es) [] pos) (tCall sp [] E0 t) := by
  obtain ⟨f, fd, F, hm, hk, hb⟩ := C.ex
  exact pe_call F hr hg hm hk hb .nil pass0 ha hdb he hpl
end
/-! ### the rules with the written part named: within comprehensions the reading must not hang on the block -/
section
variable {X : Cx} {K : PySem.W.Frag}
def rTupOf (K : PySem.W.Frag) : List V → Hp → VK → Prop := fun xs H Q => ∃ p ys, xs = [V.ref p] ∧ ((SqL K H p ys ∧ ∀ l, H l = none → Q (.ref l) (upd H l (.tup ys))) ∨ (SqT K H p ys ∧ Q (.ref p) H))
def rLstOf (K : PySem.W.Frag) : List V → Hp → VK → Prop := fun xs H Q => ∃ p ys, xs = [V.ref p] ∧ (SqL K H p ys ∨ SqT K H p ys) ∧ ∀ l, H l = none → Q (.ref l) (upd H l (.lst ys))
def rLenOf (K : PySem.W.Frag) : List V → Hp → VK → Prop := fun xs H Q => ∃ p ys, xs = [V.ref p] ∧ (SqL K H p ys ∨ SqT K H p ys) ∧ Q (.int ys.length) H
theorem c_tup (h : X.K = K := by rfl) : CallR X (.type "tuple") (rTupOf K) := by
  subst h
  exact call_tuple_of
theorem c_lst (h : X.K = K := by rfl) : CallR X (.type "list") (rLstOf K) := by
  subst h
  exact call_list_of
theorem c_len (h : X.K = K := by rfl) : CallR X (.builtin "len") (rLenOf K) := by
  subst h
  exact call_len_seq
theorem c_isi (h : X.K = K := by rfl) : CallR X (.builtin "isinstance") (rIsi K) := by
  subst h
  exact call_isi
theorem c_isiT (h : X.K = K := by rfl) : CallR X (.builtin "isinstance") (rIsiT K) := by
  subst h
  exact call_isiT
theorem c_all (hc : X.calm = true) (h : X.K = K := by rfl) : CallR X (.builtin "all") (rAll K) := by
  subst h
  exact cr_all hc
theorem c_any (hc : X.calm = true) (h : X.K = K := by rfl) : CallR X (.builtin "any") (rAny K) := by
  subst h
  exact cr_any hc
theorem i_list (h : X.K = K := by rfl) : IxR X (rIxL K) := by
  subst h
  exact ix_list
theorem i_tup (h : X.K = K := by rfl) : IxR X (rIxT K) := by
  subst h
  exact ix_tup
theorem l_list (h : X.K = K := by rfl) : SlR X (rSlL K) := by
  subst h
  exact sl_list
theorem l_tup (h : X.K = K := by rfl) : SlR X (rSlA K) := by
  subst h
  exact sl_tupA
theorem o_cat (h : X.K = K := by rfl) : OpR X (binaryOp .Add) (rCatA K) := by
  subst h
  exact op_catA
theorem o_in (h : X.K = K := by rfl) : OpR X (compareOp .In) (rIn K false) := by
  subst h
  exact op_in_seq
theorem o_notin (h : X.K = K := by rfl) : OpR X (compareOp .NotIn) (rIn K true) := by
  subst h
  exact op_notIn_seq
theorem p_list {tg l : Expr} {tl : TE} (hl : PE X l tl) (h : X.K = K := by rfl) : PI X tg l (iList K tl) := by
  subst h
  exact pi_list hl
theorem p_tup {tg l : Expr} {tl : TE} (hl : PE X l tl) (h : X.K = K := by rfl) : PI X tg l (iTup K tl) := by
  subst h
  exact pi_tup hl
theorem g_tup {es : List Expr} {k : Nat} {t : TGs} {n : Nat} {pos : Pos} (hc : X.calm = true) (h : PGs X es t) (hn : (assignEach es X.env).length = n := by rfl) (hst : (assignEach es X.env).findIdx? (·.1) = none := by rfl) (hK : X.K = K := by rfl) : PG X (.Tuple es k pos) (gTup K n t) := by
  subst hK
  exact pg_tup hc h hn hst
theorem pe_gint {x : Str} {pos : Pos} {i : Int} (hg : Gl X x) (hm : ∃ t, X.mg x = some (.int i t)) (hdb : (x == ("__debug__" : Str)) = false := by decide) : PE X (.Name x pos) (tC (.int i)) := by
  obtain ⟨t, hm⟩ := hm
  exact pe_glob hg hm ⟨t, rfl⟩ (hd := hdb)
end
/-! ### heaps -/
theorem same_upd {H : Hp} {p : Addr} {o : HO} (h : H p = none) : Same H (upd H p o) := fun b x e => by
  rw [upd_ne (ne_of_none e h)]
  exact e
/-- all but what stands at f is as it was -/
def SameBut (f : Addr) (H H' : Hp) : Prop := ∀ b o, b ≠ f → H b = some o → H' b = some o
theorem SameBut.refl (f : Addr) (H : Hp) : SameBut f H H := fun _ _ _ h => h
theorem SameBut.trans {f : Addr} {H H1 H2 : Hp} (a : SameBut f H H1) (b : SameBut f H1 H2) : SameBut f H H2 := fun c o n h => b c o n (a c o n h)
theorem SameBut.upd {f : Addr} {H H1 : Hp} {o : HO} (a : SameBut f H H1) : SameBut f H (upd H1 f o) := fun c o n h => by
  rw [upd_ne n]
  exact a c o n h
theorem SameBut.new {f p : Addr} {H H1 : Hp} {o : HO} (a : SameBut f H H1) (h : H1 p = none) : SameBut f H (L2.upd H1 p o) := fun c o n q => by
  have z := a c o n q
  rw [upd_ne (ne_of_none z h)]
  exact z
theorem _root_.L2.Same.but {f : Addr} {H H1 : Hp} (a : Same H H1) : SameBut f H H1 := fun c o _ h => a c o h
theorem SameBut.same {f : Addr} {H0 H H1 : Hp} (a : SameBut f H H1) (h : H0 f = none) (s : Same H0 H) : Same H0 H1 := fun c o q => a c o (ne_of_none q h) (s c o q)
/-! ### what the law draws from -/
def FeedAt (H : Hp) (f l : Addr) : Prop := ∃ (ns : List Int) (i : Nat) (n m c : Int), l ≠ f ∧ H f = some (.lst [.ref l, .int i, .int n, .int m, .int c]) ∧ H l = some (.lst (ns.map V.int)) ∧ i ≤ ns.length ∧ 0 ≤ n ∧ 0 ≤ m ∧ m < 2147483647
theorem FeedAt.same {H H' : Hp} {f l : Addr} (s : Same H H') (h : FeedAt H f l) : FeedAt H' f l := by
  obtain ⟨ns, i, n, m, c, a, b, d, r⟩ := h
  exact ⟨ns, i, n, m, c, a, s _ _ b, s _ _ d, r⟩
theorem FeedAt.put {H : Hp} {f l b : Addr} {o : HO} (h : FeedAt H f l) (n1 : b ≠ f) (n2 : b ≠ l) : FeedAt (upd H b o) f l := by
  obtain ⟨ns, i, n, m, c, a, b', d, r⟩ := h
  exact ⟨ns, i, n, m, c, a, by rw [upd_ne (Ne.symm n1)]; exact b', by rw [upd_ne (Ne.symm n2)]; exact d, r⟩
theorem FeedAt.ne {H : Hp} {f l p : Addr} (h : FeedAt H f l) (n : H p = none) : p ≠ f := by
  obtain ⟨_, _, _, _, _, _, b, _⟩ := h
  exact Ne.symm (ne_of_none b n)
theorem FeedAt.ne2 {H : Hp} {f l p : Addr} (h : FeedAt H f l) (n : H p = none) : p ≠ l := by
  obtain ⟨_, _, _, _, _, _, _, d, _⟩ := h
  exact Ne.symm (ne_of_none d n)
theorem FeedAt.tup {H : Hp} {f l p : Addr} {xs : List V} (h : FeedAt H f l) (n : H p = some (.tup xs)) : p ≠ f := by
  obtain ⟨_, _, _, _, _, _, b, _⟩ := h
  exact ne_of n b (by intro z; cases z)
theorem SameBut.updN {f b : Addr} {H H1 : Hp} {o : HO} (a : SameBut f H H1) (h : H b = none) : SameBut f H (L2.upd H1 b o) := fun c o n q => by
  rw [upd_ne (ne_of_none q h)]
  exact a c o n q
theorem int_at {ns : List Int} {i : Nat} {y : V} (h : (ns.map V.int)[i]? = some y) : ∃ u, ns[i]? = some u ∧ y = .int u := by
  rw [List.getElem?_map] at h
  cases e : ns[i]? with
  | none =>
    rw [e] at h
    cases h
  | some u =>
    rw [e] at h
    exact ⟨u, rfl, (Option.some.inj h).symm⟩
end Bw
set_option Elab.async false
set_option linter.all false
set_option maxRecDepth 100000
set_option maxHeartbeats 4000000
namespace Bw
open PySem PySem.Spec PyProof.Rows L2
theorem tuple_mul1 (l : Addr) (items : Array Value) (n : Nat) (dd : Option Addr) (sl : Array (Option Value)) (u : Tok) :
    Meets (Builtin.«tuple.__mul__» ⟨[.ref l, .int 1 u], []⟩) (fun _ R s => s.heap.get? l = some { cls := .type "tuple", dict := dd, data := .seq items n, slots := sl } ∧ R (.ok (.ret (Value.ref l))) s) :=
  .of_wp fun prog w A R s h => by
    obtain ⟨hp, g, d, tk, os⟩ := s
    obtain ⟨hl, h⟩ := h
    have f1 := AutoSeq1.idx_int
    have c1 : (items.isEmpty || (1 : Int) == 1) = true := by simp
    wp_walk using wpAny_loadPart' hl
    repeat (first
      | (refine wpAny_ite_true (decide_eq_true c1) ?_; wp_walk using wpAny_loadPart' hl)
      | (refine wpAny_ite_false (by decide) ?_; wp_walk using wpAny_loadPart' hl))
    exact ⟨_, rfl, h⟩
/-- t * k, k from 1 on -/
def rRep1 (K : PySem.W.Frag) : R2 := fun x y H Q => ∃ l k xs, x = .ref l ∧ y = .int k ∧ SqT K H l xs ∧ xs ≠ [] ∧ 1 ≤ k ∧ k ≤ 1000 ∧ xs.length ≤ 1000 ∧ (k = 1 → Q (.ref l) H) ∧ (2 ≤ k → ∀ p, H p = none → Q (.ref p) (upd H p (.tup (List.replicate k.toNat xs).flatten)))
theorem o_rep {X : Cx} {K : PySem.W.Frag} (hK : X.K = K := by rfl) : OpR X (binaryOp .Mult) (rRep1 K) := by
  subst hK
  intro pins s σ H x y v u Q I rx ry h
  obtain ⟨l, k, xs, rfl, rfl, hT, hne, h1, h2, hz, q1, q2⟩ := h
  by_cases hk : k = 1
  · subst hk
    cases rx
    obtain ⟨t, rfl⟩ := ry
    obtain ⟨its, r, ⟨⟨cls, dd, data, sl⟩, ho, hc, n, hd⟩, hs⟩ := I.tuple hT
    simp only at hc hd
    subst hc hd
    refine wpAny_binaryOp_repeat_ref (T := "tuple") (U := "int") (by decide) ⟨_, ho, rfl⟩ (fun s' => typeIs_int s' 1 t) noFill_tuple_mul F.fills_int_mul F.slot_int_rmul repeat_tuple F.slot_int_index.lookup
      (call_meets F.slot_int_rmul (typeIs_int s 1 t) F.entry_int_rmul (F.args_int_rmul_2 _ _) (int_rmul_tuple 1 t l its.toArray n dd sl)
        ⟨ho, rfl, ⟨_, ho, rfl⟩, call_meets F.slot_tuple_mul ⟨_, ho, rfl⟩ F.entry_tuple_mul (F.args_tuple_mul_2 _ _) (tuple_mul1 l its.toArray n dd sl t) ⟨ho, ?_⟩⟩)
    exact ⟨.ref l, H, I, rfl, q1 rfl⟩
  · exact op_repT pins s σ H _ _ v u Q I rx ry ⟨l, k, xs, rfl, rfl, hT, hne, by omega, h2, hz, q2 (by omega)⟩
end Bw
set_option Elab.async false
set_option linter.all false
set_option maxRecDepth 100000
set_option maxHeartbeats 4000000
namespace Bw
open PySem PySem.Spec PyProof.Rows L2
/-! ### tuples of ints in order -/
def IsTupI (h : Heap) (v : Value) (p : List Int) : Prop := ∃ a o its n, v = .ref a ∧ h.get? a = some o ∧ o.cls = .type "tuple" ∧ o.data = .seq its n ∧ IntsAre its.toList p
theorem IsTupI.keeps {h h' : Heap} {v : Value} {p : List Int} (x : IsTupI h v p) (k : ∀ b o, h.get? b = some o → o.cls = .type "tuple" → h'.get? b = some o) : IsTupI h' v p := by
  obtain ⟨a, o, its, n, e, ho, hc, hd, hi⟩ := x
  exact ⟨a, o, its, n, e, k _ _ ho hc, hc, hd, hi⟩
section
variable {prog : Program} {w : World} {A : Around} {s : Shared}
theorem kat_ints {b : Bool} {Q : Bool → Shared → Prop} : ∀ {ps : List Value} {p : List Int}, IntsAre ps p → ∀ {qs : List Value} {q : List Int}, IntsAre qs q → ∀ (i : Nat) (fin : Bool), fin = decide (ps.length < qs.length) → Q (HT.lexLt p q) s → PySem.W.KatLex prog w A b fin Q (ps.zip qs) i s
  | _, _, .nil, _, _, .nil, i, fin, hf, hq => by
    subst hf
    exact PySem.W.kat_nil hq
  | _, _, .nil, _, _, .cons _ _ _, i, fin, hf, hq => by
    have e : fin = true := by
      rw [hf]
      exact decide_eq_true (by rw [List.length_cons]; exact Nat.succ_pos _)
    subst e
    exact PySem.W.kat_nil hq
  | _, _, .cons _ _ _, _, _, .nil, i, fin, hf, hq => by
    have e : fin = false := by
      rw [hf]
      exact decide_eq_false (by rw [List.length_nil]; omega)
    subst e
    exact PySem.W.kat_nil hq
  | _, _, .cons x t r, _, _, .cons y u r', i, fin, hf, hq => by
    rw [List.zip_cons_cons]
    refine PySem.W.kat_cons (SeqAt.EqAt.int_int _ _ _ _ prog w _ _ ?_)
    rw [HT.lexLt_cons] at hq
    refine PySem.W.kat_go (fun e1 => ?_) (fun e1 => ?_)
    · have ex : x = y := by simpa using e1
      rw [if_pos ex] at hq
      exact PySem.W.kat_yes (kat_ints r r' (i + 1) fin (by rw [hf, List.length_cons, List.length_cons]; congr 1; simp) hq)
    · have ex : ¬ x = y := by simpa using e1
      rw [if_neg ex] at hq
      exact PySem.W.kat_no (TS.oneLt_ints _ hq)
theorem tup_cmp {vs : List Value} {k : Value → List Int} (hp : ∀ v ∈ vs, IsTupI s.heap v (k v)) : SrtO.Cmp prog w A s (tuples' true) (fun p => p.1 ∈ vs) (SrtO.lt2 fun v u => HT.lexLt (k v) (k u)) := by
  intro p q hm hm'
  obtain ⟨a, o, its, n, e, ho, hc, hd, hi⟩ := hp _ hm
  obtain ⟨a', o', its', n', e', ho', hc', hd', hi'⟩ := hp _ hm'
  show wpAny (model prog w) A (keyLt' (tuples' true) p.1 q.1) (fun r s' => s' = s ∧ r = HT.lexLt (k p.1) (k q.1)) (fun _ _ => False) s
  generalize k p.1 = x at hi ⊢
  generalize k q.1 = y at hi' ⊢
  rw [e, e']
  exact PySem.W.kat_lt ho hd ho' hd' (kat_ints hi hi' 0 _ (by rw [Array.length_toList, Array.length_toList]) ⟨rfl, rfl⟩)
theorem firsts_tup {h : Heap} : ∀ {vs : List Value}, (∀ v ∈ vs, ∃ x p, IsTupI h v (x :: p)) → ∃ fs : List Value, PySem.W.KatTups h vs fs ∧ fs.length = vs.length ∧ ∀ f ∈ fs, ∃ x t, f = Value.int x t
  | [], _ => ⟨[], PySem.W.KatTups.nil, rfl, fun _ hm => by simp at hm⟩
  | v :: vs, hp => by
    obtain ⟨fs, h1, h2, h3⟩ := firsts_tup (vs := vs) fun v' hm => hp v' (List.mem_cons_of_mem _ hm)
    obtain ⟨x, p, a, o, its, n, e, ho, hc, hd, hi⟩ := hp v (List.mem_cons_self ..)
    subst e
    cases hl : its.toList with
    | nil =>
      rw [hl] at hi
      cases hi
    | cons f r =>
      rw [hl] at hi
      cases hi with
      | cons _ t hr =>
        refine ⟨.int x t :: fs, PySem.W.KatTups.cons ho hc hd (by rw [← Array.getElem?_toList, hl]; rfl) h1, by rw [List.length_cons, List.length_cons, h2], fun g hg => ?_⟩
        rcases List.mem_cons.mp hg with rfl | hg
        · exact ⟨x, t, rfl⟩
        · exact h3 g hg
theorem tups_sortable {a : Addr} {vs : List Value} {k : Value → List Int} (h0 : 0 < vs.length) (hp : ∀ v ∈ vs, IsTupI s.heap v (k v)) (hne : ∀ v ∈ vs, k v ≠ []) (ha : ∀ o, s.heap.get? a = some o → o.cls ≠ .type "tuple") : SrtO.SortableO prog w A s a vs fun v u => HT.lexLt (k v) (k u) := by
  intro h' keep
  have hp' : ∀ v ∈ vs, IsTupI h' v (k v) := fun v hm => (hp v hm).keeps fun b o e c => keep b o (fun z => by subst z; exact ha o e c) e
  obtain ⟨fs, h1, h2, h3⟩ := firsts_tup fun v hm => by
    have x := hp' v hm
    cases e : k v with
    | nil => exact absurd e (hne v hm)
    | cons y p =>
      rw [e] at x
      exact ⟨y, p, x⟩
  refine ⟨tuples' true, fun Q E hq => ?_, tup_cmp hp'⟩
  have e0 : (Value.type "int" != Value.type "tuple") = true := by decide +kernel
  refine PySem.W.kat_kind (T := .type "int") h1 (by rw [h2]; exact h0) (fun g hg => ?_) rfl (by rw [e0]; exact hq)
  obtain ⟨x, t, rfl⟩ := h3 g hg
  exact PySem.W.Looks.now
end
/-! ### as rules of the layer -/
def unInt : V → Int
  | .int i => i
  | _ => 0
def unRef : Value → Addr
  | .ref a => a
  | _ => 0
/-- the ints of the tuple at b -/
def keyOf (H : Hp) (b : Addr) : List Int := match H b with
  | some (.tup xs) => xs.map unInt
  | _ => []
theorem keyOf_at {H : Hp} {b : Addr} {q : List Int} (h : H b = some (.tup (q.map V.int))) : keyOf H b = q := by
  unfold keyOf
  rw [h]
  show (q.map V.int).map unInt = q
  rw [List.map_map]
  have e : unInt ∘ V.int = id := rfl
  rw [e, List.map_id]
theorem unRef_map : ∀ {us : List Value} {ts : List Addr}, us = ts.map Value.ref → us.map unRef = ts
  | _, ts, rfl => by
    rw [List.map_map]
    have e : unRef ∘ Value.ref = id := rfl
    rw [e, List.map_id]
theorem ref_map : ∀ {us : List Value} {ts : List Addr}, (∀ u ∈ us, u ∈ ts.map Value.ref) → us = (us.map unRef).map Value.ref
  | [], _, _ => rfl
  | u :: us, ts, h => by
    obtain ⟨t, _, e⟩ := List.mem_map.mp (h u (List.mem_cons_self ..))
    subst e
    show _ = Value.ref t :: (us.map unRef).map Value.ref
    rw [← ref_map (ts := ts) fun v hv => h v (List.mem_cons_of_mem _ hv)]
section
variable {X : Cx}
theorem tupI_of {pins : List (Addr × Obj)} {s : Shared} {σ : L2.St} {H : Hp} (I : L2.Inv X pins σ H s) {t : Addr} {q : List Int} (ht : H t = some (.tup (q.map V.int))) : IsTupI s.heap (.ref t) (keyOf H t) := by
  rw [keyOf_at ht]
  obtain ⟨_, its2, r2, o, ho, hc, n, hd⟩ := I.hok _ _ ht
  exact ⟨t, o, _, n, rfl, ho, hc, hd, r2.ints⟩
/-- sorted(xs), a list of tuples of ints: rising -/
def rSortTI (K : PySem.W.Frag) : List V → Hp → VK → Prop := fun vs H Q => ∃ (a : Addr) (ts : List Addr), vs = [V.ref a] ∧ SqL K H a (ts.map V.ref) ∧ (∀ t ∈ ts, ∃ q : List Int, H t = some (.tup (q.map V.int))) ∧ (2 ≤ ts.length → ∀ t ∈ ts, keyOf H t ≠ []) ∧
  ∀ (ts' : List Addr) (p : Addr), ts'.Perm ts → ts'.Pairwise (fun x y => HT.lexLt (keyOf H y) (keyOf H x) = false) → H p = none → Q (.ref p) (upd H p (.lst (ts'.map V.ref)))
theorem cr_sortTI {K : PySem.W.Frag} (hK : X.K = K := by rfl) : CallR X (.builtin "sorted") (rSortTI K) := by
  subst hK
  intro pins s σ H vs us Q I r h
  obtain ⟨a, ts, rfl, hs, hx, hne, q⟩ := h
  obtain ⟨its, rv, hl, hz⟩ := I.list hs
  obtain ⟨u, rfl, ru⟩ := vals1 r
  obtain rfl : u = Value.ref a := ru
  have ei := refs_at rv
  have lz : its.length ≤ sizeLine := by
    rw [← rv.length]
    exact hz
  have hk : ∀ (h₁ : Heap), (∀ b o, s.heap.get? b = some o → h₁.get? b = some o) → ∀ v ∈ its, IsTupI h₁ v (keyOf H (unRef v)) := fun h₁ kk v hv => by
    rw [ei] at hv
    obtain ⟨t, ht, rfl⟩ := List.mem_map.mp hv
    obtain ⟨q', hq'⟩ := hx t ht
    exact (tupI_of I hq').keeps fun b o e _ => kk b o e
  refine SrtO.sorted_ord (NtL.swo_lexL fun v => keyOf H (unRef v)) hl.isList lz (fun h2 h₁ a' ha kk => ?_) fun out hs hb => ?_
  · refine tups_sortable (s := { s with heap := h₁ }) (by omega) (hk h₁ fun b o e => (kk b o e).2) (fun v hv => ?_) fun o e => ?_
    · rw [ei] at hv h2
      obtain ⟨t, ht, rfl⟩ := List.mem_map.mp hv
      rw [List.length_map] at h2
      exact hne h2 t ht
    · have e' : some o = some (seqObj "list" its.toArray 0) := e.symm.trans ha
      cases e'
      intro c
      exact absurd (Value.type.inj c) (by decide)
  · have hm : ∀ u ∈ out, u ∈ ts.map Value.ref := fun u hu => by
      rw [← ei]
      exact hb.perm.mem_iff.mp hu
    have eo := ref_map hm
    have hp : (out.map unRef).Perm ts := by
      have z := hb.perm.map unRef
      rw [unRef_map ei] at z
      exact z
    obtain ⟨n, hn⟩ := PyProof.Rows.sortedAll_at s.heap its out.toArray
    refine ⟨.ref (s.heap.objs.size + 1), upd H (s.heap.objs.size + 1) (.lst ((out.map unRef).map V.ref)), I.laid (t' := s.toks) (fun b o e => PyProof.Rows.sortedAll_old e) (Nat.le_succ _) ⟨?_, out, n, ?_, hn⟩, rfl, q _ _ hp (List.pairwise_map.mpr hs) (I.hok.fresh (Nat.le_succ _))⟩
    · rw [List.length_map, hp.length_eq, ← List.length_map (f := V.ref)]
      exact hz
    · have z := vals_refs (out.map unRef)
      rw [← eo] at z
      exact z
/-- the key tuples of a dict, as they are collected -/
theorem acc_keys {P : Program} {w : World} {es : Array DictEntry} {ks : List (List Key × Addr × Value)} {acc : Array Value} (he : es.toList = ks.map (entryOfKey (tupleKind (mixKind P w)))) (it : ItemsOf (fun i v => ∃ en : DictEntry, es[i]? = some en ∧ v = en.key) acc es.size) :
    acc.toList = (ks.map fun x => x.2.1).map Value.ref := by
  have l1 : es.size = ks.length := size_of_entries he
  apply List.ext_getElem?
  intro j
  rw [List.getElem?_map, List.getElem?_map]
  cases hj : acc.toList[j]? with
  | none =>
    have h1 := List.getElem?_eq_none_iff.mp hj
    rw [Array.length_toList, it.1] at h1
    rw [List.getElem?_eq_none (show ks.length ≤ j by omega)]
    rfl
  | some v =>
    obtain ⟨en, hen, hv⟩ := it.2 j v (by rw [← Array.getElem?_toList]; exact hj)
    have qe := entry_at he j
    rw [hen] at qe
    cases hb : ks[j]? with
    | none =>
      rw [hb] at qe
      cases qe
    | some b =>
      rw [hb] at qe
      have e2 := Option.some.inj qe
      rw [hv, e2]
      rfl
/-- the keys of a dict, tuples of ints -/
def KeysI (kvs : List (List Key × V)) (ps : List (List Int)) : Prop := kvs.map (·.1) = ps.map (List.map Sum.inl)
/-- sorted(d, reverse=True), a dict whose keys are tuples of ints: falling -/
def rSortDT : List V → List V → Hp → VK → Prop := fun vs zs H Q => ∃ (d : Addr) (kvs : List (List Key × V)) (ps : List (List Int)), vs = [V.ref d] ∧ zs = [.bl true] ∧ Rd H d (.dT kvs) ∧ KeysI kvs ps ∧ (2 ≤ ps.length → ∀ q ∈ ps, q ≠ []) ∧
  ∀ (bs : List Addr) (p : Addr), (∀ b ∈ bs, ∃ q : List Int, H b = some (.tup (q.map V.int))) → (bs.map (keyOf H)).Perm ps → bs.Pairwise (fun x y => HT.lexLt (keyOf H x) (keyOf H y) = false) → H p = none → Q (.ref p) (upd H p (.lst (bs.map V.ref)))
theorem keys_kt {H : Hp} : ∀ {kvs : List (List Key × V)} {ks : List (List Key × Addr × Value)} {ps : List (List Int)}, KT H kvs ks → KeysI kvs ps → (∀ b ∈ ks.map (fun x => x.2.1), ∃ q : List Int, H b = some (.tup (q.map V.int))) ∧ (ks.map fun x => x.2.1).map (keyOf H) = ps
  | _, _, ps, .nil, h => by
    cases ps with
    | nil => exact ⟨fun b hb => by simp at hb, rfl⟩
    | cons q ps => cases h
  | _, _, ps, .cons (a := kv) (b := x) hx t, h => by
    cases ps with
    | nil => cases h
    | cons q ps =>
      have h' : kv.1 :: _ = q.map Sum.inl :: ps.map (List.map Sum.inl) := h
      obtain ⟨e1, e2⟩ := List.cons.inj h'
      obtain ⟨i1, i2⟩ := keys_kt t e2
      have hq : H x.2.1 = some (.tup (q.map V.int)) := by
        rw [hx.2.1, e1, List.map_map]
        rfl
      refine ⟨fun b hb => ?_, ?_⟩
      · rcases List.mem_cons.mp hb with rfl | hb
        · exact ⟨q, hq⟩
        · exact i1 b hb
      · show keyOf H x.2.1 :: _ = q :: ps
        rw [keyOf_at hq, i2]
theorem cr_sortDT (hc : X.calm = true) : CallRK X (.builtin "sorted") [Str.ofString "reverse"] rSortDT := by
  intro pins s σ H vs zs us ws Q I r rz h
  obtain ⟨d, kvs, ps, rfl, rfl, hd, hK, hne, q⟩ := h
  obtain rfl := Vals.ref1 r
  obtain ⟨w1, rfl, e1⟩ := vals1 rz
  obtain rfl : w1 = Value.bool true := e1
  obtain ⟨z, hs, ks, pr, o, es, ep, ho, hx, hdt, he, hn⟩ := (show ObjOk X.prog X.w H s.heap d (.dT kvs) from hd.ok I.hok)
  have l1 : es.size = ks.length := size_of_entries he
  have l2 : kvs.length = ks.length := Paired.length pr
  obtain ⟨k1, k2⟩ := keys_kt pr hK
  have l3 : ks.length = ps.length := by
    rw [← k2, List.length_map, List.length_map]
  show wpAny (model X.prog X.w) X.A (call (.builtin "sorted") [.ref d] [(Str.ofString "reverse", .bool true)]) _ _ _
  refine PyProof.Rows.call_function_entry_kw PyProof.Rows.kind_sorted PyProof.Rows.plain_sorted PyProof.Rows.entry_sorted (PyProof.Rows.args_sorted_rev _ _) ?_
  unfold Builtin.«sorted»
  refine wpAny_bind (m := checkCount "sorted" 1 1 _) (wpAny_pure ?_)
  refine wpAny_bind (PySem.W.kdu_collect (A := X.A.in1) (kdl_raw hs hx hdt) (I.ok.hd hc) ho (by omega) fun h' tk acc hk hacc => ?_)
  have ea := acc_keys he hacc
  generalize (ks.map fun x => x.2.1) = ts at ea k1 k2
  have I1 : Inv X pins σ H { s with heap := h', toks := tk } := I.kept hk
  have lts : ts.length = ps.length := by
    rw [← k2, List.length_map]
  have lz : acc.toList.length ≤ sizeLine := by
    rw [ea, List.length_map]
    omega
  refine wpAny_bind (wpAny_newList ?_ lz)
  have hoL : (h'.push (seqObj "list" acc.toList.toArray 0)).get? h'.objs.size = some (seqObj "list" acc.toList.toArray 0) := Heap.get?_push_size _ rfl
  show wpAny _ _ _ _ _ { s with heap := h'.push (seqObj "list" acc.toList.toArray 0), toks := tk }
  have kp : ∀ b o, h'.get? b = some o → b ≠ h'.objs.size ∧ (h'.push (seqObj "list" acc.toList.toArray 0)).get? b = some o := fun b o e => ⟨Nat.ne_of_lt (Heap.lt_size e), Heap.get?_push_of_some _ e⟩
  refine wpAny_bind (wpAny_holding (wpAny_call_entry_kw PyProof.Rows.slot_list_sort ⟨_, hoL, rfl⟩ PyProof.Rows.entry_list_sort (SrtR.list_sort_ordR (b := true) (s := { s with heap := h'.push (seqObj "list" acc.toList.toArray 0), toks := tk }) (NtL.swo_lexL fun v => keyOf H (unRef v)) hoL lz (fun h2 => ?_) fun out g1 g2 => ⟨_, rfl, ?_⟩) (PyProof.Rows.args_list_sort_rev _ _)))
  · refine tups_sortable (s := { s with heap := h'.push (seqObj "list" acc.toList.toArray 0), toks := tk }) (by omega) (fun v hv => ?_) (fun v hv => ?_) fun o e => ?_
    · rw [ea] at hv
      obtain ⟨t, ht, rfl⟩ := List.mem_map.mp hv
      obtain ⟨q', hq'⟩ := k1 t ht
      exact (tupI_of I1 hq').keeps fun b o e _ => (kp b o e).2
    · rw [ea] at hv
      obtain ⟨t, ht, rfl⟩ := List.mem_map.mp hv
      rw [ea, List.length_map, lts] at h2
      refine hne h2 _ ?_
      rw [← k2]
      exact List.mem_map.mpr ⟨t, ht, rfl⟩
    · have e' : some o = some (seqObj "list" acc.toList.toArray 0) := e.symm.trans hoL
      cases e'
      intro c
      exact absurd (Value.type.inj c) (by decide)
  · rw [if_pos rfl] at g2
    have hm : ∀ u ∈ out, u ∈ ts.map Value.ref := fun u hu => by
      rw [← ea]
      exact List.mem_reverse.mp (g2.perm.mem_iff.mp hu)
    have eo := ref_map hm
    have hp : (out.map unRef).Perm ts := by
      have z := (g2.perm.trans (List.reverse_perm _)).map unRef
      rw [unRef_map ea] at z
      exact z
    obtain ⟨n, hn'⟩ := PyProof.Rows.sortedHeap_at (vs := acc.toList) (out := out.toArray.reverse) hoL
    have er : (out.toArray.reverse) = (out.reverse).toArray := by simp
    refine wpAny_pure ⟨_, rfl, .ref h'.objs.size, upd H h'.objs.size (.lst ((out.map unRef).reverse.map V.ref)), I1.laid (t' := tk) (fun b u e => ?_) (Nat.le_refl _) ⟨?_, out.reverse, n, ?_, ?_⟩, rfl, q _ _ (fun b hb => k1 b (hp.mem_iff.mp (List.mem_reverse.mp hb))) ?_ ?_ (I1.hok.fresh (Nat.le_refl _))⟩
    · have hb : b < h'.objs.size := Heap.lt_size e
      rw [if_pos rfl, PyProof.Rows.sortedHeap_old (Nat.ne_of_lt hb) (by rw [size_push']; exact Nat.lt_succ_of_lt hb)]
      exact Heap.get?_push_of_some _ e
    · rw [List.length_map, List.length_reverse, hp.length_eq]
      omega
    · have z := vals_refs (out.map unRef).reverse
      rw [List.map_reverse, List.map_reverse, ← eo] at z
      rw [List.map_reverse]
      exact z
    · rw [if_pos rfl, ← er]
      exact hn'
    · rw [← k2]
      exact ((List.reverse_perm _).trans hp).map (keyOf H)
    · rw [List.pairwise_reverse]
      exact List.pairwise_map.mpr g1
end
end Bw
set_option Elab.async false
set_option linter.all false
set_option maxRecDepth 100000
set_option maxHeartbeats 4000000
namespace Bw
open PySem PySem.Spec PyProof.Rows L2
def mergeT (kvs more : List (List Key × V)) : List (List Key × V) := more.foldl (fun acc kv => putK acc kv.1 kv.2) kvs
/-- dict(xs), a list of pairs (key, value), the keys tuples: later ones win, at the first one's place -/
def rDictPT (K : PySem.W.Frag) : List V → Hp → VK → Prop := fun vs H Q => ∃ (a : Addr) (ts : List Addr) (its : List (List Key × Addr × V)), vs = [V.ref a] ∧ SqL K H a (ts.map V.ref) ∧
  Paired (fun t (x : List Key × Addr × V) => H t = some (.tup [.ref x.2.1, x.2.2]) ∧ H x.2.1 = some (.tup (x.1.map kV))) ts its ∧ ∀ p, H p = none → Q (.ref p) (upd H p (.dT (mergeT [] (its.map fun x => (x.1, x.2.2)))))
section
variable {X : Cx} {pins : List (Addr × Obj)} {s : Shared} {σ : L2.St} {H : Hp}
theorem pairsT_of (I : L2.Inv X pins σ H s) : ∀ {ts : List Addr} {its : List (List Key × Addr × V)}, Paired (fun t (x : List Key × Addr × V) => H t = some (.tup [.ref x.2.1, x.2.2]) ∧ H x.2.1 = some (.tup (x.1.map kV))) ts its →
    ∃ ps : List (List Key × Addr × Value), Paired (fun (x : List Key × Addr × V) (q : List Key × Addr × Value) => x.1 = q.1 ∧ H q.2.1 = some (.tup (q.1.map kV)) ∧ RelV x.2.2 q.2.2) its ps ∧ ps.length = ts.length ∧
      ∀ (j : Nat) (q : List Key × Addr × Value), ps[j]? = some q → ∃ t, ts[j]? = some t ∧ s.heap.IsTuple t #[.ref q.2.1, q.2.2]
  | _, _, .nil => ⟨[], .nil, rfl, fun j q e => by simp at e⟩
  | _, _, .cons (a := t) (b := x) h r => by
    obtain ⟨ps, r1, hl, hp⟩ := pairsT_of I r
    obtain ⟨_, us, rv, hT⟩ := I.hok _ _ h.1
    obtain ⟨u1, u2, rfl, e1, e2⟩ := vals2 rv
    obtain rfl : u1 = Value.ref x.2.1 := e1
    refine ⟨(x.1, x.2.1, u2) :: ps, .cons ⟨rfl, h.2, e2⟩ r1, by rw [List.length_cons, List.length_cons, hl], fun j q e => ?_⟩
    cases j with
    | zero =>
      cases (Option.some.inj e)
      exact ⟨t, rfl, hT⟩
    | succ j => exact hp j q e
theorem kt_merge {H' : Hp} : ∀ {its : List (List Key × Addr × V)} {ps : List (List Key × Addr × Value)} {kvs : List (List Key × V)} {xs : List (List Key × Addr × Value)}, Paired (fun (x : List Key × Addr × V) (q : List Key × Addr × Value) => x.1 = q.1 ∧ H' q.2.1 = some (.tup (q.1.map kV)) ∧ RelV x.2.2 q.2.2) its ps → KT H' kvs xs →
    KT H' (mergeT kvs (its.map fun x => (x.1, x.2.2))) (storedAllH xs ps)
  | _, _, _, _, .nil, k => k
  | _, _, kvs, xs, .cons (a := x) (b := q) h r, k => by
    have z := KT.put k q.1 h.2.1 h.2.2
    rw [← h.1] at z
    have z2 := kt_merge (kvs := putK kvs x.1 x.2.2) (xs := storedH xs x.1 q.2.1 q.2.2) r z
    show KT H' (mergeT (putK kvs x.1 x.2.2) _) (storedAllH (storedH xs q.1 q.2.1 q.2.2) _)
    rw [← h.1]
    exact z2
theorem putT_len (kvs : List (List Key × V)) (k : List Key) (v : V) : (putK kvs k v).length ≤ kvs.length + 1 := length_putK kvs k v
theorem mergeT_len : ∀ (more kvs : List (List Key × V)), (mergeT kvs more).length ≤ kvs.length + more.length
  | [], kvs => Nat.le_refl _
  | m :: more, kvs => by
    show (mergeT (putK kvs m.1 m.2) more).length ≤ _
    have h1 := mergeT_len more (putK kvs m.1 m.2)
    have h2 := putT_len kvs m.1 m.2
    rw [List.length_cons]
    omega
end
theorem cr_dictPT {X : Cx} {K : PySem.W.Frag} (hc : X.calm = true) (hu : X.A.units + 64 < cLine) (hK : X.K = K := by rfl) : CallR X (.type "dict") (rDictPT K) := by
  subst hK
  intro pins s σ H vs us Q I r h
  obtain ⟨a, ts, its, rfl, hs, hp, q⟩ := h
  obtain ⟨vs, rv, hl, hz⟩ := I.list hs
  obtain ⟨u, rfl, ru⟩ := vals1 r
  obtain rfl : u = Value.ref a := ru
  have ei := refs_at rv
  obtain ⟨o, n, ho, hcl, hd, hdat⟩ := hl
  obtain ⟨ps, r1, lp, hpt⟩ := pairsT_of I hp
  have lts : ts.length ≤ sizeLine := by
    rw [List.length_map] at hz
    exact hz
  let vps : List (Value × Value) := ps.map fun q => (Value.ref q.2.1, q.2.2)
  have lv : vps.length = ts.length := by
    show (ps.map _).length = _
    rw [List.length_map, lp]
  have hkey : ∀ x ∈ ps, H x.2.1 = some (.tup (x.1.map kV)) := by
    clear hpt lp lv vps hp q
    induction r1 with
    | nil => intro x hx; simp at hx
    | cons h t ih =>
      intro x hx
      rcases List.mem_cons.mp hx with rfl | hx
      · exact h.2.1
      · exact ih x hx
  refine call_dict_pairsH (knd := tupleKind (mixKind X.prog X.w)) (ps := ps) (PairArg.list a vs.toArray (fun j => (ts[j]?).getD 0) vps) (I.ok.hd hc) (show (X.A.in1.in1).units < cLine from ?_) ⟨⟨o, n, ho, hcl, hd, hdat⟩, ?_, fun j k v e => ?_⟩ ⟨by rw [lv, lp], fun i key v e => ?_⟩ (fun h' hk x hx => ?_) (by rw [lv]; exact lts) fun h' tk hd' hk => ?_
  · show X.A.units + 1 + 1 < cLine
    omega
  · rw [List.size_toArray, ei, List.length_map, lv]
  · obtain ⟨x, ex, e2⟩ : ∃ x, ps[j]? = some x ∧ (Value.ref x.2.1, x.2.2) = (k, v) := by
      have e' : (ps.map fun q => (Value.ref q.2.1, q.2.2))[j]? = some (k, v) := e
      rw [List.getElem?_map] at e'
      cases hx : ps[j]? with
      | none =>
        rw [hx] at e'
        cases e'
      | some x =>
        rw [hx] at e'
        exact ⟨x, rfl, Option.some.inj e'⟩
    cases e2
    obtain ⟨t, et, hT⟩ := hpt j x ex
    have eg : (ts[j]?).getD 0 = t := by
      rw [et]
      rfl
    refine ⟨?_, .inl ?_⟩
    · show vs.toArray[j]? = some (Value.ref ((ts[j]?).getD 0))
      rw [eg, ei, List.getElem?_toArray, List.getElem?_map, et]
      rfl
    · show s.heap.IsTuple ((ts[j]?).getD 0) _
      rw [eg]
      exact hT
  · have e' : (ps.map fun q => (Value.ref q.2.1, q.2.2))[i]? = some (key, v) := e
    rw [List.getElem?_map] at e'
    cases hx : ps[i]? with
    | none =>
      rw [hx] at e'
      cases e'
    | some x =>
      rw [hx] at e'
      cases (Option.some.inj e')
      exact ⟨x.1, x.2.1, rfl, rfl⟩
  · have hb := key_of I.hok (hkey x hx)
    obtain ⟨ob, items, m, h1, h2, h3, h4⟩ := hb
    exact ⟨ob, items, m, hk _ _ (Nat.ne_of_lt (Heap.lt_size h1)) (by simp) h1, h2, h3, h4⟩
  · have hm : (s.heap.objs.size == sysModules) = false := beq_eq_false_iff_ne.mpr (Nat.ne_of_gt I.big)
    obtain ⟨q', es, ep, hq, h2, h3, h4, _, h5⟩ := hd'
    have hlen : (mergeT [] (its.map fun x => (x.1, x.2.2))).length ≤ sizeLine := by
      have z := mergeT_len (its.map fun x => (x.1, x.2.2)) []
      rw [List.length_map, List.length_nil, ← Paired.length hp] at z
      omega
    have hf : H s.heap.objs.size = none := I.hok.fresh (Nat.le_refl _)
    refine ⟨.ref s.heap.objs.size, upd H s.heap.objs.size (.dT (mergeT [] (its.map fun x => (x.1, x.2.2)))), I.laid (t' := tk) (fun b o e => hk b o (by simp) e) (Nat.le_refl _) ⟨hlen, hm, storedAllH [] ps, (kt_merge r1 .nil).keeps fun b ys hb => ?_, q', es, ep, hq, h2, h3, h4, h5⟩, rfl, q _ hf⟩
    rw [upd_ne (ne_of_none hb hf)]
    exact hb
end Bw
set_option Elab.async false
set_option linter.all false
set_option maxRecDepth 100000
set_option maxHeartbeats 4000000
namespace Bw
open PySem PySem.Spec PyProof.Rows L2
/-! ### t * k, k from 0 on -/
theorem tuple_mul0 (l : Addr) (items : Array Value) (n : Nat) (dd : Option Addr) (sl : Array (Option Value)) (u : Tok) (hne : items.isEmpty = false) :
    Meets (Builtin.«tuple.__mul__» ⟨[.ref l, .int 0 u], []⟩) (fun _ R s => s.heap.get? l = some { cls := .type "tuple", dict := dd, data := .seq items n, slots := sl } ∧ R (.ok (.ret (Value.ref s.heap.objs.size))) { s with heap := s.heap.push { cls := Value.type "tuple", data := Data.seq #[] }, toks := s.toks }) :=
  .of_wp fun prog w A R s h => by
    obtain ⟨hp, g, d, tk, os⟩ := s
    obtain ⟨hl, h⟩ := h
    have f1 := AutoSeq1.idx_int
    have c1 : (items.isEmpty || (0 : Int) == 1) = false := by rw [hne]; rfl
    have c2 : (decide ((0 : Int) ≤ 0) || items.isEmpty) = true := by simp
    wp_walk using wpAny_loadPart' hl
    repeat (first
      | (refine wpAny_ite_true (decide_eq_true c2) ?_; wp_walk using wpAny_loadPart' hl)
      | (refine wpAny_ite_false (by decide) ?_; wp_walk using wpAny_loadPart' hl)
      | (refine wpAny_ite_false (decide_eq_false (by rw [c1]; exact Bool.false_ne_true)) ?_; wp_walk using wpAny_loadPart' hl))
    exact ⟨_, rfl, h⟩
def rRepZ (K : PySem.W.Frag) : R2 := fun x y H Q => ∃ l k xs, x = .ref l ∧ y = .int k ∧ SqT K H l xs ∧ xs ≠ [] ∧ 0 ≤ k ∧ k ≤ 1000 ∧ xs.length ≤ 1000 ∧ (k = 0 → ∀ p, H p = none → Q (.ref p) (upd H p (.tup []))) ∧ (k = 1 → Q (.ref l) H) ∧ (2 ≤ k → ∀ p, H p = none → Q (.ref p) (upd H p (.tup (List.replicate k.toNat xs).flatten)))
theorem o_repZ {X : Cx} {K : PySem.W.Frag} (hK : X.K = K := by rfl) : OpR X (binaryOp .Mult) (rRepZ K) := by
  subst hK
  intro pins s σ H x y v u Q I rx ry h
  obtain ⟨l, k, xs, rfl, rfl, hT, hne, h1, h2, hz, q0, q1, q2⟩ := h
  by_cases hk : k = 0
  · subst hk
    cases rx
    obtain ⟨t, rfl⟩ := ry
    obtain ⟨its, r, ⟨⟨cls, dd, data, sl⟩, ho, hc, n, hd⟩, hs⟩ := I.tuple hT
    simp only at hc hd
    subst hc hd
    have hi : its.toArray.isEmpty = false := by
      cases its with
      | nil =>
        cases r
        exact absurd rfl hne
      | cons a b => rfl
    refine wpAny_binaryOp_repeat_ref (T := "tuple") (U := "int") (by decide) ⟨_, ho, rfl⟩ (fun s' => typeIs_int s' 0 t) noFill_tuple_mul F.fills_int_mul F.slot_int_rmul repeat_tuple F.slot_int_index.lookup
      (call_meets F.slot_int_rmul (typeIs_int s 0 t) F.entry_int_rmul (F.args_int_rmul_2 _ _) (int_rmul_tuple 0 t l its.toArray n dd sl)
        ⟨ho, rfl, ⟨_, ho, rfl⟩, call_meets F.slot_tuple_mul ⟨_, ho, rfl⟩ F.entry_tuple_mul (F.args_tuple_mul_2 _ _) (tuple_mul0 l its.toArray n dd sl t hi) ⟨ho, ?_⟩⟩)
    exact ⟨.ref s.heap.objs.size, _, I.laid (t' := s.toks) (o := .tup []) (fun b ob z => Heap.get?_push_of_some _ z) (Nat.le_refl _) ⟨Nat.zero_le _, [], .nil, IsTup.new _ _⟩, rfl, q0 rfl _ (I.hok.fresh (Nat.le_refl _))⟩
  · exact o_rep (X := X) rfl pins s σ H _ _ v u Q I rx ry ⟨l, k, xs, rfl, rfl, hT, hne, by omega, h2, hz, q1, q2⟩
/-! ### len(x), x == y, x != y of own instances -/
section
variable {X : Cx} {CX : CXT} {C f : Addr} {fd : FuncData} {ps : List Str} {sp : Sp} {n : Nat} {E : XK}
def rLenOwn (C : Addr) (sp : Sp) (E : XK) : List V → Hp → VK → Prop := fun xs H Q => ∃ a dx fs, xs = [V.ref a] ∧ H a = some (.ins C dx fs) ∧ sp [.ref a] H (fun z H' => ∃ i : Int, z = .int i ∧ 0 ≤ i ∧ i < 2 ^ 63 ∧ Q (.int i) H') E
theorem c_lenOwn (hs : PySem.W.findIn X.K (.ref C) "__len__" = some (some (.ref f))) (hf : PySem.W.isFn X.K (.ref f) = true) (F : FnOk X.prog X.w X.K X.mg X.base CX n f fd ps sp) (hr : Room (n + 1) X.A) (hb : Binds X.K fd ps []) (hx : Passes CX X E) : CallR X (.builtin "len") (rLenOwn C sp E) := by
  intro pins s σ H xs us Q I r h
  obtain ⟨a, dx, fs, rfl, ha, q⟩ := h
  obtain ⟨u, rfl, ru⟩ := vals1 r
  obtain rfl : u = Value.ref a := ru
  obtain ⟨mA, J, _⟩ := ins_get I.hok ha
  obtain ⟨od, J, _⟩ := J.look
  obtain ⟨m, hF⟩ := I.fr
  refine PySem.W.len_K hF I.ok.mod.kin J hs hf ?_
  have hl := F.len _ _ _ _ q
  refine wpAny_call (codeAny_mono (F.run X.A.in1 X.stack s H ⟨[.ref a], []⟩ [.ref a] [.ref a] _ E hr.in1 I.env0.in1 (by
    have z := hb s [.ref a] I.kIn (by simpa using hl)
    simpa using z) (.cons rfl .nil) q) fun r s' hq => ?_)
  cases r with
  | error e => exact hx pins σ H s e s' I hq
  | ok fl =>
    cases fl with
    | ret w =>
      obtain ⟨z, H', I', rz, i, ei, i0, i1, qz⟩ := I.after hq
      subst ei
      obtain ⟨t, rfl⟩ := (show ∃ t, w = Value.int i t from rz)
      exact ⟨⟨i0, i1⟩, .int i, H', I'.tok _, ⟨_, rfl⟩, qz⟩
    | next => exact False.elim hq
    | brk => exact False.elim hq
    | cont => exact False.elim hq
def rEqOwn (C : Addr) (sp : Sp) (E : XK) (neg : Bool) : R2 := fun x y H Q => ∃ a dx fs b dy gs, x = .ref a ∧ y = .ref b ∧ H a = some (.ins C dx fs) ∧ H b = some (.ins C dy gs) ∧ sp [.ref a, .ref b] H (fun z H' => ∃ c : Bool, z = .bl c ∧ Q (.bl (if neg then !c else c)) H') E
theorem own_run (F : FnOk X.prog X.w X.K X.mg X.base CX n f fd ps sp) {A : Around} (hr : Room n A) (hfr : A.frames = X.A.frames) (hb : Binds X.K fd ps []) (hx : Passes CX X E) {pins : List (Addr × Obj)} {s : Shared} {σ : L2.St} {H : Hp} {a b : Addr} {Q : Bool → Hp → Prop} (I : L2.Inv X pins σ H s)
    (q : sp [.ref a, .ref b] H (fun z H' => ∃ c : Bool, z = .bl c ∧ Q c H') E) : wpAny (model X.prog X.w) A (call (.ref f) [.ref a, .ref b]) (fun v s' => ∃ (c : Bool) (H' : Hp), v = .bool c ∧ L2.Inv X pins σ H' s' ∧ Q c H') X.xe s := by
  have hl := F.len _ _ _ _ q
  have e0 : Env0 X.prog X.w X.K X.mg X.base A X.stack s H := by
    have e := I.env0
    exact ⟨by rw [hfr]; exact e.frames, e.mod, e.bs, e.bsz, e.funs, e.frf, e.hok, e.bare⟩
  refine wpAny_call (codeAny_mono (F.run A X.stack s H ⟨[.ref a, .ref b], []⟩ [.ref a, .ref b] [.ref a, .ref b] _ E hr e0 (by
    have z := hb s [.ref a, .ref b] I.kIn (by simpa using hl)
    simpa using z) (.cons rfl (.cons rfl .nil)) q) fun r s' hq => ?_)
  cases r with
  | error e => exact hx pins σ H s e s' I hq
  | ok fl =>
    cases fl with
    | ret w =>
      obtain ⟨z, H', I', rz, c, ec, qc⟩ := I.after hq
      subst ec
      obtain rfl : w = Value.bool c := rz
      exact ⟨c, H', rfl, I', qc⟩
    | next => exact False.elim hq
    | brk => exact False.elim hq
    | cont => exact False.elim hq
theorem o_eqOwn (hs : PySem.W.findIn X.K (.ref C) "__eq__" = some (some (.ref f))) (hf : PySem.W.isFn X.K (.ref f) = true) (F : FnOk X.prog X.w X.K X.mg X.base CX n f fd ps sp) (hr : Room n X.A) (hb : Binds X.K fd ps []) (hx : Passes CX X E) : OpR X (compareOp .Eq) (rEqOwn C sp E false) := by
  intro pins s σ H x y v u Q I rx ry h
  obtain ⟨a, dx, fs, b, dy, gs, rfl, rfl, ha, hb', q⟩ := h
  cases rx
  cases ry
  obtain ⟨mA, J, _⟩ := ins_get I.hok ha
  obtain ⟨mB, J', _⟩ := ins_get I.hok hb'
  obtain ⟨od, J, _⟩ := J.look
  obtain ⟨od', J', _⟩ := J'.look
  obtain ⟨m, hF⟩ := I.fr
  show wpAny _ _ (richCompare .Eq (.ref a) (.ref b)) _ _ _
  refine PySem.W.cmp_K (op := .Eq) (tb := .ref C) hr.units0 hF I.ok.mod.kin J J'.type (by simp [PySem.W.notFirst]) hs hf ?_
  refine wpAny_mono (own_run F hr rfl hb hx I q) (fun v s' z => ?_) fun _ _ z => z
  obtain ⟨c, H', rfl, I', qc⟩ := z
  exact ⟨.bl c, H', I', rfl, qc⟩
end
end Bw
set_option Elab.async false
set_option linter.all false
set_option maxRecDepth 100000
set_option maxHeartbeats 4000000
namespace Bw
open PySem PySem.Spec PyProof.Rows L2
section
variable {prog : Program} {w : World} {A : Around} {E : Value → Shared → Prop} {s : Shared} {K : PySem.W.Frag} {x C f : Addr} {ox : Obj} {od : Option Obj} {b : Value}
theorem ifBound_ne {Q : Option Value → Shared → Prop} (X : K.In s.heap) (I : PySem.W.InstAt s.heap x ox C od) (hs : PySem.W.findIn K (.ref C) "__ne__" = some (some (.builtin "object.__ne__")))
    (h : wpAny (model prog w) A (call (.builtin "object.__ne__") [.ref x, b]) (fun v => Q (some v)) E s) : wpAny (model prog w) A (callSpecialIfBound? (.ref x) "__ne__" [b]) Q E s := by
  have S := F.cmp_object.ne
  simp only [callSpecialIfBound?, bindSpecialIfBound?]
  refine wpAny_holding (wpAny_bind (wpAny_bind (wpAny_bind (I.type.here ((PySem.W.looks_findIn X hs).here ?_)))))
  simp only [S.bind]
  refine wpAny_bind (wpAny_askSetting (wpAny_ite ?_))
  have fin : wpAny (model prog w) A (call (.builtin "object.__ne__") ([.ref x] ++ [b]) >>= fun v => pure (some v)) Q E s := wpAny_bind (wpAny_mono h (fun _ _ z => wpAny_pure z) fun _ _ z => z)
  split
  · exact wpAny_bind (wpAny_pure (wpAny_pure fin))
  · exact wpAny_tryCatch (wpAny_bind (wpAny_pure (wpAny_pure fin)))
theorem call_ne {Q : Value → Shared → Prop} (hu : A.units + 1 < cLine) (X : K.In s.heap) (I : PySem.W.InstAt s.heap x ox C od) (hob : PySem.W.mroIn K C (.type "object") = some true) (hs : PySem.W.findIn K (.ref C) "__eq__" = some (some (.ref f))) (hf : PySem.W.isFn K (.ref f) = true)
    (h : wpAny (model prog w) A.in1 (call (.ref f) [.ref x, b]) (fun v s' => ∃ c, v = .bool c ∧ Q (.bool !c) s') E s) : wpAny (model prog w) A (call (.builtin "object.__ne__") [.ref x, b]) Q E s := by
  have sub : PySem.W.Looks (model prog w) s.heap (isInstance (.ref x) (.type "object")) true := I.type.andThen (PySem.W.looks_mroIn X hob)
  refine wpAny_call (codeAny_call_builtin F.cmp_object.ne.plain F.cmpEntry_ne (PySem.W.check_slot F.cmpKind_ne F.cmpSplit_ne sub (F.cmpArgs_ne _ _) ?_))
  unfold Builtin.«object.__ne__»
  have one : wpAny (model prog w) A.in1 (callSpecialIfBound? (.ref x) "__eq__" [b]) (fun r s' => ∃ c, r = some (.bool c) ∧ Q (.bool !c) s') E s := PySem.W.ifBound_K X I hs hf (wpAny_mono h (fun v s' z => by
    obtain ⟨c, rfl, q⟩ := z
    exact ⟨c, rfl, q⟩) fun _ _ z => z)
  repeat (first | with_reducible refine wpAny_cRoomFor hu ?_ | (with_reducible refine wpAny_mono one (fun r s' z => ?_) (fun _ _ e => e); obtain ⟨c, rfl, q⟩ := z) | wp_step)
  exact q
theorem rich_ne {Q : Value → Shared → Prop} (hu : A.units + 1 < cLine) (X : K.In s.heap) (I : PySem.W.InstAt s.heap x ox C od) (hb : PySem.W.Looks (model prog w) s.heap (typeOf b) (.ref C)) (hob : PySem.W.mroIn K C (.type "object") = some true)
    (hn : PySem.W.findIn K (.ref C) "__ne__" = some (some (.builtin "object.__ne__"))) (hs : PySem.W.findIn K (.ref C) "__eq__" = some (some (.ref f))) (hf : PySem.W.isFn K (.ref f) = true)
    (h : wpAny (model prog w) A.in1 (call (.ref f) [.ref x, b]) (fun v s' => ∃ c, v = .bool c ∧ Q (.bool !c) s') E s) : wpAny (model prog w) A (richCompare .NotEq (.ref x) b) Q E s := by
  have one : wpAny (model prog w) A (tryCompare (.ref x) (cmpInfo .NotEq).2.1 b) (fun r s' => ∃ c : Bool, r = some (.bool !c) ∧ Q (.bool !c) s') E s := by
    unfold tryCompare
    have two : wpAny (model prog w) A (call (.builtin "object.__ne__") [.ref x, b]) (fun v s' => ∃ c : Bool, v = .bool !c ∧ Q (.bool !c) s') E s := by
      refine call_ne hu X I hob hs hf (wpAny_mono h (fun v s' z => ?_) fun _ _ z => z)
      obtain ⟨c, e, q⟩ := z
      exact ⟨c, e, c, rfl, q⟩
    refine wpAny_bind (ifBound_ne X I hn (wpAny_mono two (fun v s' y => ?_) fun _ _ y => y))
    obtain ⟨c, rfl, q⟩ := y
    exact wpAny_pure ⟨c, rfl, q⟩
  unfold richCompare
  simp only [oneThing_ref]
  refine wpAny_holding (wpAny_bind (wpAny_cRoomFor (by omega) ?_))
  refine wpAny_bind (I.type.here (wpAny_bind (hb.here ?_)))
  split
  · rename_i q
    simp at q
  · refine wpAny_bind (wpAny_pure ?_)
    simp only [Bool.false_eq_true, if_false]
    refine wpAny_bind (wpAny_mono one (fun r s' z => ?_) fun _ _ e => e)
    obtain ⟨c, rfl, hq⟩ := z
    exact wpAny_pure hq
end
section
variable {X : Cx} {CX : CXT} {C f : Addr} {fd : FuncData} {ps : List Str} {sp : Sp} {n : Nat} {E : XK}
theorem o_neOwn (hob : PySem.W.mroIn X.K C (.type "object") = some true) (hn : PySem.W.findIn X.K (.ref C) "__ne__" = some (some (.builtin "object.__ne__"))) (hs : PySem.W.findIn X.K (.ref C) "__eq__" = some (some (.ref f))) (hf : PySem.W.isFn X.K (.ref f) = true)
    (F : FnOk X.prog X.w X.K X.mg X.base CX n f fd ps sp) (hr : Room (n + 1) X.A) (hb : Binds X.K fd ps []) (hx : Passes CX X E) : OpR X (compareOp .NotEq) (rEqOwn C sp E true) := by
  intro pins s σ H x y v u Q I rx ry h
  obtain ⟨a, dx, fs, b, dy, gs, rfl, rfl, ha, hb', q⟩ := h
  cases rx
  cases ry
  obtain ⟨mA, J, _⟩ := ins_get I.hok ha
  obtain ⟨mB, J', _⟩ := ins_get I.hok hb'
  obtain ⟨od, J, _⟩ := J.look
  obtain ⟨od', J', _⟩ := J'.look
  show wpAny _ _ (richCompare .NotEq (.ref a) (.ref b)) _ _ _
  have hu : X.A.units + 1 < cLine := by
    have z := hr.un
    omega
  refine rich_ne hu I.kIn J J'.type hob hn hs hf (wpAny_mono (own_run F hr.in1 rfl hb hx I q) (fun v s' z => ?_) fun _ _ z => z)
  obtain ⟨c, H', rfl, I', qc⟩ := z
  exact ⟨c, rfl, .bl !c, H', I', rfl, qc⟩
end
end Bw
set_option Elab.async false
set_option linter.all false
set_option maxRecDepth 100000
set_option maxHeartbeats 4000000
namespace Bw
open PySem PySem.Spec PyProof.Rows L2
/-! ### zip of a list and a tuple, either way about: by what is asked of one side -/
structure Src (P : Program) (w : World) (i l : Addr) (St : Nat → Heap → Prop) (Sq : Array Value → Heap → Prop) : Prop where
  obj : ∀ k h, St k h → ∃ o, h.get? i = some o ∧ ∀ v, o.data ≠ .cell v
  keep : ∀ k h h', St k h → (∀ o, h.get? i = some o → h'.get? i = some o) → St k h'
  keepS : ∀ xs h h', Sq xs h → (∀ o, h.get? l = some o → h'.get? l = some o) → Sq xs h'
  item : ∀ (A : Around) (E : Value → Shared → Prop) (s : Shared) (k : Nat) (xs : Array Value) (x : Value) (Q : Value → Shared → Prop), St k s.heap → Sq xs s.heap → xs[k]? = some x →
    (∀ h', St (k + 1) h' → Heap.SameBut i s.heap h' → Q x { s with heap := h' }) → wpAny (model P w) A (Builtin.SmallTypes.nextOf (.ref i)) Q E s
  fin : ∀ (A : Around) (E : Value → Shared → Prop) (s : Shared) (k : Nat) (xs : Array Value) (Q : Value → Shared → Prop), A.handled = none → St k s.heap → Sq xs s.heap → xs[k]? = none →
    (∀ h' e, Heap.ExtBut i s.heap h' → (∃ o, h'.get? e = some o ∧ o.cls = .type "StopIteration") → E (.ref e) { s with heap := h' }) → wpAny (model P w) A (Builtin.SmallTypes.nextOf (.ref i)) Q E s
theorem src_list {P : Program} {w : World} {i l : Addr} : Src P w i l (fun k h => h.IsListIter i l k) (fun xs h => h.IsList l xs) where
  obj := fun k h st => by
    obtain ⟨o, e, _, d⟩ := st
    exact ⟨o, e, fun v q => by rw [d] at q; cases q⟩
  keep := fun k h h' st kp => st.at kp
  keepS := fun xs h h' st kp => st.at kp
  item := fun A E s k xs x Q st sq hx q => wpAny_nextOf_list_item st sq hx q
  fin := fun A E s k xs Q hh st sq hx q => wpAny_nextOf_list_end hh st sq hx q
theorem src_tup {P : Program} {w : World} {i l : Addr} : Src P w i l (fun k h => h.IsTupleIter i l k) (fun xs h => h.IsTuple l xs) where
  obj := fun k h st => by
    obtain ⟨o, e, _, d⟩ := st
    exact ⟨o, e, fun v q => by rw [d] at q; cases q⟩
  keep := fun k h h' st kp => st.at kp
  keepS := fun xs h h' st kp => by
    obtain ⟨o, e, z⟩ := st
    exact ⟨o, kp o e, z⟩
  item := fun A E s k xs x Q st sq hx q => RZ.nextOf_tuple_item st sq hx q
  fin := fun A E s k xs Q hh st sq hx q => RZ.nextOf_tuple_end hh st sq hx q
section
variable {P : Program} {w : World} {A : Around} {E : Value → Shared → Prop} {s : Shared} {z TI TO i1 i2 l1 l2 : Addr} {U1 U2 : Nat → Heap → Prop} {Z1 Z2 : Array Value → Heap → Prop}
theorem zipG_item {k : Nat} {xs ys : Array Value} {x y a b : Value} {Q : Value → Shared → Prop} (S1 : Src P w i1 l1 U1 Z1) (S2 : Src P w i2 l2 U2 Z2) (D : ZipApart z TI TO i1 i2 l1 l2)
    (hz : IsZip s.heap z TI TO .none) (hTI : IsPair s.heap TI (.ref i1) (.ref i2)) (hTO : IsPair s.heap TO a b) (h1 : U1 k s.heap) (h2 : U2 k s.heap) (hl1 : Z1 xs s.heap) (hl2 : Z2 ys s.heap) (hx : xs[k]? = some x) (hy : ys[k]? = some y)
    (hQ : ∀ h', IsZip h' z TI TO (rawInt s.heap.objs.size) → IsPair h' TO x y → U1 (k + 1) h' → U2 (k + 1) h' → IsPair h' s.heap.objs.size x y →
      (∀ c o, c ≠ z → c ≠ TO → c ≠ i1 → c ≠ i2 → s.heap.get? c = some o → h'.get? c = some o) → Q (.ref s.heap.objs.size) { s with heap := h' }) :
    wpAny (model P w) A (Builtin.«zip.__next__» ⟨[.ref z], []⟩) (fun fin s' => ∃ v, fin = .done (.ret v) ∧ Q v s') E s := by
  show wpAny _ _ (field (Value.ref z) 2 >>= _) _ _ _
  refine wpAny_bind (wpAny_field hz (rfl) (x := .bool false) rfl ?_); show wpAny _ _ (field (Value.ref z) 3 >>= _) _ _ _
  refine wpAny_bind (wpAny_field hz (rfl) (x := .ref TI) rfl ?_); refine wpAny_bind (wpAny_seqItems hTI (rfl) ?_)
  show wpAny _ _ (Builtin.SmallTypes.ownedTupleIsFree (Value.ref z) >>= _) _ _ _
  refine wpAny_bind ?_; unfold Builtin.SmallTypes.ownedTupleIsFree
  refine wpAny_bind (wpAny_field hz (rfl) (x := .none) rfl (wpAny_pure ?_)); simp only [if_true]
  refine wpAny_bind (wpAny_rule ?_); refine wpAny_bind (wpAny_field hz (rfl) (x := .ref TO) rfl ?_)
  refine wpAny_bind (wpAny_setField_rec hz (by simp) fun g1 z1 b1 => ?_); replace z1 : IsZip g1 z TI TO .ellipsis := z1
  refine wpAny_bind ?_; simp only [List.zipIdx_cons, List.zipIdx_nil, List.forIn_cons, List.forIn_nil]
  refine wpAny_bind (wpAny_bind (wpAny_onRaise ?_)); show wpAny _ _ (Builtin.SmallTypes.nextOf (Value.ref i1) >>= _) _ _ _
  refine wpAny_bind (S1.item _ _ _ k xs x _ (S1.keep _ _ _ h1 fun o e => b1.extBut _ _ D.i1z e) (S1.keepS _ _ _ hl1 fun o e => b1.extBut _ _ D.l1z e) hx fun g2 u1 b2 => wpAny_pure ?_)
  have p2 : IsPair g2 TO a b := b2.extBut _ _ D.TOi1 (b1.extBut _ _ D.TOz hTO)
  refine wpAny_bind (wpAny_seqItems p2 (rfl) ?_); refine wpAny_bind (wpAny_updateSeq_pair p2 fun g3 p3 b3 => ?_); replace p3 : IsPair g3 TO x b := p3
  refine wpAny_bind (wpAny_letGo (wpAny_pure ?_)); refine wpAny_bind (wpAny_bind (wpAny_onRaise ?_)); show wpAny _ _ (Builtin.SmallTypes.nextOf (Value.ref i2) >>= _) _ _ _
  refine wpAny_bind (S2.item _ _ _ k ys y _ (S2.keep _ _ _ h2 fun o e => b3.extBut _ _ D.TOi2.symm (b2.extBut _ _ D.i12.symm (b1.extBut _ _ D.i2z e)))
    (S2.keepS _ _ _ hl2 fun o e => b3.extBut _ _ D.l2TO (b2.extBut _ _ D.l2i1 (b1.extBut _ _ D.l2z e))) hy fun g4 u2 b4 => wpAny_pure ?_)
  have p4 : IsPair g4 TO x b := b4.extBut _ _ D.TOi2 p3
  refine wpAny_bind (wpAny_seqItems p4 (rfl) ?_); refine wpAny_bind (wpAny_updateSeq_pair p4 fun g5 p5 b5 => ?_); replace p5 : IsPair g5 TO x y := p5
  refine wpAny_bind (wpAny_letGo (wpAny_pure (wpAny_pure ?_))); refine wpAny_bind (wpAny_seqItems p5 (rfl) ?_); refine wpAny_bind (wpAny_newTuple ?_)
  have sz : g5.objs.size = s.heap.objs.size := by rw [b5.1, b4.1, b3.1, b2.1, b1.1]
  have z5 : IsZip g5 z TI TO .ellipsis := b5.extBut _ _ D.TOz.symm (b4.extBut _ _ D.i2z.symm (b3.extBut _ _ D.TOz.symm (b2.extBut _ _ D.i1z.symm z1)))
  have k5 : ∀ c o, c ≠ z → c ≠ TO → c ≠ i1 → c ≠ i2 → s.heap.get? c = some o → g5.get? c = some o := fun c o c1 c2 c3 c4 e => b5.extBut _ _ c2 (b4.extBut _ _ c4 (b3.extBut _ _ c2 (b2.extBut _ _ c3 (b1.extBut _ _ c1 e))))
  have v1 : U1 (k + 1) g5 := S1.keep _ _ _ u1 fun o e => b5.extBut _ _ D.TOi1.symm (b4.extBut _ _ D.i12 (b3.extBut _ _ D.TOi1.symm e))
  have v2 : U2 (k + 1) g5 := S2.keep _ _ _ u2 fun o e => b5.extBut _ _ D.TOi2.symm e
  have zl : z < g5.objs.size := Heap.lt_size z5
  show wpAny _ _ (Builtin.SmallTypes.ownedTupleHandOut (Value.ref z) (.ref g5.objs.size) >>= _) _ _ _
  refine wpAny_bind ?_; unfold Builtin.SmallTypes.ownedTupleHandOut
  have z6 : IsZip (g5.push { cls := .type "tuple", data := .seq #[x, y] }) z TI TO .ellipsis := Heap.get?_push_of_some _ z5
  refine wpAny_bind (wpAny_setField_rec z6 (by simp) fun g7 z7 b7 => ?_); replace z7 : IsZip g7 z TI TO (rawInt g5.objs.size) := z7
  refine wpAny_setField_rec z7 (by simp) fun g8 z8 b8 => ?_; replace z8 : IsZip g8 z TI TO (rawInt g5.objs.size) := z8
  have up : ∀ c o, c ≠ z → g5.get? c = some o → g8.get? c = some o := fun c o c1 e => b8.extBut _ _ c1 (b7.extBut _ _ c1 (Heap.get?_push_of_some _ e))
  have p8 : IsPair g8 g5.objs.size x y := b8.extBut _ _ (Nat.ne_of_gt zl) (b7.extBut _ _ (Nat.ne_of_gt zl) (Heap.get?_push_size _ rfl))
  rw [sz] at z8 p8
  refine wpAny_pure ⟨_, rfl, ?_⟩; show Q (.ref g5.objs.size) _; rw [sz]
  exact hQ g8 z8 (up _ _ D.TOz p5) (S1.keep _ _ _ v1 fun o e => up _ o D.i1z e) (S2.keep _ _ _ v2 fun o e => up _ o D.i2z e) p8 fun c o c1 c2 c3 c4 e => up c o c1 (k5 c o c1 c2 c3 c4 e)
theorem zipG_end {k : Nat} {xs ys : Array Value} {a b : Value} {Q : PySem.Fin → Shared → Prop} (S1 : Src P w i1 l1 U1 Z1) (S2 : Src P w i2 l2 U2 Z2) (hh : A.handled = none) (D : ZipApart z TI TO i1 i2 l1 l2)
    (hz : IsZip s.heap z TI TO .none) (hTI : IsPair s.heap TI (.ref i1) (.ref i2)) (hTO : IsPair s.heap TO a b) (h1 : U1 k s.heap) (h2 : U2 k s.heap) (hl1 : Z1 xs s.heap) (hl2 : Z2 ys s.heap) (hend : xs[k]? = none ∨ ys[k]? = none)
    (hE : ∀ h' e, (∀ c o, c ≠ z → c ≠ TO → c ≠ i1 → c ≠ i2 → s.heap.get? c = some o → h'.get? c = some o) → (∃ o, h'.get? e = some o ∧ o.cls = .type "StopIteration") → E (.ref e) { s with heap := h' }) :
    wpAny (model P w) A (Builtin.«zip.__next__» ⟨[.ref z], []⟩) Q E s := by
  show wpAny _ _ (field (Value.ref z) 2 >>= _) _ _ _
  refine wpAny_bind (wpAny_field hz (rfl) (x := .bool false) rfl ?_); show wpAny _ _ (field (Value.ref z) 3 >>= _) _ _ _
  refine wpAny_bind (wpAny_field hz (rfl) (x := .ref TI) rfl ?_); refine wpAny_bind (wpAny_seqItems hTI (rfl) ?_)
  show wpAny _ _ (Builtin.SmallTypes.ownedTupleIsFree (Value.ref z) >>= _) _ _ _
  refine wpAny_bind ?_; unfold Builtin.SmallTypes.ownedTupleIsFree
  refine wpAny_bind (wpAny_field hz (rfl) (x := .none) rfl (wpAny_pure ?_)); simp only [if_true]
  refine wpAny_bind (wpAny_rule ?_); refine wpAny_bind (wpAny_field hz (rfl) (x := .ref TO) rfl ?_)
  refine wpAny_bind (wpAny_setField_rec hz (by simp) fun g1 z1 b1 => ?_); replace z1 : IsZip g1 z TI TO .ellipsis := z1
  refine wpAny_bind ?_; simp only [List.zipIdx_cons, List.zipIdx_nil, List.forIn_cons, List.forIn_nil]
  refine wpAny_bind (wpAny_bind (wpAny_onRaise ?_)); show wpAny _ _ (Builtin.SmallTypes.nextOf (Value.ref i1) >>= _) _ _ _
  have j1 : U1 k g1 := S1.keep _ _ _ h1 fun o e => b1.extBut _ _ D.i1z e
  have m1 : Z1 xs g1 := S1.keepS _ _ _ hl1 fun o e => b1.extBut _ _ D.l1z e
  cases hx : xs[k]? with
  | none =>
    refine wpAny_bind (S1.fin _ _ _ k xs _ hh j1 m1 hx fun g2 e b2 he => ?_); obtain ⟨oe, hoe, hce⟩ := he
    have z2 : IsZip g2 z TI TO .ellipsis := b2 _ _ D.i1z.symm z1
    have ez : e ≠ z := fun q => by subst q; rw [z2] at hoe; cases hoe; simp at hce
    refine wpAny_setField_rec z2 (by simp) fun g3 _ b3 => hE g3 e (fun c o c1 _ c3 _ q => b3.extBut _ _ c1 (b2 _ _ c3 (b1.extBut _ _ c1 q))) ⟨oe, b3.extBut _ _ ez hoe, hce⟩
  | some x =>
    have hy : ys[k]? = none := by
      rcases hend with h | h
      · rw [hx] at h; cases h
      · exact h
    refine wpAny_bind (S1.item _ _ _ k xs x _ j1 m1 hx fun g2 u1 b2 => wpAny_pure ?_)
    have p2 : IsPair g2 TO a b := b2.extBut _ _ D.TOi1 (b1.extBut _ _ D.TOz hTO)
    refine wpAny_bind (wpAny_seqItems p2 (rfl) ?_); refine wpAny_bind (wpAny_updateSeq_pair p2 fun g3 p3 b3 => ?_)
    refine wpAny_bind (wpAny_letGo (wpAny_pure ?_)); refine wpAny_bind (wpAny_bind (wpAny_onRaise ?_)); show wpAny _ _ (Builtin.SmallTypes.nextOf (Value.ref i2) >>= _) _ _ _
    refine wpAny_bind (S2.fin _ _ _ k ys _ hh (S2.keep _ _ _ h2 fun o e => b3.extBut _ _ D.TOi2.symm (b2.extBut _ _ D.i12.symm (b1.extBut _ _ D.i2z e)))
      (S2.keepS _ _ _ hl2 fun o e => b3.extBut _ _ D.l2TO (b2.extBut _ _ D.l2i1 (b1.extBut _ _ D.l2z e))) hy fun g4 e b4 he => ?_)
    obtain ⟨oe, hoe, hce⟩ := he
    have z4 : IsZip g4 z TI TO .ellipsis := b4 _ _ D.i2z.symm (b3.extBut _ _ D.TOz.symm (b2.extBut _ _ D.i1z.symm z1))
    have ez : e ≠ z := fun q => by subst q; rw [z4] at hoe; cases hoe; simp at hce
    refine wpAny_setField_rec z4 (by simp) fun g5 _ b5 => hE g5 e (fun c o c1 c2 c3 c4 q => b5.extBut _ _ c1 (b4 _ _ c4 (b3.extBut _ _ c2 (b2.extBut _ _ c3 (b1.extBut _ _ c1 q))))) ⟨oe, b5.extBut _ _ ez hoe, hce⟩
end
/-! ### the step of the hand layer -/
/-- how a side is read off the hand layer's heap -/
structure Side (l : Addr) (K : PySem.W.Frag) (R : Hp → List V → Prop) (Sq : Array Value → Heap → Prop) : Prop where
  get : ∀ (X : Cx) (pins : List (Addr × Obj)) (σ : L2.St) (H : Hp) (s : Shared) (xs : List V), X.K = K → L2.Inv X pins σ H s → R H xs → ∃ its : List Value, Vals xs its ∧ Sq its.toArray s.heap ∧ l < s.heap.objs.size
  inj : ∀ (X : Cx) (pins : List (Addr × Obj)) (σ : L2.St) (H : Hp) (s : Shared) (xs ys : List V), X.K = K → L2.Inv X pins σ H s → R H xs → R H ys → xs = ys
theorem side_list {K : PySem.W.Frag} {a : Addr} : Side a K (fun H xs => SqL K H a xs) (fun arr h => h.IsList a arr) where
  get := fun X pins σ H s xs hK I r => by
    subst hK
    obtain ⟨its, rv, p, _⟩ := I.list r
    exact ⟨its, rv, p.isList, p.lt⟩
  inj := fun X pins σ H s xs ys hK I r r' => by
    subst hK
    exact I.list_inj r r'
theorem side_tup {K : PySem.W.Frag} {a : Addr} : Side a K (fun H xs => SqT K H a xs) (fun arr h => h.IsTuple a arr) where
  get := fun X pins σ H s xs hK I r => by
    subst hK
    obtain ⟨its, rv, p, _⟩ := I.tuple r
    obtain ⟨o, ho, _⟩ := id p
    exact ⟨its, rv, p, Heap.lt_size ho⟩
  inj := fun X pins σ H s xs ys hK I r r' => by
    subst hK
    exact I.tuple_inj r r'
def ItzG (R1 R2 : Hp → List V → Prop) : It :=
  ⟨fun i H => ∃ (xs ys : List V) (x y : V), R1 H xs ∧ R2 H ys ∧ xs[i]? = some x ∧ ys[i]? = some y,
    fun i H v H' => ∃ T x y, v = .ref T ∧ H T = none ∧ H' = upd H T (.tup [x, y]) ∧ (∀ xs, R1 H xs → xs[i]? = some x) ∧ ∀ ys, R2 H ys → ys[i]? = some y,
    fun i H => ∃ xs ys : List V, R1 H xs ∧ R2 H ys ∧ (xs.length ≤ i ∨ ys.length ≤ i)⟩
theorem turn_zipG {P : Program} {w : World} {K : PySem.W.Frag} {elts : List Expr} {kk : Nat} {tpos : Pos} {a b z TI TO i1 i2 : Addr} {R1 R2 : Hp → List V → Prop} {U1 U2 : Nat → Heap → Prop} {Z1 Z2 : Array Value → Heap → Prop}
    (S1 : Src P w i1 a U1 Z1) (S2 : Src P w i2 b U2 Z2) (L1 : Side a K R1 Z1) (L2' : Side b K R2 Z2) (D : ZipApart z TI TO i1 i2 a b) :
    Turn P w K (.Tuple elts kk tpos) (ItzG R1 R2) [z, TI, TO, i1, i2] z (fun i h => IsZip h z TI TO .none ∧ IsPair h TI (.ref i1) (.ref i2) ∧ (∃ x y, IsPair h TO x y) ∧ U1 i h ∧ U2 i h) where
  mem := by simp
  obj := fun i h st c hc => by
    obtain ⟨hz, hTI, ⟨x, y, hTO⟩, e1, e2⟩ := st
    have e' : c = z ∨ c = TI ∨ c = TO ∨ c = i1 ∨ c = i2 := by simpa using hc
    rcases e' with rfl | rfl | rfl | rfl | rfl
    · exact ⟨_, hz, fun v q => nomatch q⟩
    · exact ⟨_, hTI, fun v q => nomatch q⟩
    · exact ⟨_, hTO, fun v q => nomatch q⟩
    · exact S1.obj _ _ e1
    · exact S2.obj _ _ e2
  keep := fun i h h' st k => by
    obtain ⟨hz, hTI, ⟨x, y, hTO⟩, h1, h2⟩ := st
    exact ⟨k z (by simp) _ hz, k TI (by simp) _ hTI, ⟨x, y, k TO (by simp) _ hTO⟩, S1.keep _ _ _ h1 (k i1 (by simp)), S2.keep _ _ _ h2 (k i2 (by simp))⟩
  item := by
    intro X hP hw hK hc i pins s σ H E I hf st hg
    obtain ⟨hz, hTI, ⟨x0, y0, hTO⟩, h1, h2⟩ := st
    obtain ⟨xs, ys, x, y, hqx, hqy, hx, hy⟩ := hg
    obtain ⟨its, rv, p, _⟩ := L1.get X pins σ H s xs hK I hqx
    obtain ⟨its2, rv2, p2, _⟩ := L2'.get X pins σ H s ys hK I hqy
    obtain ⟨u, hu, ru⟩ := rv.get hx
    obtain ⟨u2, hu2, ru2⟩ := rv2.get hy
    have hzl : z < s.heap.objs.size := Heap.lt_size hz
    have hT : s.TypeIs (.ref z) "zip" := ⟨_, hz, rfl⟩
    unfold pyNext
    refine wpAny_bind (wpAny_attempt (wpAny_callSpecial?_slot (name := Str.ofString "__next__") hT F.slot_zip_next (wpAny_call_entry F.slot_zip_next hT F.entry_zip_next
      (zipG_item S1 S2 D hz hTI hTO h1 h2 p p2 (x := u) (y := u2) (by simpa using hu) (by simpa using hu2) fun h' z' TO' h1' h2' hT' hk => wpAny_pure ?_) (F.args_zip_next_1 _))))
    refine ⟨_, rfl, wpAny_letOwnedTupleGo_zip (s := { s with heap := h' }) z' fun h'' z'' sb => ?_⟩
    have hT2 : h''.get? s.heap.objs.size = some { cls := .type "tuple", data := .seq #[u, u2] } := ((sb.2 _ (Nat.ne_of_gt hzl)).trans hT')
    subst hP hw hK
    have new : ObjOk X.prog X.w (upd H s.heap.objs.size (.tup [x, y])) h'' s.heap.objs.size (.tup [x, y]) := ⟨by show 2 ≤ sizeLine; decide, [u, u2], .cons ru (.cons ru2 .nil), ⟨_, hT2, rfl, _, rfl⟩⟩
    have kk' : ∀ (c : Addr) (o : Obj), c ∉ [z, TI, TO, i1, i2] → s.heap.get? c = some o → h''.get? c = some o := fun c o hb q => (sb.2 c (fun q' => hb (by simp [q']))).trans (hk c o (fun q' => hb (by simp [q'])) (fun q' => hb (by simp [q'])) (fun q' => hb (by simp [q'])) (fun q' => hb (by simp [q'])) q)
    have I1 : L2.Inv X pins σ (upd H s.heap.objs.size (.tup [x, y])) { s with heap := h'' } := I.turnedNew (t' := s.toks) (ch := [z, TI, TO, i1, i2]) kk' hf (Nat.le_refl _) new
    refine ⟨.ref s.heap.objs.size, _, I1, rfl, ⟨_, x, y, rfl, I.hok.fresh (Nat.le_refl _), rfl, fun l hl => ?_, fun l hl => ?_⟩, ⟨z'', ?_, ⟨u, u2, ?_⟩, ?_, ?_⟩, fun c hcm => ?_⟩
    · rw [L1.inj X pins σ H s l xs rfl I hl hqx]
      exact hx
    · rw [L2'.inj X pins σ H s l ys rfl I hl hqy]
      exact hy
    · exact (sb.2 _ D.TIz).trans ((hk _ _ D.TIz D.TITO D.TIi1 D.TIi2 hTI))
    · exact (sb.2 _ D.TOz).trans TO'
    · exact S1.keep _ _ _ h1' fun o q => (sb.2 _ D.i1z).trans q
    · exact S2.keep _ _ _ h2' fun o q => (sb.2 _ D.i2z).trans q
    · have hlt : c < s.heap.objs.size := by
        have e' : c = z ∨ c = TI ∨ c = TO ∨ c = i1 ∨ c = i2 := by simpa using hcm
        rcases e' with rfl | rfl | rfl | rfl | rfl
        · exact hzl
        · exact Heap.lt_size hTI
        · exact Heap.lt_size hTO
        · obtain ⟨_, e1, _⟩ := S1.obj _ _ h1; exact Heap.lt_size e1
        · obtain ⟨_, e2, _⟩ := S2.obj _ _ h2; exact Heap.lt_size e2
      rw [upd_ne (Nat.ne_of_lt hlt)]
      exact (hf c hcm).1
  done := by
    intro X hP hw hK hc i pins s σ H E I hf st hg
    obtain ⟨hz, hTI, ⟨x0, y0, hTO⟩, h1, h2⟩ := st
    obtain ⟨xs, ys, hqx, hqy, hend⟩ := hg
    obtain ⟨its, rv, p, _⟩ := L1.get X pins σ H s xs hK I hqx
    obtain ⟨its2, rv2, p2, _⟩ := L2'.get X pins σ H s ys hK I hqy
    have l1 := rv.length
    have l2 := rv2.length
    have he : its.toArray[i]? = none ∨ its2.toArray[i]? = none := by
      rcases hend with q | q
      · exact .inl (by simp; omega)
      · exact .inr (by simp; omega)
    have hT : s.TypeIs (.ref z) "zip" := ⟨_, hz, rfl⟩
    unfold pyNext
    refine wpAny_bind (wpAny_attempt (wpAny_callSpecial?_slot (name := Str.ofString "__next__") hT F.slot_zip_next
      (wpAny_call_entry F.slot_zip_next hT F.entry_zip_next (zipG_end S1 S2 (I.ok.hd hc) D hz hTI hTO h1 h2 p p2 he fun h' e hk he => ?_) (F.args_zip_next_1 _))))
    obtain ⟨o, ho, hc'⟩ := he
    refine wpAny_bind (wpAny_isInstance (T := "StopIteration") (b := true) ⟨o, ho, hc'⟩ isSubtype_stop ?_)
    refine wpAny_pure ⟨rfl, I.turnedL (t' := s.toks) (ch := [z, TI, TO, i1, i2]) (fun c o hb q => hk c o (fun q' => hb (by simp [q'])) (fun q' => hb (by simp [q'])) (fun q' => hb (by simp [q'])) (fun q' => hb (by simp [q'])) q) hf⟩
  self := fun A i s Q E st h => wpAny_pyIter_zip st.1 h
/-! ### zip of a tuple and a list made -/
abbrev zTL1 (h : Heap) (l1 : Addr) : Heap := h.push { cls := .type "tuple_iterator", data := .fields #[.ref l1, .int 0 0] }
abbrev zTL2 (h : Heap) (l1 l2 : Addr) : Heap := (zTL1 h l1).push { cls := .type "list_iterator", data := .fields #[.ref l2, .int 0 0] }
abbrev zTL3 (h : Heap) (l1 l2 : Addr) : Heap := (zTL2 h l1 l2).push { cls := .type "tuple", data := .seq #[.ref h.objs.size, .ref (zTL1 h l1).objs.size] }
abbrev zTL4 (h : Heap) (l1 l2 : Addr) : Heap := (zTL3 h l1 l2).push { cls := .type "tuple", data := .seq #[.none, .none] }
abbrev zTL5 (h : Heap) (l1 l2 : Addr) : Heap := (zTL4 h l1 l2).push { cls := .type "zip", data := .fields #[.none, .bool false, .bool false, .ref (zTL2 h l1 l2).objs.size, .ref (zTL3 h l1 l2).objs.size] }
abbrev zLT1 (h : Heap) (l1 : Addr) : Heap := h.push { cls := .type "list_iterator", data := .fields #[.ref l1, .int 0 0] }
abbrev zLT2 (h : Heap) (l1 l2 : Addr) : Heap := (zLT1 h l1).push { cls := .type "tuple_iterator", data := .fields #[.ref l2, .int 0 0] }
abbrev zLT3 (h : Heap) (l1 l2 : Addr) : Heap := (zLT2 h l1 l2).push { cls := .type "tuple", data := .seq #[.ref h.objs.size, .ref (zLT1 h l1).objs.size] }
abbrev zLT4 (h : Heap) (l1 l2 : Addr) : Heap := (zLT3 h l1 l2).push { cls := .type "tuple", data := .seq #[.none, .none] }
abbrev zLT5 (h : Heap) (l1 l2 : Addr) : Heap := (zLT4 h l1 l2).push { cls := .type "zip", data := .fields #[.none, .bool false, .bool false, .ref (zLT2 h l1 l2).objs.size, .ref (zLT3 h l1 l2).objs.size] }
theorem new_zTL (l1 l2 : Addr) (xs ys : Array Value) : Meets (Builtin.«zip.__new__» ⟨[.type "zip", .ref l1, .ref l2], []⟩) (fun _ R s => s.heap.IsTuple l1 xs ∧ s.heap.IsList l2 ys ∧ R (.ok (.ret (.ref (zTL4 s.heap l1 l2).objs.size))) { s with heap := zTL5 s.heap l1 l2 }) :=
  .of_wp fun prog w A R s h => by
    obtain ⟨hp, g, d, tk, os⟩ := s
    obtain ⟨k1, k2, h⟩ := h
    have hsub := sub_zip
    have e1 : Heap.IsTuple (Shared.heap ⟨hp, g, d, tk, os⟩) l1 xs := k1
    have e2 : Heap.IsList (Shared.heap ⟨hp.push { cls := .type "tuple_iterator", data := .fields #[.ref l1, .int 0 0] }, g, d, tk, os⟩) l2 ys := Heap.IsList.push k2 _
    wp_walk using wpAny_pyIter_tuple e1, wpAny_pyIter_list e2
    exact ⟨_, rfl, h⟩
theorem new_zLT (l1 l2 : Addr) (xs ys : Array Value) : Meets (Builtin.«zip.__new__» ⟨[.type "zip", .ref l1, .ref l2], []⟩) (fun _ R s => s.heap.IsList l1 xs ∧ s.heap.IsTuple l2 ys ∧ R (.ok (.ret (.ref (zLT4 s.heap l1 l2).objs.size))) { s with heap := zLT5 s.heap l1 l2 }) :=
  .of_wp fun prog w A R s h => by
    obtain ⟨hp, g, d, tk, os⟩ := s
    obtain ⟨k1, k2, h⟩ := h
    have hsub := sub_zip
    have e1 : Heap.IsList (Shared.heap ⟨hp, g, d, tk, os⟩) l1 xs := k1
    have e2 : Heap.IsTuple (Shared.heap ⟨hp.push { cls := .type "list_iterator", data := .fields #[.ref l1, .int 0 0] }, g, d, tk, os⟩) l2 ys := Heap.IsTuple.push k2 _
    wp_walk using wpAny_pyIter_list e1, wpAny_pyIter_tuple e2
    exact ⟨_, rfl, h⟩
section
variable {P : Program} {w : World} {A : Around} {E : Value → Shared → Prop} {s : Shared}
theorem call_zTL {l1 l2 : Addr} {xs ys : Array Value} {Q : Value → Shared → Prop} (k1 : s.heap.IsTuple l1 xs) (k2 : s.heap.IsList l2 ys)
    (h : ∀ h', IsZip h' (s.heap.objs.size + 4) (s.heap.objs.size + 2) (s.heap.objs.size + 3) .none → IsPair h' (s.heap.objs.size + 2) (.ref s.heap.objs.size) (.ref (s.heap.objs.size + 1)) → IsPair h' (s.heap.objs.size + 3) .none .none →
      h'.IsTupleIter s.heap.objs.size l1 0 → h'.IsListIter (s.heap.objs.size + 1) l2 0 → (∀ c o, s.heap.get? c = some o → h'.get? c = some o) → Q (.ref (s.heap.objs.size + 4)) { s with heap := h' }) :
    wpAny (model P w) A (call (.type "zip") [.ref l1, .ref l2]) Q E s := by
  refine callType_new F.called_zip (by decide) (F.typeCall_zip_2 _ _) (F.newCall_zip_2 _ _) (fun obj => F.args_object_init_3 obj _ _) F.entry_zip_new (new_zTL l1 l2 xs ys) ⟨k1, k2, ?_⟩
  have z1 : (zTL1 s.heap l1).objs.size = s.heap.objs.size + 1 := Heap.size_push ..
  have z2 : (zTL2 s.heap l1 l2).objs.size = s.heap.objs.size + 2 := by rw [Heap.size_push, z1]
  have z3 : (zTL3 s.heap l1 l2).objs.size = s.heap.objs.size + 3 := by rw [Heap.size_push, z2]
  have z4 : (zTL4 s.heap l1 l2).objs.size = s.heap.objs.size + 4 := by rw [Heap.size_push, z3]
  have g5 : (zTL5 s.heap l1 l2).get? (zTL4 s.heap l1 l2).objs.size = some _ := Heap.get?_push_size _ rfl
  have g4 : (zTL5 s.heap l1 l2).get? (zTL3 s.heap l1 l2).objs.size = some _ := Heap.get?_push_of_some _ (Heap.get?_push_size _ rfl)
  have g3 : (zTL5 s.heap l1 l2).get? (zTL2 s.heap l1 l2).objs.size = some _ := Heap.get?_push_of_some _ (Heap.get?_push_of_some _ (Heap.get?_push_size _ rfl))
  have g2 : (zTL5 s.heap l1 l2).get? (zTL1 s.heap l1).objs.size = some _ := Heap.get?_push_of_some _ (Heap.get?_push_of_some _ (Heap.get?_push_of_some _ (Heap.get?_push_size _ rfl)))
  have g1 : (zTL5 s.heap l1 l2).get? s.heap.objs.size = some _ := Heap.get?_push_of_some _ (Heap.get?_push_of_some _ (Heap.get?_push_of_some _ (Heap.get?_push_of_some _ (Heap.get?_push_size _ rfl))))
  show _ ∧ _
  rw [z2, z3, z4] at g5; rw [z1, z2] at g3; rw [z3] at g4; rw [z1] at g2; rw [z4]
  exact ⟨⟨_, g5, rfl⟩, h _ g5 g3 g4 ⟨_, g1, rfl, rfl⟩ ⟨_, g2, rfl, rfl⟩ fun c o x => Heap.get?_push_of_some _ (Heap.get?_push_of_some _ (Heap.get?_push_of_some _ (Heap.get?_push_of_some _ (Heap.get?_push_of_some _ x))))⟩
theorem call_zLT {l1 l2 : Addr} {xs ys : Array Value} {Q : Value → Shared → Prop} (k1 : s.heap.IsList l1 xs) (k2 : s.heap.IsTuple l2 ys)
    (h : ∀ h', IsZip h' (s.heap.objs.size + 4) (s.heap.objs.size + 2) (s.heap.objs.size + 3) .none → IsPair h' (s.heap.objs.size + 2) (.ref s.heap.objs.size) (.ref (s.heap.objs.size + 1)) → IsPair h' (s.heap.objs.size + 3) .none .none →
      h'.IsListIter s.heap.objs.size l1 0 → h'.IsTupleIter (s.heap.objs.size + 1) l2 0 → (∀ c o, s.heap.get? c = some o → h'.get? c = some o) → Q (.ref (s.heap.objs.size + 4)) { s with heap := h' }) :
    wpAny (model P w) A (call (.type "zip") [.ref l1, .ref l2]) Q E s := by
  refine callType_new F.called_zip (by decide) (F.typeCall_zip_2 _ _) (F.newCall_zip_2 _ _) (fun obj => F.args_object_init_3 obj _ _) F.entry_zip_new (new_zLT l1 l2 xs ys) ⟨k1, k2, ?_⟩
  have z1 : (zLT1 s.heap l1).objs.size = s.heap.objs.size + 1 := Heap.size_push ..
  have z2 : (zLT2 s.heap l1 l2).objs.size = s.heap.objs.size + 2 := by rw [Heap.size_push, z1]
  have z3 : (zLT3 s.heap l1 l2).objs.size = s.heap.objs.size + 3 := by rw [Heap.size_push, z2]
  have z4 : (zLT4 s.heap l1 l2).objs.size = s.heap.objs.size + 4 := by rw [Heap.size_push, z3]
  have g5 : (zLT5 s.heap l1 l2).get? (zLT4 s.heap l1 l2).objs.size = some _ := Heap.get?_push_size _ rfl
  have g4 : (zLT5 s.heap l1 l2).get? (zLT3 s.heap l1 l2).objs.size = some _ := Heap.get?_push_of_some _ (Heap.get?_push_size _ rfl)
  have g3 : (zLT5 s.heap l1 l2).get? (zLT2 s.heap l1 l2).objs.size = some _ := Heap.get?_push_of_some _ (Heap.get?_push_of_some _ (Heap.get?_push_size _ rfl))
  have g2 : (zLT5 s.heap l1 l2).get? (zLT1 s.heap l1).objs.size = some _ := Heap.get?_push_of_some _ (Heap.get?_push_of_some _ (Heap.get?_push_of_some _ (Heap.get?_push_size _ rfl)))
  have g1 : (zLT5 s.heap l1 l2).get? s.heap.objs.size = some _ := Heap.get?_push_of_some _ (Heap.get?_push_of_some _ (Heap.get?_push_of_some _ (Heap.get?_push_of_some _ (Heap.get?_push_size _ rfl))))
  show _ ∧ _
  rw [z2, z3, z4] at g5; rw [z1, z2] at g3; rw [z3] at g4; rw [z1] at g2; rw [z4]
  exact ⟨⟨_, g5, rfl⟩, h _ g5 g3 g4 ⟨_, g1, rfl, rfl⟩ ⟨_, g2, rfl, rfl⟩ fun c o x => Heap.get?_push_of_some _ (Heap.get?_push_of_some _ (Heap.get?_push_of_some _ (Heap.get?_push_of_some _ (Heap.get?_push_of_some _ x))))⟩
end
def iZipM (K : PySem.W.Frag) (ta : TA) : TI := fun σ H R => ta σ H fun vs H1 => ∃ a b xs ys, vs = [.ref a, .ref b] ∧
  ((SqT K H1 a xs ∧ SqL K H1 b ys ∧ R (ItzG (fun H xs => SqT K H a xs) (fun H xs => SqL K H b xs)) H1) ∨ (SqL K H1 a xs ∧ SqT K H1 b ys ∧ R (ItzG (fun H xs => SqL K H a xs) (fun H xs => SqT K H b xs)) H1))
theorem p_zipM {X : Cx} {K : PySem.W.Frag} {e e2 : Expr} {ta : TA} {p pos tpos : Pos} {elts : List Expr} {kk : Nat} (hg : Gl X "zip") (hm : X.mg "zip" = none) (ha : PA X [e, e2] ta) (hK : X.K = K := by rfl)
    (hs : starEach [e, e2] X.env = (false, eval e X.env) :: starEach [e2] X.env := by rfl) (hpl : (backTo pos (starEach [e2] X.env)).any (·.1) = false := by rfl) : PI X (.Tuple elts kk tpos) (.Call (.Name "zip" p) [e, e2] [] pos) (iZipM K ta) := by
  subst hK
  refine ⟨fun pins s σ H R I h => ?_⟩
  refine Call_ (ld_blt I hg hm PyProof.Rows.boot_zip (PyProof.Rows.callWith_type1 (thn (ha.run pos pins s σ H _ I h) fun us s1 ⟨vs, H1, I1, r1, q1⟩ => ?_) hs hpl))
  obtain ⟨a, b, xs, ys, rfl, q1⟩ := q1
  obtain ⟨u, u', rfl, ru, ru'⟩ : ∃ u u', us = [u, u'] ∧ RelV (.ref a) u ∧ RelV (.ref b) u' := by
    cases r1 with
    | cons r rr =>
      cases rr with
      | cons r' rr =>
        cases rr
        exact ⟨_, _, rfl, r, r'⟩
  cases ru
  cases ru'
  have fresh5 : ∀ c, c ∈ [s1.heap.objs.size + 4, s1.heap.objs.size + 2, s1.heap.objs.size + 3, s1.heap.objs.size, s1.heap.objs.size + 1] → FpOk X pins H1 c := fun c hcm => by
    have hle : s1.heap.objs.size ≤ c := by
      simp only [List.mem_cons, List.not_mem_nil, or_false] at hcm
      omega
    exact I1.fpOk hle (I1.hok.fresh hle)
  rcases q1 with ⟨hqx, hqy, q⟩ | ⟨hqx, hqy, q⟩
  · obtain ⟨its, rv, p1, la⟩ := (side_tup (a := a)).get X pins σ H1 s1 xs rfl I1 hqx
    obtain ⟨its2, rv2, p2, lb⟩ := (side_list (a := b)).get X pins σ H1 s1 ys rfl I1 hqy
    refine call_zTL p1 p2 fun h' hz hTI hTO h1 h2 hk => wpAny_pyIter_zip hz ?_
    have I2 : L2.Inv X pins σ H1 { s1 with heap := h' } := I1.kept (t' := s1.toks) hk
    exact ⟨s1.heap.objs.size + 4, [s1.heap.objs.size + 4, s1.heap.objs.size + 2, s1.heap.objs.size + 3, s1.heap.objs.size, s1.heap.objs.size + 1], _, _, H1, rfl, I2, turn_zipG src_tup src_list side_tup side_list (PySem.W.ktu_apart s1.heap.objs.size a b la lb), ⟨hz, hTI, ⟨_, _, hTO⟩, h1, h2⟩, fresh5, q⟩
  · obtain ⟨its, rv, p1, la⟩ := (side_list (a := a)).get X pins σ H1 s1 xs rfl I1 hqx
    obtain ⟨its2, rv2, p2, lb⟩ := (side_tup (a := b)).get X pins σ H1 s1 ys rfl I1 hqy
    refine call_zLT p1 p2 fun h' hz hTI hTO h1 h2 hk => wpAny_pyIter_zip hz ?_
    have I2 : L2.Inv X pins σ H1 { s1 with heap := h' } := I1.kept (t' := s1.toks) hk
    exact ⟨s1.heap.objs.size + 4, [s1.heap.objs.size + 4, s1.heap.objs.size + 2, s1.heap.objs.size + 3, s1.heap.objs.size, s1.heap.objs.size + 1], _, _, H1, rfl, I2, turn_zipG src_list src_tup side_list side_tup (PySem.W.ktu_apart s1.heap.objs.size a b la lb), ⟨hz, hTI, ⟨_, _, hTO⟩, h1, h2⟩, fresh5, q⟩
theorem walk_zipG {R1 R2 : Hp → List V → Prop} {xs ys : List V} {n : Nat} (hn : n = min xs.length ys.length) : Walk (ItzG R1 R2) n (fun H => R1 H xs ∧ R2 H ys) (YPair (fun i => xs[i]?) (fun i => ys[i]?)) := by
  subst hn
  refine ⟨fun i _ hi q => ?_, fun _ q => ⟨xs, ys, q.1, q.2, by omega⟩, fun i H v H' _ q y => ?_⟩
  · have k1 : i < xs.length := by omega
    have k2 : i < ys.length := by omega
    exact ⟨xs, ys, xs[i], ys[i], q.1, q.2, by simp [k1], by simp [k2]⟩
  · obtain ⟨T, x, u, k1, k2, k3, k4, k5⟩ := y
    exact ⟨T, x, u, k1, k2, k3, k4 xs q.1, k5 ys q.2⟩
end Bw
set_option Elab.async false
set_option linter.all false
set_option maxRecDepth 100000
set_option maxHeartbeats 4000000
namespace Bw
open PySem PySem.Spec PyProof.Rows L2
section
variable {X : Cx} {K : PySem.W.Frag}
theorem p_bm {o e : Expr} {es : List Expr} {to : TE} {t : TA} {name : Str} {apos cpos : Pos} {T id : String} {r : V → List V → Hp → VK → Prop} (pa : PlainAttrs T) (slot : Slot T name id) (hty : typeOf (.builtin id) = pure (.type "method_descriptor")) (hm : MtM X id r) (ho : PE X o to) (ha : PA X (e :: es) t) (hK : X.K = K := by rfl)
    (hbase : attributeBase o name X.env (eval o X.env) = eval o X.env := by rfl)
    (hfew : ((backTo cpos (starEach (e :: es) X.env)).all (fun x => !x.1) && (backToKw cpos (keywordEach [] X.env)).all (fun x => x.1.isSome) && decide ((e :: es).length + ([] : List Keyword).length + (if ([] : List Keyword).isEmpty then 0 else 1) < 30)) = true := by rfl)
    (hline : (apos.endLine == cpos.line) = true := by rfl) (hs : starEach (e :: es) X.env = (false, eval e X.env) :: starEach es X.env := by rfl) (hplain : (backTo cpos (starEach es X.env)).any (·.1) = false := by rfl) :
    PE X (.Call (.Attribute o name apos) (e :: es) [] cpos) (tBM K T r to t) := by
  subst hK
  exact pe_bm pa slot hty hm ho ha hbase hfew hline hs hplain
theorem p_zipA {e e2 : Expr} {ta : TA} {p pos tpos : Pos} {elts : List Expr} {kk : Nat} (hg : Gl X "zip") (hm : X.mg "zip" = none) (ha : PA X [e, e2] ta) (hK : X.K = K := by rfl)
    (hs : starEach [e, e2] X.env = (false, eval e X.env) :: starEach [e2] X.env := by rfl) (hpl : (backTo pos (starEach [e2] X.env)).any (·.1) = false := by rfl) : PI X (.Tuple elts kk tpos) (.Call (.Name "zip" p) [e, e2] [] pos) (RZ.iZipA K ta) := by
  subst hK
  exact RZ.pi_zipA hg hm ha hs hpl
/-! ### a walk over a list or a tuple -/
def SqS (K : PySem.W.Frag) (b : Bool) (H : Hp) (a : Addr) (xs : List V) : Prop := if b then SqL K H a xs else SqT K H a xs
def ItS (K : PySem.W.Frag) (b : Bool) (a : Addr) : It := if b then Itl K a else Itt K a
def oS (b : Bool) (xs : List V) : HO := if b then .lst xs else .tup xs
theorem SqS.of {K : PySem.W.Frag} {b : Bool} {H : Hp} {a : Addr} {xs : List V} (h : H a = some (oS b xs)) : SqS K b H a xs := by
  cases b
  · exact SqT.of h
  · exact SqL.of h
theorem SqS.or {K : PySem.W.Frag} {b : Bool} {H : Hp} {a : Addr} {xs : List V} (h : SqS K b H a xs) : SqL K H a xs ∨ SqT K H a xs := by
  cases b
  · exact .inr h
  · exact .inl h
theorem walk_seq {b : Bool} {a : Addr} {xs : List V} : Walk (ItS K b a) xs.length (fun H => SqS K b H a xs) (YAt xs) := by
  cases b
  · exact walk_tup
  · exact walk_list
def iSeq (K : PySem.W.Frag) (tl : TE) : TI := fun σ H R => tl σ H fun v H1 => ∃ (a : Addr) (xs : List V) (b : Bool), v = .ref a ∧ SqS K b H1 a xs ∧ R (ItS K b a) H1
theorem p_seq {tg l : Expr} {tl : TE} (hl : PE X l tl) (hK : X.K = K := by rfl) : PI X tg l (iSeq K tl) := by
  subst hK
  refine ⟨fun pins s σ H R I h => thn (hl.run pins s σ H _ I h) fun v s1 ⟨x, H1, I1, r1, q1⟩ => ?_⟩
  obtain ⟨a, xs, b, rfl, hq, q⟩ := q1
  cases r1
  have hf : ∀ c ∈ [s1.heap.objs.size], FpOk X pins H1 c := fun c hc => by
    rw [List.mem_singleton.mp hc]
    exact I1.fpOk (Nat.le_refl _) (I1.hok.fresh (Nat.le_refl _))
  cases b
  · obtain ⟨its, rv, p, hz⟩ := I1.tuple hq
    exact wpAny_pyIter_tuple (show s1.heap.IsTuple a its.toArray from p) ⟨s1.heap.objs.size, [s1.heap.objs.size], _, _, H1, rfl, I1.kept (t' := s1.toks) fun b o e => Heap.get?_push_of_some _ e, turn_tuple a _, ⟨_, Heap.get?_push_size _ rfl, rfl, rfl⟩, hf, q⟩
  · obtain ⟨its, rv, p, hz⟩ := I1.list hq
    exact wpAny_pyIter_list p.isList ⟨s1.heap.objs.size, [s1.heap.objs.size], _, _, H1, rfl, I1.kept (t' := s1.toks) fun b o e => Heap.get?_push_of_some _ e, turn_list a _, ⟨_, Heap.get?_push_size _ rfl, rfl, rfl⟩, hf, q⟩
end
end Bw
set_option Elab.async false
set_option linter.all false
set_option maxRecDepth 100000
set_option maxHeartbeats 4000000
namespace Bw
open PySem PySem.Spec PyProof.Rows L2
/-- a def read off its class, by the class's name -/
structure ClsFn (K : PySem.W.Frag) (mg : Str → Option Value) (x m : Str) (C f : Addr) : Prop where
  g : mg x = some (.ref C)
  sg : PySem.W.specialIn K (.ref C) "__getattribute__" = some (some (.builtin "type.__getattribute__"))
  ty : PySem.W.typeIn K (.ref C) = some (.type "type")
  rd : PySem.W.readsIn K C (.type "type") = true
  fc : PySem.W.findCls K (.ref C) (.type "type") m = some (.val (.ref f))
  kf : PySem.W.keepIn K (.ref f) = true
theorem pe_cfun {X : Cx} {x m : Str} {C f : Addr} {CX : CXT} {k : Nat} {fd : FuncData} {ps : List Str} {sp : Sp} {E : XK} {e : Expr} {es : List Expr} {t : TA} {np apos pos : Pos} {pl : Sem Bool} (T : ClsFn X.K X.mg x m C f) (F : FnOk X.prog X.w X.K X.mg X.base CX k f fd ps sp) (hr : Room k X.A) (hg : Gl X x)
    (hb : Binds X.K fd ps []) (hx : Passes CX X E) (ha : PA X (e :: es) t) (hdb : (x == ("__debug__" : Str)) = false := by decide)
    (ht : eval (.Call (.Attribute (.Name x np) m apos) (e :: es) [] pos) X.env = (do
      let ov ← eval (.Name x np) X.env
      standAt apos.atName
      let (f, first) ← holding [ov] (getMethod ov m pl)
      callWith pos f first (backTo pos (starEach (e :: es) X.env)) (backToKw pos (keywordEach [] X.env))) := by rfl)
    (he : starEach (e :: es) X.env = (false, eval e X.env) :: starEach es X.env := by rfl) (hpl : (backTo pos (starEach es X.env)).any (·.1) = false := by rfl) :
    PE X (.Call (.Attribute (.Name x np) m apos) (e :: es) [] pos) (tCall sp [] E t) := by
  refine ⟨fun pins s σ H Q I h => ?_⟩
  refine PySem.W.methodCall_KW (ld_glob I hg T.g ?_ hdb) ht
  obtain ⟨m, fr⟩ := I.fr
  refine PySem.W.method_of_cls fr I.ok.mod.kin T.sg (PySem.W.cls_val fr I.ok.mod.kin T.ty T.rd T.fc rfl ?_)
  show wpAny _ _ (callWith pos (Value.ref f) [] (backTo pos (starEach (e :: es) X.env)) []) _ _ _
  refine PySem.W.callWith_K (h₀ := X.base) I.ok.mod.kin T.kf (thn (ha.run pos pins _ σ H _ (I.tok _) h) fun us s1 ⟨vs, H1, I1, r, q⟩ => ⟨I1.kIn, ?_⟩) he hpl
  exact run_fn F hr hb .nil hx I1 r q
/-! ### raise C(), C with an __init__ of its own that wants nothing -/
theorem pmk_oex0 {X : Cx} {p pos : Pos} {CX : CXT} {x : Str} {C fI : Addr} {k : Nat} {fd : FuncData} {ps : List Str} {sp : Sp} (T : OexC X.K C) (iC : PySem.W.findIn X.K (.ref C) "__init__" = some (some (.ref fI))) (tI : PySem.W.typeIn X.K (.ref fI) = some (.type "function"))
    (F1 : FnOk X.prog X.w X.K X.mg X.base CX k fI fd ps sp) (hr : Room (k + 1) X.A) (hb : Binds X.K fd ps []) (hx : Passes CX X (fun _ _ _ => False)) (hg : Gl X x) (hm : X.mg x = some (.ref C)) (hdb : (x == ("__debug__" : Str)) = false := by decide) :
    PMk X (.Call (.Name x p) [] [] pos) (tMkO C sp [] tNil) := by
  intro pins s1 σ H1 Q I1 h
  obtain ⟨hz, q1⟩ := h
  obtain ⟨nm, q, N, bs, bm, sn, sub, ab, col, dd, k0, k1, k2, k3, k5, hC, hbm⟩ := T.cls
  refine wpAny_Call_Name_kw (ld_glob I1 hg hm ?_ hdb); refine PySem.W.callWith_K0 I1.kIn T.kC ?_
  show wpAny _ _ (call (.ref C) []) _ _ _
  obtain ⟨hp, g, dr, tk, os⟩ := s1
  have hsz : hp.objs.size ≤ hp.objs.size + 1 := Nat.le_succ _
  have hn : H1 (hp.objs.size + 1) = none := I1.hok.fresh hsz
  have hq := q1 (hp.objs.size + 1) hn
  have kk : ∀ b o, hp.get? b = some o → ((hp.push (PySem.W.kdv_tup [])).push (PySem.HandSPX.excO C hp.objs.size)).get? b = some o := fun b o e => Heap.get?_push_of_some _ (Heap.get?_push_of_some _ e)
  have hget : ((hp.push (PySem.W.kdv_tup [])).push (PySem.HandSPX.excO C hp.objs.size)).get? (hp.objs.size + 1) = some (PySem.HandSPX.excO C hp.objs.size) := by heap_get
  have I2 : L2.Inv X pins σ (upd H1 (hp.objs.size + 1) (exo (hp.objs.size + 1) C none)) ⟨(hp.push (PySem.W.kdv_tup [])).push (PySem.HandSPX.excO C hp.objs.size), g, dr, tk, os⟩ := I1.laid (t' := tk) (a := hp.objs.size + 1) (o := exo (hp.objs.size + 1) C none) (h' := (hp.push (PySem.W.kdv_tup [])).push (PySem.HandSPX.excO C hp.objs.size)) kk hsz (exo_ok hget)
  have r2 : Vals [V.ref (hp.objs.size + 1)] [Value.ref (hp.objs.size + 1)] := .cons rfl .nil
  have hl : ([Value.ref (hp.objs.size + 1)] ++ ([] : List Value)).length = ps.length := F1.len _ _ _ _ hq
  refine wpAny_call (PySem.HandSPX.call_own F.excBase_ValueError (fun Y => PySem.HandSPX.refsVE_contains Y bm hbm) (I1.kIn _ _ hC) (PySem.W.looks_findIn I1.kIn iC) (fun self => PySem.W.bind_fn I1.kIn self tI) (Nat.zero_le _)
    (codeAny_mono (F1.run _ X.stack _ _ ⟨[Value.ref (hp.objs.size + 1)], []⟩ [Value.ref (hp.objs.size + 1)] _ _ (fun _ _ _ => False) (hr.make C [] []) (I2.env0.make C [] []) (hb _ [Value.ref (hp.objs.size + 1)] I2.kIn hl) r2 hq) fun r s' hq' => ?_))
  cases r with
  | error er => exact hx pins σ _ _ er s' I2 hq'
  | ok fl =>
    cases fl with
    | ret u =>
      obtain ⟨v, H2, os2, bare2, un2, hok2, rv, ev, d, fs, ea, ed, hd1, q2⟩ := hq'
      subst ev
      obtain ⟨h2, g2, d2, t2, os'⟩ := s'
      exact ⟨rv, mk_end (raises_own T.exC T.tyC) I1 hsz kk un2 hok2 os2 bare2 ea ed hd1 q2⟩
    | next => exact False.elim hq'
    | brk => exact False.elim hq'
    | cont => exact False.elim hq'
/-- f(k = e, ..), nothing by place -/
def tCallK0 (sp : Sp) (gV : List V → List V → List V) (E : XK) (tk : TA) : TE := fun σ H Q => tk σ H fun zs H2 => sp (gV [] zs) H2 Q E
theorem pe_callK0 {X : Cx} {CX : CXT} {k : Nat} {f : Addr} {fd : FuncData} {ps ks : List Str} {sp : Sp} {E : XK} {x : Str} {p pos : Pos} {kws : List Keyword} {tk : TA} {g : List Value → List Value → List Value} {gV : List V → List V → List V}
    (F : FnOk X.prog X.w X.K X.mg X.base CX k f fd ps sp) (hr : Room k X.A) (hg : Gl X x) (hm : X.mg x = some (.ref f)) (hk : PySem.W.keepIn X.K (.ref f) = true) (hb : KBinds X.K fd ps ks g gV) (hx : Passes CX X E)
    (hkw : PK X kws tk) (hall : (backToKw pos (keywordEach kws X.env)).all (·.1.isSome) = true := by rfl) (hks : (backToKw pos (keywordEach kws X.env)).filterMap (·.1) = ks := by rfl)
    (hdb : (x == ("__debug__" : Str)) = false := by decide) (hpl : ((backTo pos (starEach [] X.env)).any (·.1) || (backToKw pos (keywordEach kws X.env)).any (·.1.isNone)) = false := by rfl) :
    PE X (.Call (.Name x p) [] kws pos) (tCallK0 sp gV E tk) := by
  refine ⟨fun pins s σ H Q I h => ?_⟩
  refine wpAny_Call_Name_kw (ld_glob I hg hm ?_ hdb)
  refine PySem.W.callWith_KW0 (h₀ := X.base) I.ok.mod.kin hk hall (thn (hkw.run pos pins s σ H _ I h) fun ws s2 ⟨zs, H2, I2, rz, q2⟩ => ⟨I2.kIn, ?_⟩) hpl
  rw [hks]
  exact run_fnk (us := []) (vs := []) F hr hb hx I2 .nil rz q2
theorem it_walk {J : It} {n : Nat} {G : Hp → Prop} {Y : Nat → Hp → V → Hp → Prop} (wk : Walk J n G Y) {H1 : Hp} {Qd : Hp → Prop} {Body : V → Hp → (Hp → Prop) → Prop} (Pv : Nat → Hp → Prop) (h0 : Pv 0 H1) (hG : ∀ i H, i ≤ n → Pv i H → G H)
    (hs : ∀ i x H H', i < n → Pv i H → Y i H x H' → Body x H' (Pv (i + 1))) (hd : ∀ H, Pv n H → Qd H) :
    ∃ W : Nat → Nat → Hp → Prop, (∃ m, W 0 m H1) ∧ ∀ i m H, W i m H → (J.stop i H ∧ Qd H) ∨ (J.go i H ∧ ∃ Nx : Hp → Prop, (∀ H', Nx H' → ∃ m', m' < m ∧ W (i + 1) m' H') ∧ ∀ x H', J.yld i H x H' → Body x H' Nx) := by
  refine ⟨fun i m H => m = n - i ∧ i ≤ n ∧ Pv i H, ⟨n, rfl, Nat.zero_le _, h0⟩, ?_⟩
  rintro i m H ⟨rfl, hi, p⟩
  have q := hG i H hi p
  by_cases hlt : i < n
  · exact .inr ⟨wk.goes i H hlt q, Pv (i + 1), fun H' p' => ⟨n - (i + 1), by omega, rfl, hlt, p'⟩, fun x H' y => hs i x H H' hlt p (wk.yields i H x H' hlt q y)⟩
  · have e : i = n := by omega
    subst e
    exact .inl ⟨wk.stops H q, hd H p⟩
section
variable {X : Cx} {K : PySem.W.Frag}
theorem p_bmR {o e : Expr} {es : List Expr} {to : TE} {t : TA} {name : Str} {apos cpos : Pos} {T id : String} {r : V → List V → Hp → VK → Prop} (pa : PlainAttrs T) (slot : Slot T name id) (hty : typeOf (.builtin id) = pure (.type "method_descriptor")) (hm : MtR X id r) (ho : PE X o to) (ha : PA X (e :: es) t) (hK : X.K = K := by rfl)
    (hbase : attributeBase o name X.env (eval o X.env) = eval o X.env := by rfl)
    (hfew : ((backTo cpos (starEach (e :: es) X.env)).all (fun x => !x.1) && (backToKw cpos (keywordEach [] X.env)).all (fun x => x.1.isSome) && decide ((e :: es).length + ([] : List Keyword).length + (if ([] : List Keyword).isEmpty then 0 else 1) < 30)) = true := by rfl)
    (hline : (apos.endLine == cpos.line) = true := by rfl) (hs : starEach (e :: es) X.env = (false, eval e X.env) :: starEach es X.env := by rfl) (hplain : (backTo cpos (starEach es X.env)).any (·.1) = false := by rfl) :
    PE X (.Call (.Attribute o name apos) (e :: es) [] cpos) (tBM K T r to t) := by
  subst hK
  exact pe_bm pa slot hty hm ho ha hbase hfew hline hs hplain
theorem c_max (hc : X.calm = true) (h : X.K = K := by rfl) : CallR X (.builtin "max") (rMax K) := by
  subst h
  exact cr_max hc
end
end Bw
set_option Elab.async false
set_option linter.all false
set_option maxRecDepth 100000
set_option maxHeartbeats 4000000
namespace Bw
open PySem PySem.Spec PyProof.Rows L2
/-! ### max and min of a tuple of whole numbers -/
section
variable {prog : Program} {w : World} {A : Around} {E : Value → Shared → Prop} {s : Shared} {l : Addr} {xs : Array (Int × Tok)}
theorem iter_intTup {Q : Value → Shared → Prop} (hl : s.heap.IsTuple l (intItems xs))
    (h : ∀ s₂ : Shared, s₂ = { s with heap := s.heap.push { cls := .type "tuple_iterator", data := .fields #[.ref l, .int 0 0] } } →
      (s₂.heap.IsTupleIter s.heap.objs.size l 0 ∧ s₂.heap.IsTuple l (intItems xs)) → (∀ b ∈ [s.heap.objs.size, l], b < s₂.heap.objs.size) → l ≠ s.heap.objs.size → Q (.ref s.heap.objs.size) s₂) :
    wpAny (model prog w) A (pyIter (.ref l)) Q E s := by
  have hlt : l < s.heap.objs.size := by obtain ⟨_, e, _⟩ := hl; exact Heap.lt_size e
  refine wpAny_pyIter_tuple hl (h _ rfl ⟨⟨_, Heap.get?_push_size _ rfl, rfl, rfl⟩, hl.at fun o e => Heap.get?_push_of_some _ e⟩ (fun b hb => ?_) (Nat.ne_of_lt hlt))
  show b < (s.heap.push _).objs.size
  rw [Heap.size_push]
  rcases List.mem_cons.mp hb with rfl | hb
  · exact Nat.lt_succ_self _
  · rcases List.mem_cons.mp hb with rfl | hb
    · exact Nat.lt_succ_of_lt hlt
    · cases hb
theorem old_keptT {h' : Heap} {o₀ : Obj} (hk : ∀ b o, b ∉ [s.heap.objs.size] → (s.heap.push o₀).get? b = some o → h'.get? b = some o) :
    ∀ b o, s.heap.get? b = some o → h'.get? b = some o := fun b o e => by
  refine hk b o (fun hm => ?_) (Heap.get?_push_of_some _ e)
  rcases List.mem_cons.mp hm with e1 | hm
  · exact absurd (e1 ▸ Heap.lt_size e) (Nat.lt_irrefl _)
  · cases hm
theorem max_intTup {Q : Value → Shared → Prop} (hh : A.handled = none) (hl : s.heap.IsTuple l (intItems xs)) (hne : 0 < xs.size)
    (h : ∀ v h' tk, (intItems xs)[argBest (fun i j => decide (numAt xs i > numAt xs j)) (xs.size - 1)]? = some v → (∀ b o, s.heap.get? b = some o → h'.get? b = some o) → Q v { s with heap := h', toks := tk }) :
    wpAny (model prog w) A (call (.builtin "max") [.ref l]) Q E s := by
  refine call_max_walk (iter_intTup hl fun s₂ e st hfp hlI => ?_)
  subst e
  refine ⟨_, _, _, _, _, _, _, rfl, Walks.tuple (A := A.in1) hh _ l hlI (intItems xs), st, hfp, by simpa [intItems] using hne, CmpOf.ints_gt (numAt xs) (fun _ _ => intItems_at), fun v h' tk hP hk => ?_⟩
  exact h v h' tk (by simpa [intItems] using hP) (old_keptT hk)
theorem min_intTup {Q : Value → Shared → Prop} (hh : A.handled = none) (hl : s.heap.IsTuple l (intItems xs)) (hne : 0 < xs.size)
    (h : ∀ v h' tk, (intItems xs)[argBest (fun i j => decide (numAt xs i < numAt xs j)) (xs.size - 1)]? = some v → (∀ b o, s.heap.get? b = some o → h'.get? b = some o) → Q v { s with heap := h', toks := tk }) :
    wpAny (model prog w) A (call (.builtin "min") [.ref l]) Q E s := by
  refine call_min_walk (iter_intTup hl fun s₂ e st hfp hlI => ?_)
  subst e
  refine ⟨_, _, _, _, _, _, _, rfl, Walks.tuple (A := A.in1) hh _ l hlI (intItems xs), st, hfp, by simpa [intItems] using hne, CmpOf.ints_lt (numAt xs) (fun _ _ => intItems_at), fun v h' tk hP hk => ?_⟩
  exact h v h' tk (by simpa [intItems] using hP) (old_keptT hk)
theorem max_rawT {its : List Value} {ns : List Int} {Q : Value → Shared → Prop} (hh : A.handled = none) (hl : s.heap.IsTuple l its.toArray) (hi : IntsAre its ns) (hne : 0 < ns.length)
    (h : ∀ h' tk M t', (∀ b o, s.heap.get? b = some o → h'.get? b = some o) → M ∈ ns → (∀ a, a ∈ ns → a ≤ M) → Q (.int M t') { s with heap := h', toks := tk }) : wpAny (model prog w) A (call (.builtin "max") [.ref l]) Q E s := by
  obtain ⟨xs, e⟩ := hi.allInts.items
  have hn : numsOf (intItems xs).toList = ns := by rw [← e]; exact hi.numsOf
  rw [nums_intItems] at hn
  subst hn
  rw [e] at hl
  have hsz : 0 < xs.size := by simpa using hne
  refine max_intTup hh hl hsz fun v h' tk hv hk => ?_
  obtain ⟨t, rfl⟩ := intItems_at hv
  obtain ⟨h1, h2⟩ := argBest_gt (numAt xs) (xs.size - 1)
  refine h h' tk _ t hk ?_ fun a ha => ?_
  · rw [numAt_eq]; exact PySem.getD_mem (by rw [List.length_map, Array.length_toList]; omega)
  · obtain ⟨j, hj, rfl⟩ := mem_getD ha
    rw [List.length_map, Array.length_toList] at hj
    rw [← numAt_eq]; exact h2 j (by omega)
theorem min_rawT {its : List Value} {ns : List Int} {Q : Value → Shared → Prop} (hh : A.handled = none) (hl : s.heap.IsTuple l its.toArray) (hi : IntsAre its ns) (hne : 0 < ns.length)
    (h : ∀ h' tk M t', (∀ b o, s.heap.get? b = some o → h'.get? b = some o) → M ∈ ns → (∀ a, a ∈ ns → M ≤ a) → Q (.int M t') { s with heap := h', toks := tk }) : wpAny (model prog w) A (call (.builtin "min") [.ref l]) Q E s := by
  obtain ⟨xs, e⟩ := hi.allInts.items
  have hn : numsOf (intItems xs).toList = ns := by rw [← e]; exact hi.numsOf
  rw [nums_intItems] at hn
  subst hn
  rw [e] at hl
  have hsz : 0 < xs.size := by simpa using hne
  refine min_intTup hh hl hsz fun v h' tk hv hk => ?_
  obtain ⟨t, rfl⟩ := intItems_at hv
  obtain ⟨h1, h2⟩ := argBest_lt (numAt xs) (xs.size - 1)
  refine h h' tk _ t hk ?_ fun a ha => ?_
  · rw [numAt_eq]; exact PySem.getD_mem (by rw [List.length_map, Array.length_toList]; omega)
  · obtain ⟨j, hj, rfl⟩ := mem_getD ha
    rw [List.length_map, Array.length_toList] at hj
    rw [← numAt_eq]; exact h2 j (by omega)
end
section
variable {X : Cx} {K : PySem.W.Frag}
def rMaxT (K : PySem.W.Frag) : List V → Hp → VK → Prop := fun vs H Q => ∃ (a : Addr) (ns : List Int), vs = [V.ref a] ∧ SqT K H a (ns.map V.int) ∧ 0 < ns.length ∧ ∀ m, m ∈ ns → (∀ y, y ∈ ns → y ≤ m) → Q (.int m) H
def rMinT (K : PySem.W.Frag) : List V → Hp → VK → Prop := fun vs H Q => ∃ (a : Addr) (ns : List Int), vs = [V.ref a] ∧ SqT K H a (ns.map V.int) ∧ 0 < ns.length ∧ ∀ m, m ∈ ns → (∀ y, y ∈ ns → m ≤ y) → Q (.int m) H
theorem c_maxT (hc : X.calm = true) (h : X.K = K := by rfl) : CallR X (.builtin "max") (rMaxT K) := by
  subst h
  intro pins s σ H vs us Q I r h
  obtain ⟨a, ns, rfl, hs, hne, q⟩ := h
  obtain ⟨its, rv, hl, _⟩ := I.tuple hs
  rw [Vals.ref1 r]
  exact max_rawT (I.ok.hd hc) hl rv.ints hne fun h' tk m t' hk h1 h2 => ⟨.int _, H, I.kept hk, ⟨_, rfl⟩, q m h1 h2⟩
theorem c_minT (hc : X.calm = true) (h : X.K = K := by rfl) : CallR X (.builtin "min") (rMinT K) := by
  subst h
  intro pins s σ H vs us Q I r h
  obtain ⟨a, ns, rfl, hs, hne, q⟩ := h
  obtain ⟨its, rv, hl, _⟩ := I.tuple hs
  rw [Vals.ref1 r]
  exact min_rawT (I.ok.hd hc) hl rv.ints hne fun h' tk m t' hk h1 h2 => ⟨.int _, H, I.kept hk, ⟨_, rfl⟩, q m h1 h2⟩
end
end Bw
set_option Elab.async false
set_option linter.all false
set_option maxRecDepth 100000
set_option maxHeartbeats 4000000
namespace Bw
open PySem PySem.Spec PyProof.Rows L2
/-! ### a op b op c op d -/
section
variable {X : Cx} {K : PySem.W.Frag} {a b c d : Expr} {ta tb tc td : TE} {pos : Pos}
def tChain3 (r r' r'' : R2) (ta tb tc td : TE) : TE := fun σ H Q => ta σ H fun x H1 => tb σ H1 fun y H2 => r x y H2 fun z H3 => ∃ k, z = .bl k ∧
  (if k = true then tc σ H3 fun w' H4 => r' y w' H4 fun z H5 => ∃ k, z = .bl k ∧ (if k = true then td σ H5 fun v' H6 => r'' w' v' H6 Q else Q (.bl false) H5) else Q (.bl false) H3)
theorem pe_chain3 {op op' op'' : CmpOp} {r r' r'' : R2} (ho : OpR X (compareOp op) r) (ho' : OpR X (compareOp op') r') (ho'' : OpR X (compareOp op'') r'') (ha : PE X a ta) (hb : PE X b tb) (hc : PE X c tc) (hd : PE X d td)
    (hm : lastMarks [op, op', op''] [b, c, d] = false := by with_unfolding_all rfl) : PE X (.Compare a [op, op', op''] [b, c, d] pos) (tChain3 r r' r'' ta tb tc td) := by
  refine ⟨fun pins s σ H Q I h => ?_⟩
  refine Compare_chain (thn (ha.run pins s σ H _ I h) fun v s1 ⟨x, H1, I1, r1, q1⟩ => chain_link (thn (hb.run pins s1 σ H1 _ I1 q1) fun u s2 ⟨y, H2, I2, r2, q2⟩ =>
    thn (ho pins s2 σ H2 x y v u _ I2 r1 r2 q2) fun d s3 ⟨z, H3, I3, r3, k, e, q3⟩ => ?_)) hm
  subst e
  cases r3
  refine wpAny_truthy_bool ?_
  cases k with
  | false => exact ite_ff ⟨.bl false, H3, I3, rfl, q3⟩
  | true =>
    refine ite_tt (chain_link (thn (hc.run pins s3 σ H3 _ I3 q3) fun w' s4 ⟨z', H4, I4, r4, q4⟩ => thn (ho' pins s4 σ H4 y z' u w' _ I4 r2 r4 q4) fun d s5 ⟨z, H5, I5, r5, k, e, q5⟩ => ?_))
    subst e
    cases r5
    refine wpAny_truthy_bool ?_
    cases k with
    | false => exact ite_ff ⟨.bl false, H5, I5, rfl, q5⟩
    | true => exact ite_tt (chain_last (thn (hd.run pins s5 σ H5 _ I5 q5) fun w2 s6 ⟨z2, H6, I6, r6, q6⟩ => ho'' pins s6 σ H6 z' z2 w' w2 Q I6 r4 r6 q6))
/-! ### x in t, a tuple of data -/
def rInDT (K : PySem.W.Frag) (neg : Bool) : R2 := fun x y H Q => ∃ d ds, Dp K H x d ∧ Dp K H y (.tuple ds) ∧ SeqAt.shaped d = true ∧ SeqAt.shaped (.tuple ds) = true ∧ Q (.bl (if neg then !(ds.any fun z => PyData.eqv z d) else ds.any fun z => PyData.eqv z d)) H
theorem o_inDT (hu : X.A.units + 65 < cLine) (hK : X.K = K := by rfl) : OpR X (compareOp .In) (rInDT K false) := by
  subst hK
  intro pins s σ H x y v u Q I rx ry h
  obtain ⟨d, ds, hd, he, sd, se, q⟩ := h
  obtain ⟨as, r1⟩ := Dp.reads I d x v hd rx
  obtain ⟨bs, r2⟩ := Dp.reads I (.tuple ds) y u he ry
  exact SeqAt.in_tuple_reads r2 r1 (SeqAt.canLay_of_shaped se) (SeqAt.canLay_of_shaped sd) (room_in_shaped sd hu) ⟨.bl _, H, I, rfl, q⟩
theorem o_notInDT (hu : X.A.units + 65 < cLine) (hK : X.K = K := by rfl) : OpR X (compareOp .NotIn) (rInDT K true) := by
  subst hK
  intro pins s σ H x y v u Q I rx ry h
  obtain ⟨d, ds, hd, he, sd, se, q⟩ := h
  obtain ⟨as, r1⟩ := Dp.reads I d x v hd rx
  obtain ⟨bs, r2⟩ := Dp.reads I (.tuple ds) y u he ry
  exact SeqAt.notIn_tuple_reads r2 r1 (SeqAt.canLay_of_shaped se) (SeqAt.canLay_of_shaped sd) (room_in_shaped sd hu) ⟨.bl _, H, I, rfl, q⟩
theorem o_inDL (hu : X.A.units + 65 < cLine) (hK : X.K = K := by rfl) : OpR X (compareOp .In) (rInD K) := by
  subst hK
  exact op_inD hu
theorem o_notInDL (hu : X.A.units + 65 < cLine) (hK : X.K = K := by rfl) : OpR X (compareOp .NotIn) (rNotInD K) := by
  subst hK
  exact op_notInD hu
theorem o_leT (hu : X.A.units < cLine) (hK : X.K = K := by rfl) : OpR X (compareOp .LtE) (rLeT K) := by
  subst hK
  exact op_leT hu
theorem o_ltT (hu : X.A.units < cLine) (hK : X.K = K := by rfl) : OpR X (compareOp .Lt) (rLtT K) := by
  subst hK
  exact op_ltT hu
end
/-! ### t[::-1] of a tuple -/
section
variable {prog : Program} {w : World} {A : Around} {E : Value → Shared → Prop} {s : Shared}
theorem places_rev (n : Nat) : Builtin.Slice.slicePlaces ((n : Int) - 1) (-1) (-1) = n := by
  unfold Builtin.Slice.slicePlaces
  rw [if_neg (by decide)]
  by_cases h : (n : Int) - 1 > -1
  · rw [if_pos h, show (- -1 : Int) = 1 by decide, Int.ediv_one]
    omega
  · rw [if_neg h]
    omega
theorem fm_congr {α β : Type} {f g : α → Option β} : ∀ {l : List α}, (∀ x ∈ l, f x = g x) → l.filterMap f = l.filterMap g
  | [], _ => rfl
  | x :: l, h => by
    rw [List.filterMap_cons, List.filterMap_cons, h x List.mem_cons_self, fm_congr (l := l) fun y hy => h y (List.mem_cons_of_mem _ hy)]
theorem pick_rev (xs : Array Value) : ((List.range xs.size).filterMap fun (k : Nat) => xs[(((xs.size : Int) - 1) + (k : Int) * (-1)).toNat]?).toArray = xs.toList.reverse.toArray := by
  have e : ((List.range xs.size).filterMap fun (k : Nat) => xs[(((xs.size : Int) - 1) + (k : Int) * (-1)).toNat]?) = ((List.range xs.size).map fun k => xs.size - 1 - k).filterMap (xs[·]?) := by
    rw [List.filterMap_map]
    refine fm_congr fun k hk => ?_
    have := List.mem_range.mp hk
    show _ = xs[xs.size - 1 - k]?
    congr 1
    omega
  rw [e, PySem.W.krv_range, List.filterMap_reverse, PySem.W.krv_all]
theorem sliceApplied_rev {sl : Addr} {n : Nat} {u : Tok} {Q : Int × Int × Nat → Shared → Prop} (hs : s.heap.IsSliceOf sl .none .none (.int (-1) u))
    (h : Q ((n : Int) - 1, -1, n) s) :
    wpAny (model prog w) A (Builtin.Slice.sliceApplied (.ref sl) (pure (n : Int))) Q E s := by
  obtain ⟨os, hos, hcs, hds⟩ := id hs
  unfold Builtin.Slice.sliceApplied Builtin.Slice.sliceFields
  refine wpAny_bind (wpAny_bind (wpAny_field hos hds (x := .none) rfl (wpAny_bind (wpAny_field hos hds (x := .none) rfl (wpAny_bind (wpAny_field hos hds (x := .int (-1) u) rfl (wpAny_pure ?_)))))))
  refine wpAny_bind (slicePart_int ?_)
  show wpAny _ _ (if ((-1 : Int) == 0) = true then _ else _) _ _ s
  rw [if_neg (by decide)]
  refine wpAny_bind (slicePart_none (wpAny_bind (slicePart_none (wpAny_bind (wpAny_pure ?_)))))
  show wpAny _ _ (pure ((n : Int) - 1, (-1 : Int), Builtin.Slice.slicePlaces ((n : Int) - 1) (-1) (-1))) _ _ s
  rw [places_rev]
  exact wpAny_pure h
theorem getItem_tuple_rev {t sl : Addr} {items : Array Value} {u : Tok} {Q : Value → Shared → Prop} (ht : IsTup s.heap t items) (hs : s.heap.IsSliceOf sl .none .none (.int (-1) u))
    (h : Q (.ref s.heap.objs.size) { s with heap := s.heap.push { cls := .type "tuple", data := .seq items.toList.reverse.toArray } })
    (hsz : items.size ≤ sizeLine := by size_fits) : wpAny (model prog w) A (getItem (.ref t) (.ref sl)) Q E s := by
  have hdrop : sizeOk (.seq items.toList.reverse.toArray) := by
    show items.toList.reverse.toArray.size ≤ sizeLine
    rw [List.size_toArray, List.length_reverse, Array.length_toList]
    omega
  obtain ⟨os, hos, hcs, hds⟩ := id hs
  have hTs : s.TypeIs (.ref sl) "slice" := ⟨os, hos, hcs⟩
  unfold getItem
  try with_reducible refine wpAny_holding ?_
  first | refine wpAny_bind (wpAny_pure ?_) | skip
  refine wpAny_bind (wpAny_sequenceKey ht.typeIs (by decide) ?_)
  refine wpAny_bind (wpAny_callSpecial?_slot (name := Str.ofString "__getitem__") ht.typeIs slot_tuple_getitem
    (wpAny_call_entry slot_tuple_getitem ht.typeIs entry_tuple_getitem ?_ (args_tuple_getitem _ _)))
  show wpAny _ _ (Builtin.Tuple.tupleItemsOf (.ref t) >>= _) _ _ s
  refine wpAny_bind (tupleItemsOf_ ht ?_)
  refine wpAny_bind (wpAny_typeOf hTs ?_)
  rw [if_pos (by decide)]
  refine wpAny_bind (sliceApplied_rev hs ?_)
  have hno : ¬ ((((items.size : Int) - 1 == 0) && ((-1 : Int) == 1) && (items.size == items.size)) = true) := by
    cases ((items.size : Int) - 1 == 0) <;> simp
  show wpAny _ _ (if (((items.size : Int) - 1 == 0) && ((-1 : Int) == 1) && (items.size == items.size)) = true then _ else _) _ _ s
  rw [if_neg hno, pick_rev items]
  first
    | exact wpAny_bind (m := Builtin.Tuple.tupleExact _) (wpAny_newObj_type (wpAny_pure ⟨_, rfl, wpAny_pure h⟩) hdrop)
    | exact wpAny_bind (m := Builtin.Tuple.tupleExact _) (wpAny_newObj_type (wpAny_bind (wpAny_pure (wpAny_pure ⟨_, rfl, wpAny_pure h⟩))) hdrop)
    | exact wpAny_bind (wpAny_bind (m := Builtin.Tuple.tupleExact _) (wpAny_newObj_type (wpAny_pure (wpAny_pure ⟨_, rfl, wpAny_pure h⟩)) hdrop))
    | exact wpAny_bind (wpAny_bind (m := Builtin.Tuple.tupleExact _) (wpAny_newObj_type (wpAny_pure ⟨_, rfl, wpAny_pure h⟩) hdrop))
end
section
variable {X : Cx} {K : PySem.W.Frag}
def tRevT (K : PySem.W.Frag) (te : TE) : TE := fun σ H Q => te σ H fun x H1 => ∃ a xs, x = .ref a ∧ SqT K H1 a xs ∧ ∀ p, H1 p = none → Q (.ref p) (upd H1 p (.tup xs.reverse))
theorem pe_revT {e : Expr} {te : TE} {k : Nat} {p1 p2 p3 pos : Pos} (he : PE X e te) (hK : X.K = K := by rfl) : PE X (.Subscript e (.Slice none none (some (.UnaryOp .USub (.Constant (.int 1) k p1) p2)) p3) pos) (tRevT K te) := by
  subst hK
  refine ⟨fun pins s σ H Q I h => ?_⟩
  refine Subscript_ (thn (he.run pins s σ H _ I h) fun v s1 ⟨x, H1, I1, r1, q1⟩ => ?_)
  obtain ⟨a, xs, ex, hx, q⟩ := q1
  subst ex
  cases r1
  have hst : PO X (some (.UnaryOp .USub (.Constant (.int 1) k p1) p2)) (tPart (tUn (rU fun i => .int (-i)) (tC (.int 1)))) := po_some (pe_un un_neg pe_int)
  refine wpAny_Slice (thn (po_none.run pins s1 σ H1 (fun o H2 => o = none ∧ H2 = H1) I1 ⟨rfl, rfl⟩) fun vl s2 ⟨l, H2, I2, pl, el, e2⟩ => ?_)
  subst el e2
  refine thn (po_none.run pins s2 σ H2 (fun o H3 => o = none ∧ H3 = H2) I2 ⟨rfl, rfl⟩) fun vu s3 ⟨u, H3, I3, pu, eu, e3⟩ => ?_
  subst eu e3
  refine thn (hst.run pins s3 σ H3 (fun o H4 => o = some (-1) ∧ H4 = H3) I3 ⟨1, rfl, -1, rfl, rfl, rfl⟩) fun vs s4 ⟨o, H4, I4, ps, eo, e4⟩ => ?_
  subst eo e4
  have I5 : L2.Inv X pins σ H4 { s4 with heap := s4.heap.push { cls := .type "slice", data := .fields #[vl, vu, vs] } } := I4.kept (t' := s4.toks) fun b ob q => Heap.get?_push_of_some _ q
  obtain ⟨its, r, ht, hz⟩ := I5.tuple hx
  have hlen := r.length
  cases pl
  cases pu
  obtain ⟨u, es⟩ : ∃ u, vs = .int (-1) u := by
    cases ps
    exact ⟨_, rfl⟩
  subst es
  show wpAny (model X.prog X.w) X.A (subscriptTail e (.Slice none none (some (.UnaryOp .USub (.Constant (.int 1) k p1) p2)) p3) (.ref a) (.ref s4.heap.objs.size)) (EP X pins σ Q) X.xe _
  refine tail_any (ops := [.ref a, .ref s4.heap.objs.size]) ht.typeIs (slot_tuple_getitem.lookup) ?_ (by with_unfolding_all rfl)
  refine getItem_tuple_rev ht (Heap.IsSliceOf.new _ _ _ _) ?_ (by rw [List.size_toArray]; omega)
  refine ⟨.ref _, _, I5.laid (t' := s4.toks) (o := .tup xs.reverse) (fun b ob q => Heap.get?_push_of_some _ q) (Nat.le_refl _) ?_, rfl, q _ (I5.hok.fresh (Nat.le_refl _))⟩
  exact ⟨by rw [List.length_reverse]; exact hz, _, r.reverse, IsTup.new _ _⟩
end
end Bw
set_option Elab.async false
set_option linter.all false
set_option maxRecDepth 100000
set_option maxHeartbeats 4000000
/-! ### enumerate(t) of a tuple -/
namespace PySem
set_option maxHeartbeats 1000000 in
theorem meets_enumerate_newTu (l : Addr) (items : Array Value) (n : Nat) (dct : Option Addr) (sl : Array (Option Value)) :
    Meets (Builtin.«enumerate.__new__» ⟨[.type "enumerate", .ref l], []⟩) (fun _ R s => s.heap.get? l = some { cls := .type "tuple", dict := dct, data := .seq items n, slots := sl } ∧
      R (.ok (.ret (.ref (s.heap.push { cls := .type "tuple_iterator", data := .fields #[.ref l, .int 0 0] }).objs.size)))
        { s with heap := (s.heap.push { cls := .type "tuple_iterator", data := .fields #[.ref l, .int 0 0] }).push { cls := .type "enumerate", data := .fields #[.none, .bool false, .ref s.heap.objs.size, rawInt 0, .none, .none] } }) :=
  .of_wp fun prog w A R s h => by
    obtain ⟨hp, g, d, tk, os⟩ := s; obtain ⟨hl, h⟩ := h
    have hsub := sub_enumerate
    have hL : Heap.IsTuple (Shared.heap ⟨hp, g, d, tk, os⟩) l items := ⟨_, hl, rfl, n, rfl⟩
    wp_walk using wpAny_loadPart' hl
    refine wpAny_stack_any fun st => wpAny_pure ?_
    split
    · rename_i c _ _ _ _ _
      cases (c == Value.type "enumerate")
      · wp_walk using wpAny_loadPart' hl, wpAny_pyIter_tuple hL
        exact ⟨_, rfl, h⟩
      · wp_walk using wpAny_loadPart' hl, wpAny_pyIter_tuple hL
        exact ⟨_, rfl, h⟩
    · wp_walk using wpAny_loadPart' hl, wpAny_pyIter_tuple hL
      exact ⟨_, rfl, h⟩
theorem call_enumerate_tu {prog : Program} {w : World} {A : Around} {E : Value → Shared → Prop} {s : Shared} {l : Addr} {items : Array Value} {Q : Value → Shared → Prop} (hL : s.heap.IsTuple l items)
    (h : ∀ h', IsEnum h' (s.heap.objs.size + 1) s.heap.objs.size 0 .none → h'.IsTupleIter s.heap.objs.size l 0 → h'.objs.size = s.heap.objs.size + 2 →
      (∀ b o, s.heap.get? b = some o → h'.get? b = some o) → Q (.ref (s.heap.objs.size + 1)) { s with heap := h' }) :
    wpAny (model prog w) A (call (.type "enumerate") [.ref l]) Q E s := by
  obtain ⟨⟨c, dct, dt, sl⟩, hl, hc, n, hd⟩ := hL
  replace hc : c = .type "tuple" := hc
  replace hd : dt = .seq items n := hd
  subst hc hd
  refine callType_new F.called_enumerate (by decide) (F.typeCall_enumerate_1 _) (F.newCall_enumerate_1 _) (fun obj => F.args_object_init_2 obj _) F.entry_enumerate_new
    (meets_enumerate_newTu l items n dct sl) ⟨hl, ?_⟩
  have hz : (s.heap.push { cls := .type "tuple_iterator", data := .fields #[.ref l, .int 0 0] }).objs.size = s.heap.objs.size + 1 := Heap.size_push ..
  show _ ∧ _
  rw [hz]
  have he : IsEnum ((s.heap.push { cls := .type "tuple_iterator", data := .fields #[.ref l, .int 0 0] }).push
      { cls := .type "enumerate", data := .fields #[.none, .bool false, .ref s.heap.objs.size, rawInt 0, .none, .none] }) (s.heap.objs.size + 1) s.heap.objs.size 0 .none := by
    have := Heap.get?_push_size (s.heap.push { cls := .type "tuple_iterator", data := .fields #[.ref l, .int 0 0] })
      (o := { cls := .type "enumerate", data := .fields #[.none, .bool false, .ref s.heap.objs.size, rawInt 0, .none, .none] }) rfl
    rw [hz] at this; exact this
  refine ⟨⟨_, he, rfl⟩, h _ he ⟨_, Heap.get?_push_of_some _ (Heap.get?_push_size _ rfl), rfl, rfl⟩ (by rw [Heap.size_push, hz]) fun b o x => Heap.get?_push_of_some _ (Heap.get?_push_of_some _ x)⟩
end PySem
namespace Bw
open PySem PySem.Spec PyProof.Rows L2
def IteT (K : PySem.W.Frag) (a : Addr) : It :=
  ⟨fun i H => ∃ (xs : List V) (x : V), SqT K H a xs ∧ xs[i]? = some x, fun i H v H' => ∃ T x, v = .ref T ∧ H T = none ∧ H' = upd H T (.tup [.int (i : Nat), x]) ∧ ∀ xs, SqT K H a xs → xs[i]? = some x, fun i H => ∃ xs : List V, SqT K H a xs ∧ xs.length ≤ i⟩
theorem turn_enumT {P : Program} {w : World} {K : PySem.W.Frag} {elts : List Expr} {kk : Nat} {tpos : Pos} (a e it : Addr) (hait : a ≠ it) (hea : e ≠ a) :
    Turn P w K (.Tuple elts kk tpos) (IteT K a) [e, it] e (fun i h => (∃ old, IsEnum h e it ((i : Nat) : Int) old) ∧ h.IsTupleIter it a i ∧ e ≠ it) where
  mem := by simp
  obj := fun i h st b hb => by
    obtain ⟨⟨old, he⟩, ⟨o, ho, hc, hd⟩, _⟩ := st
    have e' : b = e ∨ b = it := by simpa using hb
    rcases e' with z | z
    · rw [z]; exact ⟨_, he, fun v q => nomatch q⟩
    · rw [z]; exact ⟨o, ho, fun v q => by rw [hd] at q; cases q⟩
  keep := fun i h h' st k => let ⟨⟨old, he⟩, hi, hne⟩ := st; ⟨⟨old, k e (by simp) _ he⟩, hi.at fun o q => k it (by simp) o q, hne⟩
  item := by
    intro X hP hw hK hc i pins s σ H E I hf st hg
    subst hP hw hK
    obtain ⟨⟨old, he⟩, hit, hne⟩ := st
    obtain ⟨xs, x, hq, hx⟩ := hg
    obtain ⟨its, rv, p, hz⟩ := I.tuple hq
    obtain ⟨u, hu, ru⟩ := rv.get hx
    have hel : e < s.heap.objs.size := Heap.lt_size he
    have hil : it < s.heap.objs.size := by obtain ⟨_, q, _⟩ := hit; exact Heap.lt_size q
    have hiu : its.toArray[i]? = some u := by simpa using hu
    have hlt : i < its.toArray.size := (Array.getElem?_eq_some_iff.mp hiu).1
    refine wpAny_pyNext_enum_itemD (Draws.tuple (A := X.A.in1) (I.ok.hd hc) it a hait its.toArray) he ⟨hit, p⟩ hlt hne (by simp [hne, hea]) fun u' h' tk hP ho st' hT hsz hk => ?_
    have eu : u' = u := Option.some.inj (hP.symm.trans hiu)
    subst eu
    obtain ⟨hit', _⟩ := st'
    refine ⟨_, rfl, wpAny_letOwnedTupleGo_enum (s := { s with heap := h', toks := tk + 1 }) ho fun h'' he' sb => ?_⟩
    have hT2 : h''.get? s.heap.objs.size = some { cls := .type "tuple", data := .seq #[.int i tk, u'] } := (sb.2 _ (Nat.ne_of_gt hel)).trans hT
    have new : ObjOk X.prog X.w (upd H s.heap.objs.size (.tup [.int (i : Nat), x])) h'' s.heap.objs.size (.tup [.int (i : Nat), x]) :=
      ⟨by show 2 ≤ sizeLine; decide, [.int i tk, u'], .cons ⟨_, rfl⟩ (.cons ru .nil), ⟨_, hT2, rfl, _, rfl⟩⟩
    have I1 : L2.Inv X pins σ (upd H s.heap.objs.size (.tup [.int (i : Nat), x])) { s with heap := h'', toks := tk + 1 } :=
      I.turnedNew (ch := [e, it]) (fun b ob hb q => (sb.2 b (fun z => hb (by simp [z]))).trans (hk b ob (fun z => hb (by simp [z])) (fun z => hb (by simp [z])) q)) hf (Nat.le_refl _) new
    refine ⟨.ref s.heap.objs.size, _, I1, rfl, ⟨_, x, rfl, I.hok.fresh (Nat.le_refl _), rfl, fun ys hy => by rw [I.tuple_inj hy hq]; exact hx⟩, ⟨⟨u', ?_⟩, hit'.at fun o q => (sb.2 it (Ne.symm hne)).trans q, hne⟩, fun b hb => ?_⟩
    · have e1 : ((i + 1 : Nat) : Int) = (i : Int) + 1 := by omega
      rw [e1]; exact he'
    · have hb' : b < s.heap.objs.size := by
        have e' : b = e ∨ b = it := by simpa using hb
        rcases e' with z | z
        · rw [z]; exact hel
        · rw [z]; exact hil
      rw [upd_ne (Nat.ne_of_lt hb')]
      exact (hf b hb).1
  done := by
    intro X hP hw hK hc i pins s σ H E I hf st hg
    subst hP hw hK
    obtain ⟨⟨old, he⟩, hit, hne⟩ := st
    obtain ⟨xs, hq, hx⟩ := hg
    obtain ⟨its, rv, p, hz⟩ := I.tuple hq
    obtain ⟨f0, f1, f2, f3, f4, f5⟩ := hf it (by simp)
    have hl := rv.length
    have hT : s.TypeIs (.ref e) "enumerate" := ⟨_, he, rfl⟩
    unfold pyNext
    refine wpAny_bind (wpAny_attempt (wpAny_callSpecial?_slot (name := Str.ofString "__next__") hT F.slot_enumerate_next
      (wpAny_call_entry F.slot_enumerate_next hT F.entry_enumerate_next ?_ (F.args_enumerate_next_1 _))))
    show wpAny _ _ (field (.ref e) 2 >>= _) _ _ _
    refine wpAny_bind (wpAny_field he rfl (x := .ref it) rfl ?_)
    refine wpAny_bind (wpAny_nextOf_tuple_end (A := X.A.in1) (I.ok.hd hc) hit p (by simp; omega) fun h' x he' hx' => ?_)
    obtain ⟨o, ho, hc'⟩ := hx'
    refine wpAny_bind (wpAny_isInstance (T := "StopIteration") (b := true) ⟨o, ho, hc'⟩ isSubtype_stop ?_)
    exact wpAny_pure ⟨rfl, I.turned (t' := s.toks) (fun b o hb q => he' b o hb q) f0 f1 f3 f4 f5⟩
  self := fun A i s Q E st h => let ⟨⟨_, he⟩, _⟩ := st; wpAny_pyIter_enum he h
def iEnumT (K : PySem.W.Frag) (ta : TA) : TI := fun σ H R => ta σ H fun vs H1 => ∃ a xs, vs = [.ref a] ∧ SqT K H1 a xs ∧ R (IteT K a) H1
theorem p_enumT {X : Cx} {K : PySem.W.Frag} {e : Expr} {ta : TA} {p pos tpos : Pos} {elts : List Expr} {kk : Nat} (hg : Gl X "enumerate") (hm : X.mg "enumerate" = none) (ha : PA X [e] ta) (hK : X.K = K := by rfl) (hs : starEach [e] X.env = [(false, eval e X.env)] := by rfl) :
    PI X (.Tuple elts kk tpos) (.Call (.Name "enumerate" p) [e] [] pos) (iEnumT K ta) := by
  subst hK
  refine ⟨fun pins s σ H R I h => ?_⟩
  refine Call_ (ld_blt I hg hm boot_enumerate (PyProof.Rows.callWith_type1 (thn (ha.run pos pins s σ H _ I h) fun us s1 ⟨vs, H1, I1, r1, q1⟩ => ?_) hs rfl))
  obtain ⟨a, xs, ex, hq, q⟩ := q1
  subst ex
  cases r1 with
  | cons r rr =>
    cases rr
    cases r
    obtain ⟨its, rv, p', hz⟩ := I1.tuple hq
    have hal : a < s1.heap.objs.size := by obtain ⟨_, e, _⟩ := p'; exact Heap.lt_size e
    refine call_enumerate_tu p' fun h' he hit hsz hk => wpAny_pyIter_enum he ?_
    have I2 : L2.Inv X pins σ H1 { s1 with heap := h' } := I1.kept (t' := s1.toks) hk
    refine ⟨s1.heap.objs.size + 1, [s1.heap.objs.size + 1, s1.heap.objs.size], _, _, H1, rfl, I2, turn_enumT a (s1.heap.objs.size + 1) s1.heap.objs.size (Nat.ne_of_lt hal) (Nat.ne_of_gt (Nat.lt_succ_of_lt hal)), ⟨⟨.none, he⟩, hit, Nat.succ_ne_self _⟩, fun b hb => ?_, q⟩
    have e' : b = s1.heap.objs.size + 1 ∨ b = s1.heap.objs.size := by simpa using hb
    have hle : s1.heap.objs.size ≤ b := by
      rcases e' with z | z
      · rw [z]; exact Nat.le_add_right _ _
      · rw [z]; exact Nat.le_refl _
    exact I1.fpOk hle (I1.hok.fresh hle)
theorem walk_enumT {K : PySem.W.Frag} {a : Addr} {xs : List V} : Walk (IteT K a) xs.length (fun H => SqT K H a xs) (YPair (fun i => some (.int (i : Nat))) (fun i => xs[i]?)) := by
  refine ⟨fun i _ hi q => ⟨xs, xs[i], q, by simp [hi]⟩, fun _ q => ⟨xs, q, Nat.le_refl _⟩, fun i H v H' _ q y => ?_⟩
  obtain ⟨T, x, h1, h2, h3, h4⟩ := y
  exact ⟨T, .int (i : Nat), x, h1, h2, h3, rfl, h4 xs q⟩
end Bw
set_option Elab.async false
set_option linter.all false
set_option maxRecDepth 100000
set_option maxHeartbeats 4000000
namespace Bw
open PySem PySem.Spec PyProof.Rows L2 LamX
/-! ### try: .. except x as n: .. and more clauses, where the first one takes whatever is raised -/
def wAs1 (K : PySem.W.Frag) (c : Value) (i : Nat) (ts : Addr → Value → Option Addr → TS) (D : Ends) : WX := fun cls d σ H =>
  PySem.W.exmOne K cls c = some true ∧ ∀ a, H a = none → ts a cls d { nx := fun σ' H' => D.nx (σ'.set i none) H', rt := D.rt, bk := fun σ' H' => D.bk (σ'.set i none) H', ct := fun σ' H' => D.ct (σ'.set i none) H' } (σ.set i (some (.ref a))) H
theorem ps_try_as1 {X : Cx} {x n : Str} {c : Value} {i : Nat} {body suite : List Stmt} {b₀ : Stmt} {np pos pos' : Pos} {tb : WX → TS} {ts : Addr → Value → Option Addr → TS} {hds : List ExceptHandler} (hs : X.stack = X.env :: X.outer) (hf : X.env.frame = some X.env.locals) (hN : X.N.Nodup) (hi : X.N[i]? = some n) (hln : X.env.kindOf n = some .local) (hc : Names X x c)
    (hb : ∀ (W : WX) (pn : List (Addr × Obj)) (xe : Value → Shared → Prop), Takes (X.tr pn xe) W → PassesOwn (model X.prog X.w) X.A X.env xe → PSs (X.tr pn xe) body (tb W))
    (hsu : ∀ (a : Addr) (oe : Obj) (cls : Value) (d : Option Addr) (pn : List (Addr × Obj)), Zc cls d oe → (∃ vs, oe.data = .fields vs) → PSs (X.suite a ((a, oe) :: pn)) (b₀ :: suite) (ts a cls d)) :
    PS X (.Try body (.ExceptHandler (some (.Name x np)) (some n) (b₀ :: suite) pos' :: hds) [] [] pos) (fun D σ H => tb (wAs1 X.K c i ts D) D σ H) := by
  refine ⟨fun pins s σ H D I h => ?_⟩
  have ok := I.ok
  have hfr : X.A.frames = some (X.env :: X.outer) := by rw [ok.frames, hs]
  have hloc : Loc X.env.scope n := .inl hln
  refine wpAny_Try_except ?_
  refine wpAny_mono ((hb (wAs1 X.K c i ts D) (X.pn ++ pins) (fun e s₁ => wpAny (model X.prog X.w) X.A (noteFrame e X.env) (fun _ s₂ => wpAny (model X.prog X.w) X.A (setFlight e none) (fun _ s₃ => wpAny (model X.prog X.w) X.A (handleBy e X.env (.ExceptHandler (some (.Name x np)) (some n) (b₀ :: suite) pos' :: hds)) (SP X pins D) X.xe s₃) X.xe s₂) X.xe s₁) (fun u s' xx => ?_) PassesOwn.looking).run [] s σ H D (I.toTry _) h) (fun f s1 hsp => ?_) (fun e s1 he => he)
  · obtain ⟨a, B, sI, pins', σ', H', cls, d, rfl, J', nb, up, sky, na, os, ag, hb1, hyes⟩ := xx
    have J : L2.Inv X pins σ' H' sI := J'.ofTry ok
    have sky' : Sky B (X.env :: X.outer) a (Zc cls d) X.env.locals s'.heap := by rw [← hs]; exact sky
    show wpAny (model X.prog X.w) X.A (noteFrame (.ref a) X.env) _ _ _
    refine Sky.land Zc.steady hfr hf sky' fun h3 fl3 up3 => ?_
    have J3 : L2.Inv X pins σ' H' { s' with heap := h3 } := J.landed nb fl3.1 (up.trans up3) os ag
    obtain ⟨oe3, vs3, he3, hz3, hd3⟩ := fl3.there
    have nfr : a ∉ frs (X.env :: X.outer) := fun hm => by
      obtain ⟨_, o', e', hnf⟩ := fl3.2.2.1.mem hm
      rw [he3] at e'; cases e'
      exact hnf _ hd3
    have nL : a ≠ X.env.locals := fun z => nfr (List.mem_filterMap.mpr ⟨X.env, List.mem_cons_self, by rw [hf, z]⟩)
    have nF : a ∉ X.fs := fun hm => by
      obtain ⟨e, he, q⟩ := List.mem_filterMap.mp hm
      exact nfr (List.mem_filterMap.mpr ⟨e, List.mem_cons_of_mem _ he, q⟩)
    have S3 := J3.suite he3 hd3 na nL nF
    refine wpAny_handleBy_cons (codeAny_handlers_test ?_) (by intro q; cases q)
    have LT : PySem.W.Looks (model X.prog X.w) h3 (typeOf (.ref a)) cls := fun A Q E s k q => wpAny_typeOf_ref (k _ _ he3) (by rw [hz3.1]; exact q)
    have LM := PySem.W.exm_one (M := model X.prog X.w) (J3.kIn) LT hb1
    have test : ∀ {Q : Value → Shared → Prop} {E : Value → Shared → Prop}, Q c { s' with heap := h3 } → wpAny (model X.prog X.w) (X.A.mark (some (.ref a))) (eval (.Name x np) X.env) Q E { s' with heap := h3 } := fun {Q E} q => by
      obtain ⟨hg, hdbg, hm | ⟨hm, hv, hnn⟩⟩ := hc
      · exact ld_glob (X := X.suite a ((a, oe3) :: (X.pn ++ pins))) S3 hg hm q hdbg
      · exact ld_blt (X := X.suite a ((a, oe3) :: (X.pn ++ pins))) S3 hg hm hv q hnn hdbg
    refine test (LM.here ?_)
    refine codeAny_handlers_suite_as ?_
    refine HandSPX.lands_againZ fl3 fun h4 fl4 up4 => ?_
    have J4 : L2.Inv X pins σ' H' { s' with heap := h4 } := J.landed nb fl4.1 ((up.trans up3).trans up4) os ag
    obtain ⟨oe4, vs4, he4, hz4, hd4⟩ := fl4.there
    have S4 := J4.suite he4 hd4 na nL nF
    refine store_ok (X := X.suite a ((a, oe4) :: (X.pn ++ pins))) (v := .ref a) S4 hN hi hloc rfl (fun s5 S5 => ?_) (.inr hln)
    refine wpAny_mono ((hsu a oe4 cls d (X.pn ++ pins) hz4 ⟨_, hd4⟩).run [] s5 _ H' _ S5 (hyes a na)) (fun f s6 hsp => ?_) (fun _ _ z => False.elim z)
    have end_ : ∀ {σ6 : L2.St} {H6 : Hp} {Q : Shared → Prop}, L2.Inv (X.suite a ((a, oe4) :: (X.pn ++ pins))) [] σ6 H6 s6 → (∀ s7, L2.Inv X pins (σ6.set i none) H6 s7 → Q s7) → wpAny (model X.prog X.w) X.A (do bindName X.env n .none; unbindBehindTheSuite X.env n pos') (fun _ s7 => Q s7) X.xe s6 := fun {σ6 H6 Q} S6 hq => gone_ok (S6.unsuite ok) hN hi hln hq
    cases f with
    | next => exact let ⟨σ6, H6, S6, q6⟩ := hsp; end_ S6 fun s7 J7 => ⟨_, _, J7, q6⟩
    | brk => exact let ⟨σ6, H6, S6, q6⟩ := hsp; end_ S6 fun s7 J7 => ⟨_, _, J7, q6⟩
    | cont => exact let ⟨σ6, H6, S6, q6⟩ := hsp; end_ S6 fun s7 J7 => ⟨_, _, J7, q6⟩
    | ret u => exact let ⟨v6, σ6, H6, S6, r6, q6⟩ := hsp; end_ S6 fun s7 J7 => ⟨_, _, _, J7, r6, q6⟩
  · cases f with
    | next => exact let ⟨σ', H', J', q⟩ := hsp; wpAny_execs_nil ⟨σ', H', J'.ofTry ok, q⟩
    | brk => exact let ⟨σ', H', J', q⟩ := hsp; ⟨σ', H', J'.ofTry ok, q⟩
    | cont => exact let ⟨σ', H', J', q⟩ := hsp; ⟨σ', H', J'.ofTry ok, q⟩
    | ret u => exact let ⟨v, σ', H', J', r, q⟩ := hsp; ⟨v, σ', H', J'.ofTry ok, r, q⟩
/-! ### e.n of a caught error whose class is known only then -/
def tXfD (K : PySem.W.Frag) (a : Addr) (cls : Value) (d : Option Addr) (n : Str) (i : Nat) : TE := fun σ H Q => σ[i]? = some (some (.ref a)) ∧ ∃ (C dd : Addr) (fs : List (Str × V)) (v : V), cls = .ref C ∧ XfC K C ∧ PySem.W.findIn K (.ref C) n = some none ∧ d = some dd ∧ H dd = some (.xd fs) ∧ fs.lookup n = some v ∧ Q v H
theorem pe_xfD {X : Cx} {a : Addr} {oe : Obj} {cls : Value} {d : Option Addr} {pn : List (Addr × Obj)} {e : Expr} {i : Nat} {pos : Pos} {n : Str} (hz : Zc cls d oe) (hf : ∃ vs, oe.data = .fields vs) (he : PE (X.suite a ((a, oe) :: pn)) e (tVar i)) (hb : attributeBase e n X.env (eval e X.env) = eval e X.env := by rfl) :
    PE (X.suite a ((a, oe) :: pn)) (.Attribute e n pos) (tXfD X.K a cls d n i) := by
  refine ⟨fun pins s σ H Q I h => ?_⟩
  obtain ⟨h1, C, dd, fs, v, rfl, T, hno, rfl, h2, h3, q⟩ := h
  exact (pe_xf T hno hz hf he hb).run pins s σ H Q I ⟨.ref a, h1, rfl, rfl, dd, fs, v, rfl, h2, h3, q⟩
/-! ### the word of a refusal, or none -/
/-- an error that a call may let out, with its word -/
def ErrAt (K : PySem.W.Frag) (CB : Addr) (cls : Value) (d : Option Addr) (H : Hp) (v : V) : Prop := ∃ (C dd : Addr) (fs : List (Str × V)), cls = .ref C ∧ d = some dd ∧ PySem.W.exmOne K (.ref C) (.ref CB) = some true ∧ XfC K C ∧ PySem.W.findIn K (.ref C) "word" = some none ∧ H dd = some (.xd fs) ∧ fs.lookup ("word" : Str) = some v
def TWord (K : PySem.W.Frag) (CB : Addr) : (XK → Hp → VK → Prop) → Hp → VK → Prop := fun tl H Q => tl (fun cls d H' => ∃ v, ErrAt K CB cls d H' v ∧ Q v H') H (fun _ H' => Q (.str "") H')
theorem takes_len {X : Cx} {W : WX} (tk : Takes X W) : Takes X (fun cls d σ H => σ.length = X.N.length → W cls d σ H) := fun u s' xx => by
  obtain ⟨a, B, sI, pins', σ', H', cls, d, rfl, J', nb, up, sky, na, os, ag, hw⟩ := xx
  exact tk _ _ ⟨a, B, sI, pins', σ', H', cls, d, rfl, J', nb, up, sky, na, os, ag, hw J'.len⟩
theorem word_gives {X : Cx} {Ng : List Str} {x a q : Str} {sg : Scope} {g CB : Addr} {cdg : Value} {j : Nat} {h2 : ExceptHandler} {p1 p2 p3 p4 p5 p6 p7 p8 p9 p10 p11 : Pos} (hge : sg.names.lookup ("BudError" : Str) = some .globalImplicit) (hme : X.mg "BudError" = some (.ref CB)) (hNd : Ng.Nodup) (hN1 : Ng[1]? = some ("e" : Str)) (hk : sg.names.lookup ("e" : Str) = some .local)
    (h0 : ∀ f : Addr, (L2.start Ng [V.ref f])[0]? = some (some (V.ref f))) :
    GivesTo X Ng x sg g cdg [.Try [.Expr (.Call (.Name a p1) [] [] p2) p3] [.ExceptHandler (some (.Name "BudError" p4)) (some "e") [.Return (some (.Attribute (.Name "e" p5) "word" p6)) p7] p8, h2] [] [] p9, .Return (some (.Constant (.str "") j p10)) p11] a q (TWord X.K CB) := by
  intro f c' s H Q tl act hc h
  have hgl : Gl (cxOf C8.CX0 X.prog X.w X.K X.mg X.base Ng x sg g cdg X.A X.stack s H C8.E0).nox "BudError" := hge
  refine ⟨_, pss_cons (ps_try_as1 (X := (cxOf C8.CX0 X.prog X.w X.K X.mg X.base Ng x sg g cdg X.A X.stack s H C8.E0).nox) (c := .ref CB) (i := 1)
      (tb := fun W D σ H => ∃ Ech : XK, (∀ cls d σ' H', Ech cls d H' → σ'.length = Ng.length → W cls d σ' H') ∧ σ[0]? = some (some (.ref f)) ∧ H c' = some (CodeO c' q) ∧ tl Ech H fun _ H' => D.nx σ H')
      (ts := fun a cls d => tRet (tXfD X.K a cls d "word" 1)) rfl rfl hNd hN1 hk ⟨hgl, by decide, .inl hme⟩ (fun W pn xe tk _ => ?_) (fun b oe cls d pn hz hf => pss_one (ps_ret (pe_xfD hz hf (pe_var hN1 (.inl hk)))))) (pss_one (ps_ret pe_str)), ?_⟩
  · refine ⟨fun pins s' σ H' D I h' => ?_⟩
    obtain ⟨Ech, hW, h1, h2, h3⟩ := h'
    have hp := act _ pn xe Ech p1 p2 (takes_len tk) hW
    have hq := pss_one (ps_expr (pos := p3) hp)
    exact hq.run pins s' σ H' D I ⟨h1, h2, h3⟩
  · refine ⟨fun cls d H' => ∃ v, ErrAt X.K CB cls d H' v ∧ Q v H', fun cls d σ' H' hE hl => ?_, h0 f, hc, h⟩
    obtain ⟨v, ⟨C, dd, fs, rfl, rfl, e1, e2, e3, e4, e5⟩, hQ⟩ := hE
    refine ⟨e1, fun b _ => ⟨?_, C, dd, fs, v, rfl, e2, e3, rfl, e4, e5, hQ⟩⟩
    have : 1 < σ'.length := by
      rw [hl]
      exact (List.getElem?_eq_some_iff.mp hN1).1
    rw [List.getElem?_set_self this]
end Bw
set_option Elab.async false
set_option linter.all false
set_option maxRecDepth 100000
set_option maxHeartbeats 1000000
namespace Bw
open PySem PySem.Spec PyProof.Rows L2
/-! ### sums of products, as what they make of any weighing of powers -/
abbrev Tm := List Int × Int
def Lf (ts : List Tm) (φ : List Int → Int) : Int := (ts.map fun a => a.2 * φ a.1).sum
theorem Lf_nil (φ : List Int → Int) : Lf [] φ = 0 := rfl
theorem Lf_cons (a : Tm) (ts : List Tm) (φ : List Int → Int) : Lf (a :: ts) φ = a.2 * φ a.1 + Lf ts φ := by
  unfold Lf
  rw [List.map_cons, List.sum_cons]
theorem Lf_append (a b : List Tm) (φ : List Int → Int) : Lf (a ++ b) φ = Lf a φ + Lf b φ := by
  unfold Lf
  rw [List.map_append, List.sum_append]
theorem Lf_perm {a b : List Tm} (h : a.Perm b) (φ : List Int → Int) : Lf a φ = Lf b φ := by
  induction h with
  | nil => rfl
  | cons x _ ih => rw [Lf_cons, Lf_cons, ih]
  | swap x y l =>
    rw [Lf_cons, Lf_cons, Lf_cons, Lf_cons]
    omega
  | trans _ _ h1 h2 => exact h1.trans h2
theorem Lf_filter (ts : List Tm) (φ : List Int → Int) : Lf (ts.filter fun a => decide (a.2 ≠ 0)) φ = Lf ts φ := by
  induction ts with
  | nil => rfl
  | cons a ts ih =>
    rw [List.filter_cons]
    by_cases h : a.2 = 0
    · rw [if_neg (by simp [h]), ih, Lf_cons, h]
      omega
    · rw [if_pos (by simp [h]), Lf_cons, Lf_cons, ih]
theorem Lf_map (ts : List Tm) (g : List Int → List Int) (φ : List Int → Int) : Lf (ts.map fun a => (g a.1, a.2)) φ = Lf ts fun p => φ (g p) := by
  induction ts with
  | nil => rfl
  | cons a ts ih => rw [List.map_cons, Lf_cons, Lf_cons, ih]
theorem Lf_neg (ts : List Tm) (φ : List Int → Int) : Lf (ts.map fun a => (a.1, -a.2)) φ = -(Lf ts φ) := by
  induction ts with
  | nil => rfl
  | cons a ts ih =>
    rw [List.map_cons, Lf_cons, Lf_cons, ih]
    show -a.2 * φ a.1 + -(Lf ts φ) = -(a.2 * φ a.1 + Lf ts φ)
    rw [Int.neg_mul]
    omega
/-- products falling by their powers, none of count 0 -/
def Falls (r : List Tm) : Prop := r.Pairwise (fun a b => HT.lexLt b.1 a.1 = true)
structure Cn (ℓ : (List Int → Int) → Int) (r : List Tm) : Prop where
  fall : Falls r
  nz : ∀ a ∈ r, a.2 ≠ 0
  lf : ∀ φ, Lf r φ = ℓ φ
theorem lex_irr (p : List Int) : HT.lexLt p p = false := by
  cases h : HT.lexLt p p with
  | false => rfl
  | true =>
    have := NtL.lex_asym _ _ h
    rw [h] at this
    cases this
theorem lex_ne {p q : List Int} (h : HT.lexLt p q = true) : p ≠ q := fun e => by
  rw [e, lex_irr] at h
  cases h
theorem lex_tot : ∀ {p q : List Int}, HT.lexLt p q = false → HT.lexLt q p = false → p = q
  | [], [], _, _ => rfl
  | [], _ :: _, h, _ => by cases h
  | _ :: _, [], _, h => by cases h
  | x :: p, y :: q, h1, h2 => by
    rw [HT.lexLt_cons] at h1 h2
    by_cases e : x = y
    · subst e
      rw [if_pos rfl] at h1 h2
      rw [lex_tot h1 h2]
    · rw [if_neg e] at h1
      rw [if_neg (fun z => e z.symm)] at h2
      have a1 := of_decide_eq_false h1
      have a2 := of_decide_eq_false h2
      omega
/-- the count of p in r -/
def ind (p : List Int) : List Int → Int := fun q => if q = p then 1 else 0
theorem Lf_ind_none {r : List Tm} {p : List Int} (h : ∀ a ∈ r, a.1 ≠ p) : Lf r (ind p) = 0 := by
  induction r with
  | nil => rfl
  | cons a r ih =>
    rw [Lf_cons, ih fun b hb => h b (List.mem_cons_of_mem _ hb)]
    unfold ind
    rw [if_neg (h a (List.mem_cons_self ..))]
    omega
theorem Lf_ind_mem {r : List Tm} (hf : Falls r) {p : List Int} {c : Int} (h : (p, c) ∈ r) : Lf r (ind p) = c := by
  induction r with
  | nil => cases h
  | cons a r ih =>
    have hf' := List.pairwise_cons.mp hf
    rw [Lf_cons]
    rcases List.mem_cons.mp h with e | h
    · subst e
      rw [Lf_ind_none fun b hb => lex_ne (hf'.1 b hb)]
      show c * ind p p + 0 = c
      unfold ind
      rw [if_pos rfl]
      omega
    · have ne : a.1 ≠ p := Ne.symm (lex_ne (hf'.1 (p, c) h))
      rw [ih hf'.2 h]
      unfold ind
      rw [if_neg ne]
      omega
theorem Cn.mem {ℓ : (List Int → Int) → Int} {r : List Tm} (h : Cn ℓ r) (p : List Int) (c : Int) : (p, c) ∈ r ↔ c ≠ 0 ∧ ℓ (ind p) = c := by
  constructor
  · intro m
    refine ⟨h.nz _ m, ?_⟩
    rw [← h.lf, Lf_ind_mem h.fall m]
  · rintro ⟨hc, e⟩
    rw [← h.lf] at e
    by_cases m : ∃ a ∈ r, a.1 = p
    · obtain ⟨a, ha, rfl⟩ := m
      rw [Lf_ind_mem h.fall (p := a.1) (c := a.2) ha] at e
      rw [← e]
      exact ha
    · rw [Lf_ind_none fun a ha e' => m ⟨a, ha, e'⟩] at e
      exact absurd e.symm hc
theorem falls_uniq : ∀ {r r' : List Tm}, Falls r → Falls r' → (∀ a, a ∈ r ↔ a ∈ r') → r = r'
  | [], [], _, _, _ => rfl
  | [], b :: r', _, _, h => absurd ((h b).mpr (List.mem_cons_self ..)) (by simp)
  | a :: r, [], _, _, h => absurd ((h a).mp (List.mem_cons_self ..)) (by simp)
  | a :: r, b :: r', h1, h2, h => by
    have f1 := List.pairwise_cons.mp h1
    have f2 := List.pairwise_cons.mp h2
    have e : a = b := by
      rcases List.mem_cons.mp ((h a).mp (List.mem_cons_self ..)) with e | m
      · exact e
      · rcases List.mem_cons.mp ((h b).mpr (List.mem_cons_self ..)) with e | m'
        · exact e.symm
        · have x := f2.1 a m
          have y := f1.1 b m'
          have z := NtL.lex_asym _ _ x
          rw [y] at z
          cases z
    subst e
    have hr : r = r' := falls_uniq f1.2 f2.2 fun c => by
      constructor
      · intro m
        rcases List.mem_cons.mp ((h c).mp (List.mem_cons_of_mem _ m)) with e | m'
        · subst e
          exact absurd rfl (lex_ne (f1.1 c m))
        · exact m'
      · intro m
        rcases List.mem_cons.mp ((h c).mpr (List.mem_cons_of_mem _ m)) with e | m'
        · subst e
          exact absurd rfl (lex_ne (f2.1 c m))
        · exact m'
    rw [hr]
theorem Cn.uniq {ℓ : (List Int → Int) → Int} {r r' : List Tm} (h : Cn ℓ r) (h' : Cn ℓ r') : r = r' := by
  refine falls_uniq h.fall h'.fall fun a => ?_
  obtain ⟨p, c⟩ := a
  rw [h.mem, h'.mem]
/-! ### books: a count for each powers, in the order in which they came -/
def getB (bk : List Tm) (p : List Int) : Option Int := (bk.find? fun a => decide (a.1 = p)).map (·.2)
def putB (bk : List Tm) (p : List Int) (c : Int) : List Tm := if (bk.any fun a => decide (a.1 = p)) = true then bk.map (fun a => if a.1 = p then (a.1, c) else a) else bk ++ [(p, c)]
def NdB (bk : List Tm) : Prop := (bk.map (·.1)).Nodup
theorem putB_keys {bk : List Tm} {p : List Int} {c : Int} (h : NdB bk) : NdB (putB bk p c) := by
  unfold putB NdB
  by_cases q : (bk.any fun a => decide (a.1 = p)) = true
  · rw [if_pos q, List.map_map]
    have e : ((fun a : Tm => a.1) ∘ fun a : Tm => if a.1 = p then (a.1, c) else a) = fun a => a.1 := by
      funext a
      show (if a.1 = p then (a.1, c) else a).1 = a.1
      split <;> rfl
    rw [e]
    exact h
  · rw [if_neg q, List.map_append]
    refine List.nodup_append.mpr ⟨h, by simp, ?_⟩
    intro x hx y hy e
    obtain ⟨a, ha, rfl⟩ := List.mem_map.mp hx
    have : y = p := by simpa using hy
    subst this
    exact q (List.any_eq_true.mpr ⟨a, ha, decide_eq_true e⟩)
theorem putB_len (bk : List Tm) (p : List Int) (c : Int) : (putB bk p c).length ≤ bk.length + 1 := by
  unfold putB
  split
  · rw [List.length_map]
    omega
  · rw [List.length_append]
    exact Nat.le_refl _
theorem Lf_repl {p : List Int} {c d : Int} : ∀ {bk : List Tm}, NdB bk → (p, d) ∈ bk → ∀ φ, Lf (bk.map fun a => if a.1 = p then (a.1, c) else a) φ = Lf bk φ + (c - d) * φ p
  | [], _, h, _ => by cases h
  | a :: bk, nd, h, φ => by
    have nd' := List.nodup_cons.mp nd
    rw [List.map_cons, Lf_cons, Lf_cons]
    by_cases e : a.1 = p
    · have rest : (bk.map fun a => if a.1 = p then (a.1, c) else a) = bk := by
        have z : bk.map (fun a => if a.1 = p then (a.1, c) else a) = bk.map id := List.map_congr_left fun b hb => by
          rw [if_neg]
          · rfl
          · intro e'
            exact nd'.1 (List.mem_map.mpr ⟨b, hb, e'.trans e.symm⟩)
        rw [z, List.map_id]
      have ad : a = (p, d) := by
        rcases List.mem_cons.mp h with h | h
        · exact h.symm
        · exact absurd (List.mem_map.mpr ⟨(p, d), h, e.symm⟩) nd'.1
      rw [rest, if_pos e, ad]
      show c * φ p + Lf bk φ = d * φ p + Lf bk φ + (c - d) * φ p
      rw [Int.sub_mul]
      omega
    · rw [if_neg e]
      have h' : (p, d) ∈ bk := by
        rcases List.mem_cons.mp h with h | h
        · rw [← h] at e
          exact absurd rfl e
        · exact h
      rw [Lf_repl nd'.2 h' φ]
      omega
theorem getB_some {bk : List Tm} {p : List Int} {d : Int} (h : getB bk p = some d) : (p, d) ∈ bk := by
  unfold getB at h
  obtain ⟨a, ha, rfl⟩ := Option.map_eq_some_iff.mp h
  have e := List.find?_some ha
  have m := List.mem_of_find?_eq_some ha
  have : a.1 = p := of_decide_eq_true e
  rw [← this]
  exact m
theorem getB_none {bk : List Tm} {p : List Int} (h : getB bk p = none) : (bk.any fun a => decide (a.1 = p)) = false := by
  unfold getB at h
  have z := Option.map_eq_none_iff.mp h
  cases q : (bk.any fun a => decide (a.1 = p)) with
  | false => rfl
  | true =>
    obtain ⟨a, ha, e⟩ := List.any_eq_true.mp q
    exact absurd e (List.find?_eq_none.mp z a ha)
def addB (bk : List Tm) (p : List Int) (c : Int) : List Tm := putB bk p ((getB bk p).getD 0 + c)
theorem Lf_addB {bk : List Tm} (nd : NdB bk) (p : List Int) (c : Int) (φ : List Int → Int) : Lf (addB bk p c) φ = Lf bk φ + c * φ p := by
  unfold addB
  cases h : getB bk p with
  | none =>
    unfold putB
    rw [getB_none h, if_neg (by simp), Lf_append, Lf_cons, Lf_nil]
    show Lf bk φ + ((0 + c) * φ p + 0) = _
    rw [Int.zero_add]
    omega
  | some d =>
    unfold putB
    have m := getB_some h
    rw [if_pos (List.any_eq_true.mpr ⟨_, m, decide_eq_true rfl⟩), Lf_repl nd m]
    show Lf bk φ + (d + c - d) * φ p = _
    have e : d + c - d = c := by omega
    rw [e]
/-- a book as a dict -/
def enc (a : Tm) : List Key × V := (a.1.map Sum.inl, V.int a.2)
theorem inl_inj {p q : List Int} (h : p.map (Sum.inl : Int → Key) = q.map Sum.inl) : p = q := by
  have e := congrArg (List.map fun k : Key => match k with | .inl i => i | .inr _ => 0) h
  rw [List.map_map, List.map_map] at e
  have z : ((fun k : Key => match k with | .inl i => i | .inr _ => 0) ∘ (Sum.inl : Int → Key)) = id := rfl
  rw [z, List.map_id, List.map_id] at e
  exact e
theorem enc_iff {a : Tm} {p : List Int} : (enc a).1 = p.map Sum.inl ↔ a.1 = p := ⟨fun z => inl_inj z, fun z => by rw [← z]; rfl⟩
theorem enc_any (bk : List Tm) (p : List Int) : ((bk.map enc).any fun kv => decide (kv.1 = p.map Sum.inl)) = bk.any fun a => decide (a.1 = p) := by
  rw [List.any_map]
  congr 1
  funext a
  exact decide_eq_decide.mpr enc_iff
theorem enc_put (bk : List Tm) (p : List Int) (c : Int) : putK (bk.map enc) (p.map Sum.inl) (V.int c) = (putB bk p c).map enc := by
  unfold putK putB
  rw [enc_any]
  split
  · rw [List.map_map, List.map_map]
    refine List.map_congr_left fun a _ => ?_
    show (if (enc a).1 = p.map Sum.inl then ((enc a).1, V.int c) else enc a) = enc (if a.1 = p then (a.1, c) else a)
    by_cases e : a.1 = p
    · rw [if_pos (enc_iff.mpr e), if_pos e]
      rfl
    · rw [if_neg fun z => e (enc_iff.mp z), if_neg e]
  · rw [List.map_append]
    rfl
theorem enc_val : ∀ (bk : List Tm) (p : List Int), valV (bk.map enc) (p.map Sum.inl) = (getB bk p).map V.int
  | [], _ => rfl
  | a :: bk, p => by
    rw [List.map_cons]
    by_cases e : a.1 = p
    · have h1 : getB (a :: bk) p = some a.2 := by
        unfold getB
        rw [List.find?_cons_of_pos (by simpa using e)]
        rfl
      rw [h1, valV_pos (enc_iff.mpr e)]
      rfl
    · have h1 : getB (a :: bk) p = getB bk p := by
        unfold getB
        rw [List.find?_cons_of_neg (by simpa using e)]
      rw [h1, ← enc_val bk p, valV_neg fun z => e (enc_iff.mp z)]
theorem enc_keys (bk : List Tm) : KeysI (bk.map enc) (bk.map (·.1)) := by
  unfold KeysI
  rw [List.map_map, List.map_map]
  rfl
end Bw
set_option Elab.async false
set_option linter.all false
set_option maxRecDepth 100000
set_option maxHeartbeats 4000000
namespace Bw
open PySem PySem.Spec PyProof.Rows L2
/-! ### rows of numbers and products as data -/
theorem ints_lay : ∀ p : List Int, PyData.canLayAll0 (p.map PyData.int) = true
  | [] => by simp [PyData.canLayAll0]
  | a :: p => by
    have ih := ints_lay p
    simp only [List.map_cons, PyData.canLayAll0, PyData.canLay0, ih, Bool.and_self]
theorem ints_depth : ∀ p : List Int, PyData.depthAll (p.map PyData.int) ≤ 1
  | [] => by simp [PyData.depthAll]
  | a :: p => by
    have ih := ints_depth p
    simp only [List.map_cons, PyData.depthAll, PyData.depth]
    omega
theorem ints_eqv : ∀ p q : List Int, PyData.eqvAll (p.map PyData.int) (q.map PyData.int) = decide (p = q)
  | [], [] => by simp [PyData.eqvAll]
  | [], b :: q => by simp [PyData.eqvAll]
  | a :: p, [] => by simp [PyData.eqvAll]
  | a :: p, b :: q => by
    have ih := ints_eqv p q
    simp only [List.map_cons, PyData.eqvAll, PyData.eqv, ih]
    by_cases e : a = b
    · subst e
      by_cases z : p = q
      · subst z
        simp
      · simp [z]
    · simp [e]
def rowD (p : List Int) : PyData := .tuple (p.map .int)
theorem rowD_lay (p : List Int) : (rowD p).canLay0 = true := by
  simp only [rowD, PyData.canLay0]
  exact ints_lay p
theorem rowD_depth (p : List Int) : (rowD p).depth ≤ 2 := by
  have := ints_depth p
  simp only [rowD, PyData.depth]
  omega
theorem rowD_eqv (p q : List Int) : PyData.eqv (rowD p) (rowD q) = decide (p = q) := by
  simp only [rowD, PyData.eqv]
  exact ints_eqv p q
theorem all_lay {α : Type} {d : α → PyData} (h : ∀ a, (d a).canLay0 = true) : ∀ r : List α, PyData.canLayAll0 (r.map d) = true
  | [] => by simp [PyData.canLayAll0]
  | a :: r => by
    have ih := all_lay h r
    simp only [List.map_cons, PyData.canLayAll0, h a, ih, Bool.and_self]
theorem all_depth {α : Type} {d : α → PyData} {n : Nat} (h : ∀ a, (d a).depth ≤ n) : ∀ r : List α, PyData.depthAll (r.map d) ≤ n
  | [] => by simp [PyData.depthAll]
  | a :: r => by
    have ih := all_depth h r
    have := h a
    simp only [List.map_cons, PyData.depthAll]
    omega
theorem all_eqv {α : Type} [DecidableEq α] {d : α → PyData} (h : ∀ a b, PyData.eqv (d a) (d b) = decide (a = b)) : ∀ r r' : List α, PyData.eqvAll (r.map d) (r'.map d) = decide (r = r')
  | [], [] => by simp [PyData.eqvAll]
  | [], b :: q => by simp [PyData.eqvAll]
  | a :: p, [] => by simp [PyData.eqvAll]
  | a :: p, b :: q => by
    have ih := all_eqv h p q
    simp only [List.map_cons, PyData.eqvAll, h a b, ih]
    by_cases e : a = b
    · subst e
      by_cases z : p = q
      · subst z
        simp
      · simp [z]
    · simp [e]
def tmD (a : Tm) : PyData := .tuple [rowD a.1, .int a.2]
theorem tmD_lay (a : Tm) : (tmD a).canLay0 = true := by
  have := rowD_lay a.1
  simp only [tmD, PyData.canLay0, PyData.canLayAll0, this, Bool.and_self]
theorem tmD_depth (a : Tm) : (tmD a).depth ≤ 3 := by
  have := rowD_depth a.1
  simp only [tmD, PyData.depth, PyData.depthAll]
  omega
theorem tmD_eqv (a b : Tm) : PyData.eqv (tmD a) (tmD b) = decide (a = b) := by
  obtain ⟨p, c⟩ := a
  obtain ⟨q, d⟩ := b
  have := rowD_eqv p q
  simp only [tmD, PyData.eqv, PyData.eqvAll, this]
  by_cases e : p = q
  · subst e
    by_cases z : c = d
    · subst z
      simp
    · simp [z]
  · simp [e]
theorem shaped_tup {ds : List PyData} (h1 : PyData.canLayAll0 ds = true) (h2 : PyData.depthAll ds ≤ 50) : SeqAt.shaped (.tuple ds) = true := by
  have h3 : PyData.depth (.tuple ds) ≤ 64 := by
    simp only [PyData.depth]
    omega
  show (PyData.canLay0 (.tuple ds) && decide (PyData.depth (.tuple ds) ≤ 64)) = true
  rw [Bool.and_eq_true]
  exact ⟨by simp only [PyData.canLay0]; exact h1, decide_eq_true h3⟩
theorem shaped_lst {ds : List PyData} (h1 : PyData.canLayAll0 ds = true) (h2 : PyData.depthAll ds ≤ 50) : SeqAt.shaped (.list ds) = true := by
  have h3 : PyData.depth (.list ds) ≤ 64 := by
    simp only [PyData.depth]
    omega
  show (PyData.canLay0 (.list ds) && decide (PyData.depth (.list ds) ≤ 64)) = true
  rw [Bool.and_eq_true]
  exact ⟨by simp only [PyData.canLay0]; exact h1, decide_eq_true h3⟩
theorem dp_ints {K : PySem.W.Frag} {H : Hp} : ∀ p : List Int, DpAll K H (p.map V.int) (p.map PyData.int)
  | [] => .nil
  | a :: p => .cons (.int a) (dp_ints p)
theorem o_eqD {X : Cx} {K : PySem.W.Frag} (hu : X.A.units + 64 < cLine) (hK : X.K = K := by rfl) : OpR X (compareOp .Eq) (rEqD K) := by
  subst hK
  exact op_eqD hu
theorem o_neD {X : Cx} {K : PySem.W.Frag} (hu : X.A.units + 64 < cLine) (hK : X.K = K := by rfl) : OpR X (compareOp .NotEq) (rNeD K) := by
  subst hK
  exact op_neD hu
end Bw
set_option Elab.async false
set_option linter.all false
set_option maxRecDepth 100000
set_option maxHeartbeats 2000000
/-! ### the end where several defs hold lambdas -/
namespace LamX
open PySem PySem.Spec PyProof.Rows L2
theorem walk_ofOwns {l : PySem.W.OpenLaw} {n k : Nat} {q : Program} {loose : List Str} {XP : (Str → Option Value) → Heap → Prop} {YP : World → Heap → Prop} {d : DefRec} {K : Params → PySem.W.Frag} {CX : World → CXT} {x : Str}
    (hn : l.most = some n) (hn2 : n ≤ sizeLine) (hdf : d.params.defaults = []) (hr : Room k callerA) (hY : ∀ (w : World) (h : Heap), YP w h → (K w.params).In h)
    (F : ∀ (w : World) (mg : Str → Option Value) (fa : Addr) (h : Heap), YP w h → (K w.params).In h → h.Ns mainGlobals mg → mg d.name = some (.ref fa) → (∀ (y : Str) (f : Addr), ((recsOf q).any fun e => e.name == y) = true → mg y = some (.ref f) → OwnTab (K w.params) f h) → LawAtS l w (K w.params) (CX w) k n x mg fa h)
    (hCX : ∀ (w : World) (H : Hp) (s : Shared) (e : Value) (s' : Shared), CX w [] H s (fun _ _ _ => False) e s' → False) :
    PySem.W.WalkO q loose XP YP l.row.toRowW d [] (fun f vs => PySem.call f vs) := by
  refine Att.attach_callB hn hdf fun w s₀ s₁ mg mb fa o pm cd doc a vs ns G Y ho hd hcd hmg hobj hints hlen hbits hg => ?_
  have KX := hY w _ Y
  have own : ∀ (y : Str) (f : Addr), ((recsOf q).any fun e => e.name == y) = true → mg y = some (.ref f) → OwnTab (K w.params) f s₁.heap := fun y f hrec hmy c P o1 fd1 e dd vs1 sl k1 k2 k3 k4 k5 => by
    obtain ⟨dL, hm, hn1⟩ := List.any_eq_true.mp hrec
    have hn2 : dL.name = y := beq_iff_eq.mp hn1
    obtain ⟨a', o', fd', c', P', h1, h2, h3, h4, h5, h6⟩ := G.T.tab dL hm
    rw [hn2, hmy] at h1
    cases h1
    have g1 := KX _ _ k1
    rw [g1] at h2
    cases h2
    rw [k2] at h3
    cases h3
    rw [k3] at h4
    cases h4
    obtain ⟨⟨oc, vc, e1, _, e3, e4⟩, hP⟩ := h6
    have g2 := KX _ _ k4
    rw [g2] at e1
    cases e1
    cases e3
    rw [k5] at e4
    cases e4
    exact hP
  obtain ⟨fd, cs, sp, hT, nT, C, hb, hsp, hF⟩ := F w mg fa _ Y KX G.T.g hmg own
  exact law_callTs KX G.T.g G.T.b G.T.builtins G.T.nolimit hg hT nT C G.T.bmain hobj hints (Nat.le_trans hlen hn2) hr hF hb (fun H hH hS => hsp H a ns hlen hbits hH hS) fun H e s' => hCX w H s₁ e s'
end LamX
set_option Elab.async false
set_option linter.all false
set_option maxRecDepth 100000
namespace Bw
open PySem PySem.Spec PyProof.Rows L2
def topS (i : Nat) : Stmt := PySem.Challenge.pw_budwright_k47_cuts_of_polygons.main.body.getD i (.Pass ⟨0, 0, 0, 0⟩)
structure Tx (mg : Str → Option Value) : Prop where
  len : mg "len" = none
  range : mg "range" = none
  zip : mg "zip" = none
  enumerate : mg "enumerate" = none
  all : mg "all" = none
  any : mg "any" = none
  max : mg "max" = none
  min : mg "min" = none
  sorted : mg "sorted" = none
  isinstance : mg "isinstance" = none
  int : mg "int" = none
  bool : mg "bool" = none
  tuple : mg "tuple" = none
  list : mg "list" = none
  dict : mg "dict" = none
  str : mg "str" = none
  ValueError : mg "ValueError" = none
  LEAST_CORNERS : ∃ t, mg "LEAST_CORNERS" = some (.int 4 t)
  MOST_CORNERS : ∃ t, mg "MOST_CORNERS" = some (.int 7 t)
end Bw
set_option Elab.async false
set_option linter.all false
set_option maxRecDepth 100000
set_option maxHeartbeats 2000000
namespace Bw
open PySem PySem.Spec PyProof.Rows L2
section
variable {P : Program} {w : World} {K : PySem.W.Frag} {mg : Str → Option Value} {base : Heap}
abbrev s_law_draw : Stmt := topS 36
abbrev n_law_draw : List Str := ["_law_feed_here", "_law_many", "_law_cell", "_law_digit", "_law_mix"]
theorem sc_law_draw : FnScope n_law_draw ["_law_feed_here", "_law_many"] (defScope s_law_draw) := ⟨rfl, rfl, rfl, by decide +kernel, rfl, by decide +kernel, by decide +kernel⟩
def spDraw : Sp := fun vs H Q _ => ∃ (f l : Addr) (n : Int), vs = [.ref f, .int n] ∧ FeedAt H f l ∧ 0 < n ∧ n.natAbs < 2 ^ 200 ∧ ∀ (v : Int) (H' : Hp), 0 ≤ v → v < n → SameBut f H H' → FeedAt H' f l → Q (.int v) H'
theorem ok_draw {f : Addr} {fd : FuncData} {k : Nat} (F : Fun K "_law_draw" "_law_draw" s_law_draw f fd) (T : Tx mg) : FnOk P w K mg base CX0 (k + 1) f fd ["_law_feed_here", "_law_many"] spDraw := by
  refine F.ok sc_law_draw (fun vs H Q E h => ?_) (fun cdv A outer s H vs Q E hr h => ?_)
  · obtain ⟨f, l, n, rfl, _⟩ := h
    rfl
  · obtain ⟨f, l, r, rfl, ⟨ns, i, n, m, c, nlf, hf, hl, hi, hn, hm, hm2⟩, hr0, hr1, q⟩ := h
    refine ⟨_, (C8.pss_cut (ps_if (PW.pt (pw_and (pt_cmpR op_eq (pe_ix ix_list (pv 0) pe_int (fun _ _ => rfl)) pe_int (nomark _)) (pw_and1 (pt_cmpR op_lt (pe_ix ix_list (pv 0) pe_int (fun _ _ => rfl)) (pe_callB call_len_seq (by rfl) T.len PySem.boot_len (pa_cons (pe_ix ix_list (pv 0) pe_int (fun _ _ => rfl)) pa_nil)) (nomark _)))))
    (pss_cons (ps_set (i := 2) sc_law_draw.nd rfl (.inl rfl) (pe_ix ix_list (pe_ix ix_list (pv 0) pe_int (fun _ _ => rfl)) (pe_ix ix_list (pv 0) pe_int (fun _ _ => rfl)) (fun _ _ => rfl)))
    (pss_cons (ps_asg (pe_op op_add (pe_ix ix_list (pv 0) pe_int (fun _ _ => rfl)) pe_int) (pg_sub (pv 0) pe_int set_list))
    (pss_one (ps_if (pt_cmpR op_ge (pv 2) (pe_op op_pow pe_int pe_int) (nomark _))
      (pss_one (ps_asg (pv 2) (pg_sub (pv 0) pe_int set_list)))
      (pss_one (ps_asg (pe_op op_mod (pe_op op_add (pe_op op_add (pe_op op_mul (pe_ix ix_list (pv 0) pe_int (fun _ _ => rfl)) pe_int) (pe_op op_mul (pe_op op_mod (pv 2) pe_int) pe_int)) pe_int) pe_int) (pg_sub (pv 0) pe_int set_list)))))))
    pss_nil)
  (pss_cons (ps_if (pt_cmpR op_gt (pe_ix ix_list (pv 0) pe_int (fun _ _ => rfl)) pe_int (nomark _))
    (pss_cons (ps_set (i := 3) sc_law_draw.nd rfl (.inl rfl) (pe_op op_mod (pe_ix ix_list (pv 0) pe_int (fun _ _ => rfl)) (pv 1)))
    (pss_cons (ps_asg (pe_op op_fdivW (pe_ix ix_list (pv 0) pe_int (fun _ _ => rfl)) (pv 1)) (pg_sub (pv 0) pe_int set_list))
    (pss_one (ps_ret (pv 3)))))
    pss_nil)
  (pss_cons (ps_asg (pe_op op_add (pe_ix ix_list (pv 0) pe_int (fun _ _ => rfl)) pe_int) (pg_sub (pv 0) pe_int set_list))
  (pss_cons (ps_set (i := 4) sc_law_draw.nd rfl (.inl rfl) (pe_ix ix_list (pv 0) pe_int (fun _ _ => rfl)))
  (pss_cons (ps_set (i := 4) sc_law_draw.nd rfl (.inl rfl) (pe_op op_add (pe_op op_add (pe_op op_add (pe_op op_mul (pe_op op_mod (pe_op op_mul (pv 4) (pv 4)) pe_int) pe_int) (pe_op op_mul (pv 4) pe_int)) (pe_op op_mul pe_int (pe_ix ix_list (pv 0) pe_int (fun _ _ => rfl)))) pe_int))
  (pss_cons (ps_asg (pe_op op_mod (pv 4) pe_int) (pg_sub (pv 0) pe_int set_list))
  (pss_one (ps_ret (pe_op op_mod (pe_op op_add (pe_op op_fdiv (pe_ix ix_list (pv 0) pe_int (fun _ _ => rfl)) pe_int) (pe_op op_mul (pe_op op_mod (pe_ix ix_list (pv 0) pe_int (fun _ _ => rfl)) pe_int) pe_int)) (pv 1)))))))))), ?_⟩
    -- between: a feed of the same list
    refine ⟨fun σ H2 => ∃ (y : Option V) (i : Nat) (n m : Int), σ = [some (.ref f), some (.int r), y, none, none] ∧ SameBut f H H2 ∧ H2 f = some (.lst [.ref l, .int i, .int n, .int m, .int c]) ∧ i ≤ ns.length ∧ 0 ≤ n ∧ 0 ≤ m ∧ m < 2147483647, ?_, ?_⟩
    · refine ⟨.ref f, rfl, f, _, 2, .int n, rfl, rfl, SqL.of hf, rfl, rfl, _, rfl, ite2 (fun e => ?_) (fun e => iteF ?_)⟩
      · refine ⟨.ref f, rfl, f, _, 1, .int i, rfl, rfl, SqL.of hf, rfl, .ref f, rfl, f, _, 0, .ref l, rfl, rfl, SqL.of hf, rfl, l, _, rfl, .inl (SqL.of hl), _, _, rfl, rfl, _, rfl, ite2 (fun e => ?_) (fun e => ?_)⟩
        · have hlt : i < ns.length := by
            have := of_decide_eq_true e
            rw [List.length_map] at this
            omega
          have g1 : (ns.map V.int)[i]? = some (.int ns[i]) := by
            rw [List.getElem?_map, List.getElem?_eq_getElem hlt]
            rfl
          generalize ns[i] = u at g1
          -- cell = feed[0][feed[1]]; feed[1] = feed[1] + 1
          refine ⟨.ref f, rfl, f, _, 0, .ref l, rfl, rfl, SqL.of hf, rfl, .ref f, rfl, f, _, 1, .int i, rfl, rfl, SqL.of hf, rfl, l, _, i, .int u, rfl, rfl, SqL.of hl, atI_nat g1, ?_⟩
          refine ⟨.ref f, rfl, f, _, 1, .int i, rfl, rfl, SqL.of hf, rfl, _, _, rfl, rfl, .ref f, rfl, f, _, 1, 1, rfl, rfl, hf, rfl, ?_⟩
          -- if cell >= 10 ** 18
          refine ⟨.int u, rfl, _, _, rfl, rfl, ⟨by decide, by decide, by decide⟩, _, _, rfl, rfl, _, rfl, ite2 (fun e => ?_) (fun e => ?_)⟩
          · have h0 : 0 ≤ u := Int.le_trans (by decide : (0 : Int) ≤ 10 ^ Int.toNat 18) (of_decide_eq_true e)
            refine ⟨.int u, rfl, .ref f, rfl, f, _, 2, 2, rfl, rfl, upd_same, rfl, ?_⟩
            exact ⟨_, i + 1, u, m, rfl, SameBut.upd (SameBut.upd (.refl _ _)), upd_same, hlt, h0, hm, hm2⟩
          · refine ⟨.ref f, rfl, f, _, 3, .int m, rfl, rfl, SqL.of upd_same, rfl, _, _, rfl, rfl, .inl ⟨by omega, by omega⟩, .int u, rfl, _, _, rfl, rfl, (by show (0 : Int) < 1000000007; decide), _, _, rfl, rfl, .inr ⟨by decide, by decide⟩, _, _, rfl, rfl, _, _, rfl, rfl, _, _, rfl, rfl, (by show (0 : Int) < 2147483647; decide), ?_⟩
            refine ⟨.ref f, rfl, f, _, 3, 3, rfl, rfl, upd_same, rfl, ?_⟩
            exact ⟨_, i + 1, n, _, rfl, SameBut.upd (SameBut.upd (.refl _ _)), upd_same, hlt, hn, Int.emod_nonneg _ (by decide), Int.emod_lt_of_pos _ (by decide)⟩
        · exact ⟨none, i, n, m, rfl, .refl _ _, hf, hi, hn, hm, hm2⟩
      · exact ⟨none, i, n, m, rfl, .refl _ _, hf, hi, hn, hm, hm2⟩
    · rintro σ H2 ⟨y, i, n, m, rfl, sb, hf, hi, hn, hm, hm2⟩
      have hl2 : H2 l = some (.lst (ns.map V.int)) := sb _ _ nlf hl
      -- if feed[2] > 0
      refine ⟨.ref f, rfl, f, _, 2, .int n, rfl, rfl, SqL.of hf, rfl, _, _, rfl, rfl, _, rfl, ite2 (fun e => ?_) (fun e => ?_)⟩
      · refine ⟨.ref f, rfl, f, _, 2, .int n, rfl, rfl, SqL.of hf, rfl, .int r, rfl, _, _, rfl, rfl, hr0, ?_⟩
        refine ⟨.ref f, rfl, f, _, 2, .int n, rfl, rfl, SqL.of hf, rfl, .int r, rfl, _, _, rfl, rfl, wide_div hr0 hr1 (by decide) (by decide), .ref f, rfl, f, _, 2, 2, rfl, rfl, hf, rfl, ?_⟩
        refine ⟨_, rfl, q _ _ (Int.emod_nonneg _ (by omega)) (Int.emod_lt_of_pos _ hr0) sb.upd ⟨ns, i, _, m, c, nlf, upd_same, by rw [upd_ne nlf]; exact hl2, hi, Int.ediv_nonneg hn (by omega), hm, hm2⟩⟩
      · -- feed[4] = feed[4] + 1
        refine ⟨.ref f, rfl, f, _, 4, .int c, rfl, rfl, SqL.of hf, rfl, _, _, rfl, rfl, .ref f, rfl, f, _, 4, 4, rfl, rfl, hf, rfl, ?_⟩
        -- mix
        refine ⟨.ref f, rfl, f, _, 3, .int m, rfl, rfl, SqL.of upd_same, rfl, ?_⟩
        refine ⟨.int m, rfl, .int m, rfl, _, _, rfl, rfl, .inl ⟨by omega, by omega⟩, _, _, rfl, rfl, (by show (0 : Int) < 2147483587; decide), _, _, rfl, rfl, .inr ⟨by decide, by decide⟩, .int m, rfl, _, _, rfl, rfl, .inr ⟨by decide, by decide⟩, _, _, rfl, rfl, .ref f, rfl, f, _, 4, _, rfl, rfl, SqL.of upd_same, rfl, _, _, rfl, rfl, .inl ⟨by decide, by decide⟩, _, _, rfl, rfl, _, _, rfl, rfl, ?_⟩
        refine ⟨_, rfl, _, _, rfl, rfl, (by show (0 : Int) < 2147483647; decide), .ref f, rfl, f, _, 3, 3, rfl, rfl, upd_same, rfl, ?_⟩
        have a1 : ∀ z : Int, 0 ≤ z % 2147483647 := fun z => Int.emod_nonneg _ (by decide)
        have a2 : ∀ z : Int, z % 2147483647 < 2147483647 := fun z => Int.emod_lt_of_pos _ (by decide)
        refine ⟨.ref f, rfl, f, _, 3, _, rfl, rfl, SqL.of upd_same, rfl, _, _, rfl, rfl, ⟨by decide, by decide⟩, .ref f, rfl, f, _, 3, _, rfl, rfl, SqL.of upd_same, rfl, _, _, rfl, rfl, (by show (0 : Int) < 4093; decide), _, _, rfl, rfl, .inr ⟨by decide, by decide⟩, _, _, rfl, rfl, .int r, rfl, _, _, rfl, rfl, hr0, ?_⟩
        refine q _ _ (Int.emod_nonneg _ (by omega)) (Int.emod_lt_of_pos _ hr0) (SameBut.upd sb.upd) ⟨ns, i, n, _, _, nlf, upd_same, by rw [upd_ne nlf, upd_ne nlf]; exact hl2, hi, hn, a1 _, a2 _⟩
end
end Bw
set_option Elab.async false
set_option linter.all false
set_option maxRecDepth 100000
set_option maxHeartbeats 2000000
namespace Bw
open PySem PySem.Spec PyProof.Rows L2
section
variable {P : Program} {w : World} {K : PySem.W.Frag} {mg : Str → Option Value} {base : Heap}
/-! ### the feed made -/
abbrev s_law_feed : Stmt := topS 35
abbrev n_law_feed : List Str := ["_law_script"]
theorem sc_law_feed : FnScope n_law_feed ["_law_script"] (defScope s_law_feed) := ⟨rfl, rfl, rfl, by decide +kernel, rfl, by decide +kernel, by decide +kernel⟩
def spFeed (K : PySem.W.Frag) : Sp := fun vs H Q _ => ∃ (a : Addr) (ns : List Int), vs = [.ref a] ∧ SqL K H a (ns.map V.int) ∧ ∀ (f l : Addr) (H' : Hp), Same H H' → H f = none → FeedAt H' f l → Q (.ref f) H'
theorem ok_feed {f : Addr} {fd : FuncData} {k : Nat} (F : Fun K "_law_feed" "_law_feed" s_law_feed f fd) (T : Tx mg) : FnOk P w K mg base CX0 (k + 1) f fd ["_law_script"] (spFeed K) := by
  refine F.ok sc_law_feed (fun vs H Q E h => ?_) (fun cdv A outer s H vs Q E hr h => ?_)
  · obtain ⟨a, ns, rfl, _⟩ := h
    rfl
  · obtain ⟨a, ns, rfl, hS, q⟩ := h
    refine ⟨_, (pss_one (ps_ret (pe_lst (pa_cons (pe_callTy call_list_of (by rfl) T.list (by decide +kernel) (pa_cons (pe_slice sl_list (pv 0) po_none (po_some pe_int)) pa_nil)) (pa_cons pe_int (pa_cons pe_int (pa_cons pe_int (pa_cons pe_int pa_nil)))))))), ?_⟩
    refine ⟨.ref a, rfl, 63, rfl, a, _, rfl, hS, fun c nc => ?_⟩
    refine ⟨c, _, rfl, .inl (SqL.of upd_same), fun l nl => ?_⟩
    refine ⟨by show 5 ≤ sizeLine; decide, fun g ng => ?_⟩
    have s1 : Same H (upd H c (.lst (cutV (ns.map V.int) none (some 63)))) := same_upd nc
    have s2 := s1.trans (same_upd (o := .lst (cutV (ns.map V.int) none (some 63))) nl)
    have s3 := s2.trans (same_upd (o := .lst [.ref l, .int 0, .int 0, .int 9106, .int 0]) ng)
    have nlg : l ≠ g := fun e => by
      rw [← e, upd_same] at ng
      cases ng
    refine q g l _ s3 (s2.free ng) ⟨(ns.drop (HT.sIx (ns.map V.int).length 0 none)).take (HT.sIx (ns.map V.int).length (ns.map V.int).length (some 63) - HT.sIx (ns.map V.int).length 0 none), 0, 0, 9106, 0, nlg, upd_same, ?_, Nat.zero_le _, by decide, by decide, by decide⟩
    rw [upd_ne nlg, upd_same]
    unfold cutV
    rw [List.map_take, List.map_drop]
/-! ### one of a row -/
abbrev s_law_pick : Stmt := topS 37
abbrev n_law_pick : List Str := ["_law_feed_here", "_law_row"]
theorem sc_law_pick : FnScope n_law_pick ["_law_feed_here", "_law_row"] (defScope s_law_pick) := ⟨rfl, rfl, rfl, by decide +kernel, rfl, by decide +kernel, by decide +kernel⟩
def spPick : Sp := fun vs H Q _ => ∃ (f l a : Addr) (xs : List V), vs = [.ref f, .ref a] ∧ FeedAt H f l ∧ H a = some (.lst xs) ∧ a ≠ f ∧ 0 < xs.length ∧ xs.length < 1000 ∧ ∀ (v : V) (H' : Hp), v ∈ xs → SameBut f H H' → FeedAt H' f l → Q v H'
theorem ok_pick {f : Addr} {fd : FuncData} {k j : Nat} (F : Fun K "_law_pick" "_law_pick" s_law_pick f fd) (T : Tx mg) (c_law_draw : Cal P w K mg base CX0 k "_law_draw" ["_law_feed_here", "_law_many"] spDraw) : FnOk P w K mg base CX0 (k + 1) f fd ["_law_feed_here", "_law_row"] spPick := by
  refine F.ok sc_law_pick (fun vs H Q E h => ?_) (fun cdv A outer s H vs Q E hr h => ?_)
  · obtain ⟨f, l, a, xs, rfl, _⟩ := h
    rfl
  · obtain ⟨f, l, a, xs, rfl, hf, ha, naf, h0, h1, q⟩ := h
    refine ⟨_, (pss_one (ps_ret (pe_ix ix_list (pv 1) (pe_cal c_law_draw hr (by rfl) (pa_cons (pv 0) (pa_cons (pe_callB call_len_seq (by rfl) T.len PySem.boot_len (pa_cons (pv 1) pa_nil)) pa_nil))) (fun _ _ => rfl)))), ?_⟩
    refine ⟨.ref a, rfl, .ref f, rfl, .ref a, rfl, a, _, rfl, .inl (SqL.of ha), f, l, _, rfl, hf, by omega, Nat.lt_trans (show ((xs.length : Int)).natAbs < 1000 by omega) (by decide), fun v H' v0 v1 sb hf' => ?_⟩
    obtain ⟨n, rfl⟩ : ∃ n : Nat, v = (n : Int) := ⟨v.toNat, by omega⟩
    have hn : n < xs.length := by omega
    exact ⟨a, xs, _, xs[n], rfl, rfl, SqL.of (sb _ _ naf ha), atI_nat (List.getElem?_eq_getElem hn), q _ _ (List.getElem_mem hn) sb hf'⟩
end
end Bw
set_option Elab.async false
set_option linter.all false
set_option maxRecDepth 100000
set_option maxHeartbeats 4000000
namespace Bw
open PySem PySem.Spec PyProof.Rows L2
/-! ### walks whose turn is any reading -/
theorem it_list {K : PySem.W.Frag} {a : Addr} {xs : List V} {H1 : Hp} {Qd : Hp → Prop} {Body : V → Hp → (Hp → Prop) → Prop} (Pv : Nat → Hp → Prop) (h0 : Pv 0 H1) (hl : ∀ i H, i ≤ xs.length → Pv i H → SqL K H a xs)
    (hs : ∀ i x H, xs[i]? = some x → Pv i H → Body x H (Pv (i + 1))) (hd : ∀ H, Pv xs.length H → Qd H) :
    ∃ W : Nat → Nat → Hp → Prop, (∃ m, W 0 m H1) ∧ ∀ i m H, W i m H → ((Itl K a).stop i H ∧ Qd H) ∨ ((Itl K a).go i H ∧ ∃ Nx : Hp → Prop, (∀ H', Nx H' → ∃ m', m' < m ∧ W (i + 1) m' H') ∧ ∀ x H', (Itl K a).yld i H x H' → Body x H' Nx) := by
  refine ⟨fun i m H => m = xs.length - i ∧ i ≤ xs.length ∧ Pv i H, ⟨xs.length, by simp, Nat.zero_le _, h0⟩, ?_⟩
  rintro i m H ⟨rfl, hi, p⟩
  have q := hl i H hi p
  by_cases hlt : i < xs.length
  · refine .inr ⟨⟨xs, xs[i], q, by simp [hlt]⟩, Pv (i + 1), fun H' p' => ⟨xs.length - (i + 1), by omega, rfl, hlt, p'⟩, fun x H' y => ?_⟩
    obtain ⟨e, y⟩ := y
    subst e
    exact hs i x _ (y _ q) p
  · exact .inl ⟨⟨xs, q, by omega⟩, hd H (by
      have : i = xs.length := by omega
      rw [this] at p
      exact p)⟩
theorem it_range {lo : Int} {n : Nat} {H1 : Hp} {Qd : Hp → Prop} {Body : V → Hp → (Hp → Prop) → Prop} (Pv : Nat → Hp → Prop) (h0 : Pv 0 H1) (hs : ∀ i H, i < n → Pv i H → Body (.int (lo + i)) H (Pv (i + 1))) (hd : ∀ H, Pv n H → Qd H) :
    ∃ W : Nat → Nat → Hp → Prop, (∃ m, W 0 m H1) ∧ ∀ i m H, W i m H → ((Itr lo n).stop i H ∧ Qd H) ∨ ((Itr lo n).go i H ∧ ∃ Nx : Hp → Prop, (∀ H', Nx H' → ∃ m', m' < m ∧ W (i + 1) m' H') ∧ ∀ x H', (Itr lo n).yld i H x H' → Body x H' Nx) := by
  refine ⟨fun i m H => m = n - i ∧ i ≤ n ∧ Pv i H, ⟨n, by simp, Nat.zero_le _, h0⟩, ?_⟩
  rintro i m H ⟨rfl, hi, p⟩
  by_cases hlt : i < n
  · refine .inr ⟨hlt, Pv (i + 1), fun H' p' => ⟨n - (i + 1), by omega, rfl, hlt, p'⟩, fun x H' y => ?_⟩
    obtain ⟨e, y⟩ := y
    subst e y
    exact hs i _ hlt p
  · exact .inl ⟨(by show n ≤ i; omega), hd H (by
      have : i = n := by omega
      rw [this] at p
      exact p)⟩
theorem all_rep (n : Nat) : (List.replicate n true).all id = true := by
  rw [List.all_eq_true]
  intro x hx
  exact List.eq_of_mem_replicate hx
theorem it_zipT {K : PySem.W.Frag} {a b : Addr} {xs ys : List V} {H1 : Hp} {Qd : Hp → Prop} {Body : V → Hp → (Hp → Prop) → Prop} (hl : xs.length = ys.length) (Pv : Nat → Hp → Prop) (h0 : Pv 0 H1) (hq : ∀ i H, Pv i H → SqT K H a xs ∧ SqT K H b ys)
    (hs : ∀ (i : Nat) (x y : V) (T : Addr) (H : Hp), xs[i]? = some x → ys[i]? = some y → Pv i H → H T = none → Body (.ref T) (upd H T (.tup [x, y])) (Pv (i + 1))) (hd : ∀ H, Pv xs.length H → Qd H) :
    ∃ W : Nat → Nat → Hp → Prop, (∃ m, W 0 m H1) ∧ ∀ i m H, W i m H → ((RZ.ItzT K a b).stop i H ∧ Qd H) ∨ ((RZ.ItzT K a b).go i H ∧ ∃ Nx : Hp → Prop, (∀ H', Nx H' → ∃ m', m' < m ∧ W (i + 1) m' H') ∧ ∀ x H', (RZ.ItzT K a b).yld i H x H' → Body x H' Nx) := by
  refine ⟨fun i m H => m = xs.length - i ∧ i ≤ xs.length ∧ Pv i H, ⟨xs.length, rfl, Nat.zero_le _, h0⟩, ?_⟩
  rintro i m H ⟨rfl, hi, p⟩
  obtain ⟨qx, qy⟩ := hq i H p
  by_cases hlt : i < xs.length
  · have hx : xs[i]? = some xs[i] := List.getElem?_eq_getElem hlt
    have hy : ys[i]? = some ys[i] := List.getElem?_eq_getElem (by omega)
    refine .inr ⟨⟨xs, ys, _, _, qx, qy, hx, hy⟩, Pv (i + 1), fun H' p' => ⟨xs.length - (i + 1), by omega, rfl, hlt, p'⟩, fun v H' y => ?_⟩
    obtain ⟨T, x', y', rfl, hT, rfl, f1, f2⟩ := y
    exact hs i x' y' T H (f1 xs qx) (f2 ys qy) p hT
  · have e : i = xs.length := by omega
    subst e
    exact .inl ⟨⟨xs, ys, qx, qy, Or.inl (Nat.le_refl _)⟩, hd H p⟩
theorem it_zipL {K : PySem.W.Frag} {a b : Addr} {xs ys : List V} {H1 : Hp} {Qd : Hp → Prop} {Body : V → Hp → (Hp → Prop) → Prop} (hl : xs.length = ys.length) (Pv : Nat → Hp → Prop) (h0 : Pv 0 H1) (hq : ∀ i H, Pv i H → SqL K H a xs ∧ SqL K H b ys)
    (hs : ∀ (i : Nat) (x y : V) (T : Addr) (H : Hp), xs[i]? = some x → ys[i]? = some y → Pv i H → H T = none → Body (.ref T) (upd H T (.tup [x, y])) (Pv (i + 1))) (hd : ∀ H, Pv xs.length H → Qd H) :
    ∃ W : Nat → Nat → Hp → Prop, (∃ m, W 0 m H1) ∧ ∀ i m H, W i m H → ((Itz K a b).stop i H ∧ Qd H) ∨ ((Itz K a b).go i H ∧ ∃ Nx : Hp → Prop, (∀ H', Nx H' → ∃ m', m' < m ∧ W (i + 1) m' H') ∧ ∀ x H', (Itz K a b).yld i H x H' → Body x H' Nx) := by
  refine ⟨fun i m H => m = xs.length - i ∧ i ≤ xs.length ∧ Pv i H, ⟨xs.length, rfl, Nat.zero_le _, h0⟩, ?_⟩
  rintro i m H ⟨rfl, hi, p⟩
  obtain ⟨qx, qy⟩ := hq i H p
  by_cases hlt : i < xs.length
  · have hx : xs[i]? = some xs[i] := List.getElem?_eq_getElem hlt
    have hy : ys[i]? = some ys[i] := List.getElem?_eq_getElem (by omega)
    refine .inr ⟨⟨xs, ys, _, _, qx, qy, hx, hy⟩, Pv (i + 1), fun H' p' => ⟨xs.length - (i + 1), by omega, rfl, hlt, p'⟩, fun v H' y => ?_⟩
    obtain ⟨T, x', y', rfl, hT, rfl, f1, f2⟩ := y
    exact hs i x' y' T H (f1 xs qx) (f2 ys qy) p hT
  · have e : i = xs.length := by omega
    subst e
    exact .inl ⟨⟨xs, ys, qx, qy, Or.inl (Nat.le_refl _)⟩, hd H p⟩
/-- alike data, at most n deep -/
def Al : Nat → Hp → V → V → Prop
  | 0, _, _, _ => False
  | n + 1, H, x, y => (x = y ∧ ((∃ i, x = .int i) ∨ (∃ z, x = .str z) ∨ (∃ b, x = .bl b) ∨ x = .non)) ∨
    (∃ (a b : Addr) (xs ys : List V), x = .ref a ∧ y = .ref b ∧ H a = some (.tup xs) ∧ H b = some (.tup ys) ∧ xs.length = ys.length ∧ xs.length ≤ 1000 ∧ ∀ (j : Nat) (u v : V), xs[j]? = some u → ys[j]? = some v → Al n H u v) ∨
    (∃ (a b : Addr) (xs ys : List V), x = .ref a ∧ y = .ref b ∧ H a = some (.lst xs) ∧ H b = some (.lst ys) ∧ xs.length = ys.length ∧ xs.length ≤ 1000 ∧ ∀ (j : Nat) (u v : V), xs[j]? = some u → ys[j]? = some v → Al n H u v)
theorem Al.same : ∀ {n : Nat} {H H' : Hp} {x y : V}, Same H H' → Al n H x y → Al n H' x y
  | 0, _, _, _, _, _, h => h
  | n + 1, H, H', x, y, s, h => by
    rcases h with h | ⟨a, b, xs, ys, h1, h2, h3, h4, h5, h6, h7⟩ | ⟨a, b, xs, ys, h1, h2, h3, h4, h5, h6, h7⟩
    · exact .inl h
    · exact .inr (.inl ⟨a, b, xs, ys, h1, h2, s _ _ h3, s _ _ h4, h5, h6, fun j u v e1 e2 => (h7 j u v e1 e2).same s⟩)
    · exact .inr (.inr ⟨a, b, xs, ys, h1, h2, s _ _ h3, s _ _ h4, h5, h6, fun j u v e1 e2 => (h7 j u v e1 e2).same s⟩)
section
variable {P : Program} {w : World} {K : PySem.W.Frag} {mg : Str → Option Value} {base : Heap}
abbrev s_law_same : Stmt := topS 39
abbrev n_law_same : List Str := ["_law_found", "_law_due", "_law_one", "_law_two"]
theorem sc_law_same : FnScope n_law_same ["_law_found", "_law_due"] (defScope s_law_same) := ⟨rfl, rfl, rfl, by decide +kernel, rfl, by decide +kernel, by decide +kernel⟩
def spSame (n : Nat) : Sp := fun vs H Q _ => ∃ x y : V, vs = [x, y] ∧ Al n H x y ∧ ∀ H', Same H H' → Q (.bl true) H'
theorem ok_same {f : Addr} {fd : FuncData} (F : Fun K "_law_same" "_law_same" s_law_same f fd) (T : Tx mg) (gf : mg "_law_same" = some (.ref f)) (bf : Binds K fd ["_law_found", "_law_due"] []) : ∀ n : Nat, FnOk P w K mg base CX0 (n + 1) f fd ["_law_found", "_law_due"] (spSame n)
  | 0 => F.ok sc_law_same (fun vs H Q E h => by
      obtain ⟨_, _, _, h, _⟩ := h
      exact h.elim) (fun cdv A outer s H vs Q E hr h => by
      obtain ⟨_, _, _, h, _⟩ := h
      exact h.elim)
  | n + 1 => by
    have c_law_same : Cal P w K mg base CX0 (n + 1) "_law_same" ["_law_found", "_law_due"] (spSame n) := ⟨f, fd, ok_same F T gf bf n, gf, F.kp, bf⟩
    refine F.ok sc_law_same (fun vs H Q E h => ?_) (fun cdv A outer s H vs Q E hr h => ?_)
    · obtain ⟨x, y, rfl, _⟩ := h
      rfl
    · obtain ⟨x, y, rfl, h, q⟩ := h
      refine ⟨_, (pss_cons (ps_if (pt_val (pe_callB (c_isi (K := K)) (by rfl) T.isinstance (by decide +kernel) (pa_cons (pv 1) (pa_cons (pe_bltn (v := .ty "dict") (by rfl) T.dict (by decide +kernel) rfl) pa_nil))))
    pss_never
    pss_nil)
  (pss_cons (ps_if (pt_cmpR op_ne (pe_callB (c_isi (K := K)) (by rfl) T.isinstance (by decide +kernel) (pa_cons (pv 1) (pa_cons (pe_bltn (v := .ty "tuple") (by rfl) T.tuple (by decide +kernel) rfl) pa_nil))) (pe_callB (c_isi (K := K)) (by rfl) T.isinstance (by decide +kernel) (pa_cons (pv 0) (pa_cons (pe_bltn (v := .ty "tuple") (by rfl) T.tuple (by decide +kernel) rfl) pa_nil))) (nomark _))
    (pss_one (ps_ret pe_bl))
    pss_nil)
  (pss_cons (ps_if (pt_cmpR op_ne (pe_callB (c_isi (K := K)) (by rfl) T.isinstance (by decide +kernel) (pa_cons (pv 1) (pa_cons (pe_bltn (v := .ty "list") (by rfl) T.list (by decide +kernel) rfl) pa_nil))) (pe_callB (c_isi (K := K)) (by rfl) T.isinstance (by decide +kernel) (pa_cons (pv 0) (pa_cons (pe_bltn (v := .ty "list") (by rfl) T.list (by decide +kernel) rfl) pa_nil))) (nomark _))
    (pss_one (ps_ret pe_bl))
    pss_nil)
  (pss_cons (ps_if (pt_val (pe_callB (c_isiT (K := K)) (by rfl) T.isinstance (by decide +kernel) (pa_cons (pv 1) (pa_cons (pe_tup (pa_cons (pe_bltn (v := .ty "list") (by rfl) T.list (by decide +kernel) rfl) (pa_cons (pe_bltn (v := .ty "tuple") (by rfl) T.tuple (by decide +kernel) rfl) pa_nil))) pa_nil))))
    (pss_one (ps_ret (pe_and (pe_cmpR op_eq (pe_callB (c_len (K := K)) (by rfl) T.len PySem.boot_len (pa_cons (pv 0) pa_nil)) (pe_callB (c_len (K := K)) (by rfl) T.len PySem.boot_len (pa_cons (pv 1) pa_nil)) (nomark _)) (pe_one (pe_callB (c_all (K := K) rfl) (by rfl) T.all (by decide +kernel) (pa_cons (pe_lc (own := [("_law_one", 2), ("_law_two", 3)]) (by rfl) sc_law_same.nd (RZ.pi_zipA (by rfl) T.zip (pa_cons (pv 0) (pa_cons (pv 1) pa_nil))) (blkOk_by (own := [("_law_one", 2), ("_law_two", 3)]) (N := n_law_same) (sc := defScope s_law_same) (by decide +kernel)) (fun _ _ _ _ _ => (g_tup (K := K) (n := 2) rfl (pgs_cons (pg_name (i := 2) sc_law_same.nd rfl (.inl rfl)) (pgs_cons (pg_name (i := 3) sc_law_same.nd rfl (.inl rfl)) pgs_nil)))) (fun _ _ _ _ _ => pts_nil) (fun _ _ _ _ _ => (pe_cal c_law_same hr (by rfl) (pa_cons (pv 2) (pa_cons (pv 3) pa_nil))))) pa_nil))))))
    pss_nil)
  (pss_cons (ps_if (pt_cmpR op_ne (pe_callB (c_isi (K := K)) (by rfl) T.isinstance (by decide +kernel) (pa_cons (pv 1) (pa_cons (pe_bltn (v := .ty "bool") (by rfl) T.bool (by decide +kernel) rfl) pa_nil))) (pe_callB (c_isi (K := K)) (by rfl) T.isinstance (by decide +kernel) (pa_cons (pv 0) (pa_cons (pe_bltn (v := .ty "bool") (by rfl) T.bool (by decide +kernel) rfl) pa_nil))) (nomark _))
    (pss_one (ps_ret pe_bl))
    pss_nil)
  (pss_cons (ps_if (pt_cmpR op_ne (pe_callB (c_isi (K := K)) (by rfl) T.isinstance (by decide +kernel) (pa_cons (pv 1) (pa_cons (pe_bltn (v := .ty "str") (by rfl) T.str (by decide +kernel) rfl) pa_nil))) (pe_callB (c_isi (K := K)) (by rfl) T.isinstance (by decide +kernel) (pa_cons (pv 0) (pa_cons (pe_bltn (v := .ty "str") (by rfl) T.str (by decide +kernel) rfl) pa_nil))) (nomark _))
    (pss_one (ps_ret pe_bl))
    pss_nil)
  (pss_one (ps_ret (pe_and (pe_cmpR op_eq (pe_cmpR op_isN (pv 1) pe_non (nomark _)) (pe_cmpR op_isN (pv 0) pe_non (nomark _)) (nomark _)) (pe_one (pe_cmpR op_eq (pv 0) (pv 1) (nomark _)))))))))))), ?_⟩
      rcases h with ⟨rfl, h⟩ | ⟨a, b, xs, ys, rfl, rfl, ha, hb, hl, hz, hi⟩ | ⟨a, b, xs, ys, rfl, rfl, ha, hb, hl, hz, hi⟩
      · -- numbers, texts, truths, None
        obtain ⟨t, b1, b2, ty, k1, k2, k3, k4, k5, hsc⟩ : ∃ (t : String) (b1 b2 : Bool), (∀ H', TyOf K H' x (.type t)) ∧ kitB t "dict" = some false ∧ kitB t "tuple" = some false ∧ kitB t "list" = some false ∧ kitB t "bool" = some b1 ∧ kitB t "str" = some b2 ∧ scal x x = true := by
          rcases h with ⟨i, rfl⟩ | ⟨z, rfl⟩ | ⟨b, rfl⟩ | rfl
          · exact ⟨"int", false, false, fun _ => .int i, by decide +kernel, by decide +kernel, by decide +kernel, by decide +kernel, by decide +kernel, rfl⟩
          · exact ⟨"str", false, true, fun _ => .str z, by decide +kernel, by decide +kernel, by decide +kernel, by decide +kernel, by decide +kernel, rfl⟩
          · exact ⟨"bool", true, false, fun _ => .bl b, by decide +kernel, by decide +kernel, by decide +kernel, by decide +kernel, by decide +kernel, rfl⟩
          · exact ⟨"NoneType", false, false, fun _ => .non, by decide +kernel, by decide +kernel, by decide +kernel, by decide +kernel, by decide +kernel, rfl⟩
        have kA : PySem.W.kitAny K (.type t) [.type "list", .type "tuple"] = some false := kitAny_cons (kit_ty k3) (fun _ => kitAny_cons (kit_ty k2) (fun _ => kitAny_nil) (fun z => by cases z)) (fun z => by cases z)
        refine ⟨x, rfl, _, _, _, _, false, rfl, .ty "dict", .base (ty _), kit_ty k1, false, rfl, iteF ?_⟩
        refine ⟨x, rfl, _, _, _, _, false, rfl, .ty "tuple", .base (ty _), kit_ty k2, x, rfl, _, _, _, _, false, rfl, .ty "tuple", .base (ty _), kit_ty k2, rfl, _, rfl, iteNS rfl ?_⟩
        refine ⟨x, rfl, _, _, _, _, false, rfl, .ty "list", .base (ty _), kit_ty k3, x, rfl, _, _, _, _, false, rfl, .ty "list", .base (ty _), kit_ty k3, rfl, _, rfl, iteNS rfl ?_⟩
        refine ⟨x, rfl, by show 2 ≤ sizeLine; decide, fun tp etp => ⟨x, tp, _, _, [.type "list", .type "tuple"], false, rfl, upd_same, .cons (.ty "list") (.cons (.ty "tuple") .nil), .base (ty _), kA, false, rfl, iteF ?_⟩⟩
        refine ⟨x, rfl, _, _, _, _, b1, rfl, .ty "bool", .base (ty _), kit_ty k4, x, rfl, _, _, _, _, b1, rfl, .ty "bool", .base (ty _), kit_ty k4, rfl, _, rfl, iteNS rfl ?_⟩
        refine ⟨x, rfl, _, _, _, _, b2, rfl, .ty "str", .base (ty _), kit_ty k5, x, rfl, _, _, _, _, b2, rfl, .ty "str", .base (ty _), kit_ty k5, rfl, _, rfl, iteNS rfl ?_⟩
        refine ⟨x, rfl, rfl, x, rfl, rfl, rfl, true, by rw [decide_eq_true rfl], iteT ⟨x, rfl, x, rfl, hsc, ?_⟩⟩
        rw [decide_eq_true rfl]
        exact q _ (same_upd etp)
      · -- two tuples
        have kA : PySem.W.kitAny K (.type "tuple") [.type "list", .type "tuple"] = some true := kitAny_cons (kit_ty (show kitB "tuple" "list" = some false by decide +kernel)) (fun _ => kitAny_cons (kit_ty (show kitB "tuple" "tuple" = some true by decide +kernel)) (fun z => by cases z) (fun _ => rfl)) (fun z => by cases z)
        refine ⟨.ref b, rfl, _, _, _, _, false, rfl, .ty "dict", .base (.tup hb), kit_ty (by decide +kernel), false, rfl, iteF ?_⟩
        refine ⟨.ref b, rfl, _, _, _, _, true, rfl, .ty "tuple", .base (.tup hb), kit_ty (by decide +kernel), .ref a, rfl, _, _, _, _, true, rfl, .ty "tuple", .base (.tup ha), kit_ty (by decide +kernel), rfl, _, rfl, iteNS rfl ?_⟩
        refine ⟨.ref b, rfl, _, _, _, _, false, rfl, .ty "list", .base (.tup hb), kit_ty (by decide +kernel), .ref a, rfl, _, _, _, _, false, rfl, .ty "list", .base (.tup ha), kit_ty (by decide +kernel), rfl, _, rfl, iteNS rfl ?_⟩
        refine ⟨.ref b, rfl, by show 2 ≤ sizeLine; decide, fun tp etp => ?_⟩
        have s1 := same_upd (o := .tup [.ty "list", .ty "tuple"]) etp
        have ha := s1 _ _ ha
        have hb := s1 _ _ hb
        refine ⟨.ref b, tp, _, _, [.type "list", .type "tuple"], true, rfl, upd_same, .cons (.ty "list") (.cons (.ty "tuple") .nil), .base (.tup hb), kA, true, rfl, iteT ?_⟩
        refine ⟨.ref a, rfl, a, _, rfl, .inr (SqT.of ha), .ref b, rfl, b, _, rfl, .inr (SqT.of hb), rfl, true, by rw [hl, decide_eq_true rfl], iteT ?_⟩
        refine ⟨.ref a, rfl, .ref b, rfl, a, b, xs, ys, rfl, .inr ⟨SqT.of ha, SqT.of hb, fun D eD => ?_⟩⟩
        have naD : a ≠ D := ne_of_none ha eD
        have nbD : b ≠ D := ne_of_none hb eD
        refine it_zipT hl (fun j H' => H' D = some (.lst ((List.replicate j true).map V.bl)) ∧ ∀ c o, c ≠ D → (upd H tp (.tup [.ty "list", .ty "tuple"])) c = some o → H' c = some o) ⟨upd_same, fun c o n e => by rw [upd_ne n]; exact e⟩ (fun j H' ⟨_, k⟩ => ⟨SqT.of (k _ _ naD ha), SqT.of (k _ _ nbD hb)⟩) ?_ ?_
        · rintro j u v Tt H1 hu hv ⟨e1, k1⟩ nT
          have hj := (List.getElem?_eq_some_iff.mp hu).1
          have sT := same_upd (o := .tup [u, v]) nT
          have sA : Same H (upd H1 Tt (.tup [u, v])) := fun c o e => sT _ _ (k1 _ _ (ne_of_none (s1 _ _ e) eD) (s1 _ _ e))
          refine ⟨Tt, [u, v], rfl, SqT.of upd_same, rfl, u, [v], rfl, v, [], rfl, rfl, rfl, u, rfl, v, rfl, u, v, rfl, (hi j u v hu hv).same sA, fun H2 s2 => ?_⟩
          refine ⟨_, s2 _ _ (sT _ _ e1), by rw [List.length_map, List.length_replicate]; exact small1000 (by omega), ?_, fun c o n e => ?_⟩
          · rw [upd_same, List.replicate_succ', List.map_append]
            rfl
          · rw [upd_ne n]
            exact s2 _ _ (sT _ _ (k1 _ _ n e))
        · rintro H1 ⟨e1, k1⟩
          refine ⟨D, _, rfl, SqL.of e1, ?_⟩
          rw [all_rep]
          exact q _ fun c o e => k1 _ _ (ne_of_none (s1 _ _ e) eD) (s1 _ _ e)
      · -- two lists
        have kA : PySem.W.kitAny K (.type "list") [.type "list", .type "tuple"] = some true := kitAny_cons (kit_ty (show kitB "list" "list" = some true by decide +kernel)) (fun z => by cases z) (fun _ => rfl)
        refine ⟨.ref b, rfl, _, _, _, _, false, rfl, .ty "dict", .base (.lst hb), kit_ty (by decide +kernel), false, rfl, iteF ?_⟩
        refine ⟨.ref b, rfl, _, _, _, _, false, rfl, .ty "tuple", .base (.lst hb), kit_ty (by decide +kernel), .ref a, rfl, _, _, _, _, false, rfl, .ty "tuple", .base (.lst ha), kit_ty (by decide +kernel), rfl, _, rfl, iteNS rfl ?_⟩
        refine ⟨.ref b, rfl, _, _, _, _, true, rfl, .ty "list", .base (.lst hb), kit_ty (by decide +kernel), .ref a, rfl, _, _, _, _, true, rfl, .ty "list", .base (.lst ha), kit_ty (by decide +kernel), rfl, _, rfl, iteNS rfl ?_⟩
        refine ⟨.ref b, rfl, by show 2 ≤ sizeLine; decide, fun tp etp => ?_⟩
        have s1 := same_upd (o := .tup [.ty "list", .ty "tuple"]) etp
        have ha := s1 _ _ ha
        have hb := s1 _ _ hb
        refine ⟨.ref b, tp, _, _, [.type "list", .type "tuple"], true, rfl, upd_same, .cons (.ty "list") (.cons (.ty "tuple") .nil), .base (.lst hb), kA, true, rfl, iteT ?_⟩
        refine ⟨.ref a, rfl, a, _, rfl, .inl (SqL.of ha), .ref b, rfl, b, _, rfl, .inl (SqL.of hb), rfl, true, by rw [hl, decide_eq_true rfl], iteT ?_⟩
        refine ⟨.ref a, rfl, .ref b, rfl, a, b, xs, ys, rfl, .inl ⟨SqL.of ha, SqL.of hb, fun D eD => ?_⟩⟩
        have naD : a ≠ D := ne_of_none ha eD
        have nbD : b ≠ D := ne_of_none hb eD
        refine it_zipL hl (fun j H' => H' D = some (.lst ((List.replicate j true).map V.bl)) ∧ ∀ c o, c ≠ D → (upd H tp (.tup [.ty "list", .ty "tuple"])) c = some o → H' c = some o) ⟨upd_same, fun c o n e => by rw [upd_ne n]; exact e⟩ (fun j H' ⟨_, k⟩ => ⟨SqL.of (k _ _ naD ha), SqL.of (k _ _ nbD hb)⟩) ?_ ?_
        · rintro j u v Tt H1 hu hv ⟨e1, k1⟩ nT
          have hj := (List.getElem?_eq_some_iff.mp hu).1
          have sT := same_upd (o := .tup [u, v]) nT
          have sA : Same H (upd H1 Tt (.tup [u, v])) := fun c o e => sT _ _ (k1 _ _ (ne_of_none (s1 _ _ e) eD) (s1 _ _ e))
          refine ⟨Tt, [u, v], rfl, SqT.of upd_same, rfl, u, [v], rfl, v, [], rfl, rfl, rfl, u, rfl, v, rfl, u, v, rfl, (hi j u v hu hv).same sA, fun H2 s2 => ?_⟩
          refine ⟨_, s2 _ _ (sT _ _ e1), by rw [List.length_map, List.length_replicate]; exact small1000 (by omega), ?_, fun c o n e => ?_⟩
          · rw [upd_same, List.replicate_succ', List.map_append]
            rfl
          · rw [upd_ne n]
            exact s2 _ _ (sT _ _ (k1 _ _ n e))
        · rintro H1 ⟨e1, k1⟩
          refine ⟨D, _, rfl, SqL.of e1, ?_⟩
          rw [all_rep]
          exact q _ fun c o e => k1 _ _ (ne_of_none (s1 _ _ e) eD) (s1 _ _ e)
end
end Bw
set_option Elab.async false
set_option linter.all false
set_option maxRecDepth 100000
set_option maxHeartbeats 4000000
namespace Bw
open PySem PySem.Spec PyProof.Rows L2
/-! ### chords and cuts, as lists of numbers -/
abbrev Ch := List Int
abbrev p0 (c : Ch) : Int := c.getD 0 0
abbrev p1 (c : Ch) : Int := c.getD 1 0
def crossB (a b : Ch) : Bool := (decide (p0 a < p0 b) && (decide (p0 b < p1 a) && decide (p1 a < p1 b))) || (decide (p0 b < p0 a) && (decide (p0 a < p1 b) && decide (p1 b < p1 a)))
def sideB (n : Int) (p : Ch) : Bool := decide (p1 p - p0 p = 1) || decide (p1 p - p0 p = n - 1)
def leB (a b : Ch) : Bool := !HT.lexLt b a
def lastD (row : List Ch) : Ch := row.getD (row.length - 1) []
def fitsB (c : Ch) (row : List Ch) : Bool := if (decide (0 < row.length) && leB c (lastD row)) = true then false else !(row.any fun o => crossB c o)
def fitsW (c : Ch) (row : List Ch) : Bool := (decide (row = []) || HT.lexLt (lastD row) c) && !(row.any fun o => crossB o c)
def riseOne (n : Nat) (r : Ch) : List Ch := ((List.range n).filter fun (c : Nat) => decide (r.length = 0) || decide (r.getD (r.length - 1) 0 < (c : Int))).map fun (c : Nat) => r ++ [(c : Int)]
def rise (n : Nat) : Nat → List Ch
  | 0 => [[]]
  | k + 1 => (rise n k).flatMap (riseOne n)
def chordsP (n : Nat) : List Ch := (rise n 2).filter fun p => !sideB n p
def chordsOne (n lo : Nat) : List Ch := ((List.range (n - (lo + 2))).filter fun (j : Nat) => decide (((lo : Int) + 2 + (j : Int)) - lo < (n : Int) - 1)).map fun (j : Nat) => [(lo : Int), (lo : Int) + 2 + (j : Int)]
def chordsW (n : Nat) : List Ch := (List.range n).flatMap (chordsOne n)
def growOne (F : Ch → List Ch → Bool) (cs : List Ch) (r : List Ch) : List (List Ch) := (cs.filter fun c => F c r).map fun c => r ++ [c]
def grow (F : Ch → List Ch → Bool) (cs : List Ch) : Nat → List (List Ch)
  | 0 => [[]]
  | k + 1 => (grow F cs k).flatMap (growOne F cs)
def cutsP (n : Nat) : List (List Ch) := grow fitsB (chordsP n) (n - 3)
def cutsW (n : Nat) : List (List Ch) := grow fitsW (chordsW n) (n - 3)
def polyB (n : Int) : Bool := decide (4 ≤ n ∧ n ≤ 7)
def chordB (n : Int) (p : Ch) : Bool := decide (0 ≤ p0 p) && (decide (p0 p < p1 p) && (decide (p1 p < n) && !sideB n p))
def fitsAll (c : List Ch) : Bool := (List.range c.length).all fun i => fitsB (c.getD i []) (c.take i)
def isCutB (n : Int) (c : List Ch) : Bool := polyB n && (decide ((c.length : Int) = n - 3) && (c.all (chordB n) && fitsAll c))
theorem cuts_eq : ∀ n ∈ [4, 5, 6, 7], cutsP n = cutsW n := by decide +kernel
theorem chords_eq : ∀ n ∈ [4, 5, 6, 7], chordsP n = chordsW n := by decide +kernel
theorem cuts_len : ∀ n ∈ [4, 5, 6, 7], (cutsW n).length = [2, 5, 14, 42].getD (n - 4) 0 := by decide +kernel
theorem chords_len : ∀ n ∈ [4, 5, 6, 7], (chordsW n).length ≤ 14 ∧ ∀ c ∈ chordsW n, c.length = 2 := by decide +kernel
theorem cuts_two : ∀ n ∈ [4, 5, 6, 7], ∀ c ∈ cutsW n, c.length = n - 3 ∧ isCutB n c = true ∧ ∀ p ∈ c, p.length = 2 := by decide +kernel
/-! ### a drawn cut is one of them -/
def treeB (n : Nat) (all : List Ch) : List Ch → List Ch → Bool
  | [], acc => !(all.all fun c => acc.contains c || acc.any fun o => crossB o c) || (cutsW n).contains acc
  | c :: cs, acc => treeB n all cs acc && (acc.any (fun o => crossB o c) || treeB n all cs (acc ++ [c]))
theorem tree_ok : ∀ n ∈ [4, 5, 6, 7], treeB n (chordsW n) (chordsW n) [] = true := by decide +kernel
theorem tree_use {n : Nat} {all : List Ch} (S : Ch → Bool) : ∀ (cs acc : List Ch), treeB n all cs acc = true →
    (∀ a b, a ∈ acc ++ cs.filter S → b ∈ acc ++ cs.filter S → crossB a b = false) →
    (∀ c ∈ all, c ∈ acc ++ cs.filter S ∨ ∃ o ∈ acc ++ cs.filter S, crossB o c = true) → acc ++ cs.filter S ∈ cutsW n
  | [], acc, h, _, hm => by
    unfold treeB at h
    rw [List.filter_nil, List.append_nil] at hm ⊢
    have e : (all.all fun c => acc.contains c || acc.any fun o => crossB o c) = true := by
      rw [List.all_eq_true]
      intro c hc
      rcases hm c hc with h1 | ⟨o, h1, h2⟩
      · rw [List.contains_iff_mem.mpr h1, Bool.true_or]
      · rw [Bool.or_eq_true]
        exact .inr (List.any_eq_true.mpr ⟨o, h1, h2⟩)
    rw [e, Bool.not_true, Bool.false_or] at h
    exact List.contains_iff_mem.mp h
  | c :: cs, acc, h, hx, hm => by
    unfold treeB at h
    obtain ⟨h1, h2⟩ := Bool.and_eq_true_iff.mp h
    by_cases hc : S c = true
    · rw [List.filter_cons_of_pos hc] at hx hm ⊢
      rw [show acc ++ c :: cs.filter S = (acc ++ [c]) ++ cs.filter S by rw [List.append_assoc]; rfl] at hx hm ⊢
      rcases Bool.or_eq_true_iff.mp h2 with h3 | h3
      · obtain ⟨o, ho, hoc⟩ := List.any_eq_true.mp h3
        have := hx o c (List.mem_append_left _ (List.mem_append_left _ ho)) (List.mem_append_left _ (List.mem_append_right _ (List.mem_singleton.mpr rfl)))
        rw [this] at hoc
        cases hoc
      · exact tree_use S cs (acc ++ [c]) h3 hx hm
    · rw [List.filter_cons_of_neg hc] at hx hm ⊢
      exact tree_use S cs acc h1 hx hm
theorem cross_self (a : Ch) : crossB a a = false := by
  unfold crossB
  rw [decide_eq_false (Int.lt_irrefl (p0 a))]
  rfl
theorem cross_comm (a b : Ch) : crossB a b = crossB b a := by
  unfold crossB
  rw [Bool.or_comm]
theorem chords_sorted : ∀ n ∈ [4, 5, 6, 7], ((chordsW n).Pairwise fun x y => HT.lexLt y x = false) ∧ (chordsW n).Nodup := by decide +kernel
/-- found: what was drawn and doesn't cross, sorted -/
theorem drawn_cut {n : Nat} (hn : n ∈ [4, 5, 6, 7]) {all found out : List Ch} (pm : all.Perm (chordsW n)) (hs : ∀ c ∈ found, c ∈ all) (nd : found.Nodup) (hx : ∀ a ∈ found, ∀ b ∈ found, crossB a b = false)
    (hm : ∀ c ∈ all, c ∈ found ∨ ∃ o ∈ found, crossB o c = true) (po : out.Perm found) (so : out.Pairwise fun x y => HT.lexLt y x = false) : out ∈ cutsW n := by
  obtain ⟨ps, pn⟩ := chords_sorted n hn
  have e : out = (chordsW n).filter fun c => found.contains c := by
    refine List.Perm.eq_of_pairwise (le := fun x y => HT.lexLt y x = false) (fun a b _ _ h1 h2 => lex_tot h2 h1) so (ps.filter _) ?_
    refine po.trans ?_
    refine (List.perm_ext_iff_of_nodup nd (pn.filter _)).mpr fun c => ?_
    rw [List.mem_filter, List.contains_iff_mem]
    exact ⟨fun h => ⟨pm.mem_iff.mp (hs c h), h⟩, fun h => h.2⟩
  have mem : ∀ c, c ∈ [] ++ (chordsW n).filter (fun c => found.contains c) ↔ c ∈ found := fun c => by
    rw [List.nil_append, List.mem_filter, List.contains_iff_mem]
    exact ⟨fun h => h.2, fun h => ⟨pm.mem_iff.mp (hs c h), h⟩⟩
  have := tree_use (n := n) (all := chordsW n) (fun c => found.contains c) (chordsW n) [] (tree_ok n hn) (fun a b ha hb => hx a ((mem a).mp ha) b ((mem b).mp hb)) (fun c hc => by
    rcases hm c (pm.mem_iff.mpr hc) with h | ⟨o, h1, h2⟩
    · exact .inl ((mem c).mpr h)
    · exact .inr ⟨o, (mem o).mpr h1, h2⟩)
  rw [e]
  exact this
/-! ### the law's other chord, and cuts bent -/
def nearB (n : Int) (cut : List Ch) (x y : Int) : Bool := decide ((if y > x then y else x) - (if y < x then y else x) = 1) || (decide ((if y > x then y else x) - (if y < x then y else x) = n - 1) || cut.contains [(if y < x then y else x), (if y > x then y else x)])
def acrossOk (n : Int) (cut : List Ch) (c : Ch) (k : Int) : Bool := !(decide (p0 c = k) || decide (p1 c = k)) && (nearB n cut (p0 c) k && nearB n cut (p1 c) k)
def acrossL (n : Nat) (cut : List Ch) (c : Ch) : Ch := ((List.range n).filter fun (k : Nat) => acrossOk n cut c k).map fun (k : Nat) => (k : Int)
def oddL (n : Int) (c : Ch) : List Ch := [[p1 c, p0 c], [p0 c, p0 c + 1], [0, n - 1], [p0 c, n], [-1, p1 c], [p0 c, p0 c], [2, 10 ^ 20]]
def sortL (l : List Ch) : List Ch := l.mergeSort fun a b => !HT.lexLt b a
def bent1 (n : Nat) (cut : List Ch) (k oi : Nat) : List (List Ch) := [cut.take k ++ [(oddL n (cut.getD k [])).getD oi []] ++ cut.drop (k + 1), cut.take k ++ cut.drop (k + 1), cut ++ [cut.getD k []], []]
def bent2 (cut : List Ch) : List (List Ch) := if 1 < cut.length then [cut.reverse, (List.replicate cut.length (cut.take 1)).flatten] else []
end Bw
set_option Elab.async false
set_option linter.all false
set_option maxRecDepth 100000
set_option maxHeartbeats 4000000
namespace Bw
open PySem PySem.Spec PyProof.Rows L2
def insL (c : Ch) : List Ch → List Ch
  | [] => [c]
  | x :: l => if HT.lexLt c x = true then c :: x :: l else x :: insL c l
def goodB (n : Nat) (cs : List (List Ch)) (bad : List Ch) : Bool := (isCutB n bad == cs.contains bad) && bad.all fun p => decide (p.length = 2)
def acr (n : Nat) (cut : List Ch) (k : Nat) : Ch := acrossL n cut (cut.getD k [])
def cutOk (n : Nat) (cs : List (List Ch)) (cut : List Ch) : Bool :=
  ((List.range (n - 3)).all fun k =>
    ((List.range 7).all fun oi => goodB n cs (cut.take k ++ [(oddL n (cut.getD k [])).getD oi []] ++ cut.drop (k + 1))) &&
    (goodB n cs (cut.take k ++ cut.drop (k + 1)) && (goodB n cs (cut ++ [cut.getD k []]) &&
    (goodB n cs ((insL (acr n cut k) cut).take (n - 3)) && (decide ((acr n cut k).length = 2) && (decide ((insL (acr n cut k) cut).Perm (cut ++ [acr n cut k])) && decide ((insL (acr n cut k) cut).Pairwise fun x y => HT.lexLt y x = false))))))) &&
  (goodB n cs [] && (((bent2 cut).all (goodB n cs)) && !(cut.contains (acr n cut 0))))
def allOk (n : Nat) (cs : List (List Ch)) : Bool := cs.all (cutOk n cs)
theorem all_ok : ∀ n ∈ [4, 5, 6, 7], allOk n (cutsW n) = true := by decide +kernel
end Bw
set_option Elab.async false
set_option linter.all false
set_option maxRecDepth 100000
set_option maxHeartbeats 4000000
namespace Bw
open PySem PySem.Spec PyProof.Rows L2
/-! ### rows, cuts and lists of them, in the heap -/
theorem Same.updN {H H' : Hp} {D : Addr} {o : HO} (s : Same H H') (h : H D = none) : Same H (upd H' D o) := fun c u e => by
  rw [upd_ne (ne_of_none e h)]
  exact s _ _ e
def KeepT (H H' : Hp) : Prop := ∀ b xs, H b = some (.tup xs) → H' b = some (.tup xs)
theorem KeepT.refl (H : Hp) : KeepT H H := fun _ _ h => h
theorem KeepT.trans {H H1 H2 : Hp} (a : KeepT H H1) (b : KeepT H1 H2) : KeepT H H2 := fun c xs h => b _ _ (a _ _ h)
theorem KeepT.of {H H' : Hp} (s : Same H H') : KeepT H H' := fun _ _ h => s _ _ h
theorem KeepT.but {H H' : Hp} {f l : Addr} (s : SameBut f H H') (hf : FeedAt H f l) : KeepT H H' := fun _ _ h => s _ _ (hf.tup h) h
theorem KeepT.put {H : Hp} {R : Addr} {ys : List V} {o : HO} (h : H R = some (.lst ys)) : KeepT H (upd H R o) := fun b xs e => by
  rw [upd_ne (fun z => by rw [z, h] at e; cases e)]
  exact e
section
variable {α : Type} {P : Hp → Addr → α → Prop}
def Ps (P : Hp → Addr → α → Prop) (H : Hp) (ts : List Addr) (xs : List α) : Prop := ts.length = xs.length ∧ ∀ (i : Nat) (x : α), xs[i]? = some x → ∃ t, ts[i]? = some t ∧ P H t x
theorem Ps.keep {H H' : Hp} {ts : List Addr} {xs : List α} (k : ∀ t x, P H t x → P H' t x) (h : Ps P H ts xs) : Ps P H' ts xs := ⟨h.1, fun i x e => by
  obtain ⟨t, e1, e2⟩ := h.2 i x e
  exact ⟨t, e1, k _ _ e2⟩⟩
theorem Ps.nil {H : Hp} : Ps P H [] [] := ⟨rfl, fun i x e => by simp at e⟩
theorem Ps.append {H : Hp} {ts us : List Addr} {xs ys : List α} (h : Ps P H ts xs) (k : Ps P H us ys) : Ps P H (ts ++ us) (xs ++ ys) := by
  refine ⟨by rw [List.length_append, List.length_append, h.1, k.1], fun i x e => ?_⟩
  rw [List.getElem?_append] at e
  split at e
  · next hi =>
    obtain ⟨t, e1, e2⟩ := h.2 i x e
    exact ⟨t, by rw [List.getElem?_append, if_pos (by rw [h.1]; exact hi)]; exact e1, e2⟩
  · next hi =>
    obtain ⟨t, e1, e2⟩ := k.2 _ x e
    exact ⟨t, by rw [List.getElem?_append, if_neg (by rw [h.1]; exact hi), h.1]; exact e1, e2⟩
theorem Ps.one {H : Hp} {t : Addr} {x : α} (h : P H t x) : Ps P H [t] [x] := ⟨rfl, fun i y e => by
  match i, e with
  | 0, e =>
    cases (Option.some.inj e)
    exact ⟨t, rfl, h⟩
  | i + 1, e => simp at e⟩
theorem Ps.cons {H : Hp} {t : Addr} {x : α} {ts : List Addr} {xs : List α} (h : P H t x) (k : Ps P H ts xs) : Ps P H (t :: ts) (x :: xs) := (Ps.one h).append k
theorem Ps.snoc {H : Hp} {ts : List Addr} {xs : List α} {t : Addr} {x : α} (h : Ps P H ts xs) (k : P H t x) : Ps P H (ts ++ [t]) (xs ++ [x]) := h.append (.one k)
theorem Ps.at {H : Hp} {ts : List Addr} {xs : List α} (h : Ps P H ts xs) {i : Nat} {t : Addr} (e : ts[i]? = some t) : ∃ x, xs[i]? = some x ∧ P H t x := by
  have hi := (List.getElem?_eq_some_iff.mp e).1
  rw [h.1] at hi
  obtain ⟨t', e1, e2⟩ := h.2 i xs[i] (List.getElem?_eq_getElem hi)
  rw [e] at e1
  cases e1
  exact ⟨_, List.getElem?_eq_getElem hi, e2⟩
theorem Ps.take {H : Hp} {ts : List Addr} {xs : List α} (h : Ps P H ts xs) (n : Nat) : Ps P H (ts.take n) (xs.take n) := by
  refine ⟨by rw [List.length_take, List.length_take, h.1], fun i x e => ?_⟩
  rw [List.getElem?_take] at e
  split at e
  · next hi =>
    obtain ⟨t, e1, e2⟩ := h.2 i x e
    exact ⟨t, by rw [List.getElem?_take, if_pos hi]; exact e1, e2⟩
  · cases e
theorem Ps.drop {H : Hp} {ts : List Addr} {xs : List α} (h : Ps P H ts xs) (n : Nat) : Ps P H (ts.drop n) (xs.drop n) := by
  refine ⟨by rw [List.length_drop, List.length_drop, h.1], fun i x e => ?_⟩
  rw [List.getElem?_drop] at e
  obtain ⟨t, e1, e2⟩ := h.2 _ x e
  exact ⟨t, by rw [List.getElem?_drop]; exact e1, e2⟩
theorem Ps.rev {H : Hp} {ts : List Addr} {xs : List α} (h : Ps P H ts xs) : Ps P H ts.reverse xs.reverse := by
  refine ⟨by rw [List.length_reverse, List.length_reverse, h.1], fun i x e => ?_⟩
  have hi := (List.getElem?_eq_some_iff.mp e).1
  rw [List.length_reverse] at hi
  rw [List.getElem?_reverse hi] at e
  obtain ⟨t, e1, e2⟩ := h.2 _ x e
  exact ⟨t, by rw [List.getElem?_reverse (by rw [h.1]; exact hi), h.1]; exact e1, e2⟩
theorem Ps.tail {H : Hp} {t : Addr} {ts : List Addr} {x : α} {xs : List α} (h : Ps P H (t :: ts) (x :: xs)) : P H t x ∧ Ps P H ts xs := by
  refine ⟨?_, Nat.succ.inj h.1, fun i y e => ?_⟩
  · obtain ⟨t', e1, e2⟩ := h.2 0 x rfl
    cases (Option.some.inj e1)
    exact e2
  · exact h.2 (i + 1) y e
theorem Ps.rep {H : Hp} {t : Addr} {x : α} (h : P H t x) : ∀ n : Nat, Ps P H (List.replicate n t) (List.replicate n x)
  | 0 => .nil
  | n + 1 => .cons h (Ps.rep h n)
/-- another order of the places is another order of what stands there -/
theorem Ps.perm {H : Hp} {ts us : List Addr} (p : ts.Perm us) : ∀ {xs : List α}, Ps P H ts xs → ∃ ys, ys.Perm xs ∧ Ps P H us ys := by
  induction p with
  | nil =>
    intro xs h
    exact ⟨xs, .refl _, h⟩
  | @cons a l1 l2 _ ih =>
    intro xs h
    match xs, h with
    | [], h => exact absurd h.1 (by simp)
    | x :: xs, h =>
      obtain ⟨h1, h2⟩ := h.tail
      obtain ⟨ys, p1, p2⟩ := ih h2
      exact ⟨x :: ys, p1.cons x, .cons h1 p2⟩
  | @swap a b l =>
    intro xs h
    match xs, h with
    | [], h => exact absurd h.1 (by simp)
    | [_], h => exact absurd h.1 (by simp)
    | x :: y :: xs, h =>
      obtain ⟨h1, h2⟩ := h.tail
      obtain ⟨h3, h4⟩ := h2.tail
      exact ⟨y :: x :: xs, .swap x y xs, .cons h3 (.cons h1 h4)⟩
  | trans _ _ ih1 ih2 =>
    intro xs h
    obtain ⟨ys, p1, h1⟩ := ih1 h
    obtain ⟨zs, p2, h2⟩ := ih2 h1
    exact ⟨zs, p2.trans p1, h2⟩
end
def RowAt (H : Hp) (b : Addr) (r : Ch) : Prop := H b = some (.tup (r.map V.int))
abbrev RowsAt := Ps RowAt
def TabAt (H : Hp) (a : Addr) (rows : List Ch) : Prop := ∃ as : List Addr, H a = some (.tup (as.map V.ref)) ∧ RowsAt H as rows
abbrev TabsAt := Ps TabAt
theorem RowsAt.kt {H H' : Hp} {ts : List Addr} {xs : List Ch} (k : KeepT H H') (h : RowsAt H ts xs) : RowsAt H' ts xs := h.keep fun _ _ e => k _ _ e
theorem TabAt.kt {H H' : Hp} {a : Addr} {rows : List Ch} (k : KeepT H H') (h : TabAt H a rows) : TabAt H' a rows := by
  obtain ⟨as, h1, h2⟩ := h
  exact ⟨as, k _ _ h1, RowsAt.kt k h2⟩
theorem TabsAt.kt {H H' : Hp} {ts : List Addr} {xs : List (List Ch)} (k : KeepT H H') (h : TabsAt H ts xs) : TabsAt H' ts xs := h.keep fun _ _ e => e.kt k
theorem ref_at {ts : List Addr} {i : Nat} {x : V} (h : (ts.map V.ref)[i]? = some x) : ∃ t, ts[i]? = some t ∧ x = .ref t := by
  rw [List.getElem?_map] at h
  obtain ⟨t, e, rfl⟩ := Option.map_eq_some_iff.mp h
  exact ⟨t, e, rfl⟩
theorem getD_at {α : Type} {r : List α} {j : Nat} {x d : α} (h : r[j]? = some x) : r.getD j d = x := by
  rw [List.getD_eq_getElem?_getD, h]
  rfl
theorem at_getD {r : List Int} {j : Nat} (h : j < r.length) : (r.map V.int)[j]? = some (.int (r.getD j 0)) := by
  rw [List.getElem?_map, List.getElem?_eq_getElem h, List.getD_eq_getElem?_getD, List.getElem?_eq_getElem h]
  rfl
theorem two {c : Ch} (h : c.length = 2) : c = [p0 c, p1 c] := by
  match c, h with
  | [_, _], _ => rfl
theorem cut_take (xs : List V) (n : Nat) : cutV xs none (some (n : Int)) = xs.take n := by
  unfold cutV
  show (xs.drop 0).take (HT.sIx xs.length xs.length (some (n : Int)) - 0) = xs.take n
  rw [HT.sIx_nat, List.drop_zero, Nat.sub_zero, List.take_eq_take_iff]
  omega
theorem cut_drop (xs : List V) (n : Nat) : cutV xs (some (n : Int)) none = xs.drop n := by
  unfold cutV
  show (xs.drop (HT.sIx xs.length 0 (some (n : Int)))).take (xs.length - HT.sIx xs.length 0 (some (n : Int))) = xs.drop n
  rw [HT.sIx_nat]
  by_cases h : n ≤ xs.length
  · rw [Nat.min_eq_left h, List.take_of_length_le (by rw [List.length_drop]; exact Nat.le_refl _)]
  · rw [Nat.min_eq_right (by omega), List.drop_length, List.drop_of_length_le (by omega), List.take_nil]
theorem sl_take {K : PySem.W.Frag} {H : Hp} {Q : VK} {a : Addr} {xs : List V} {n : Nat} (hx : H a = some (.tup xs)) (q : ∀ (p : Addr) (H' : Hp), Same H H' → H' p = some (.tup (xs.take n)) → Q (.ref p) H') : rSlA K (.ref a) none (some (n : Int)) H Q := by
  refine ⟨a, xs, rfl, SqT.of hx, fun ⟨_, h⟩ => ?_, fun _ p hp => ?_⟩
  · refine q a H (.refl _) ?_
    rw [HT.sIx_nat] at h
    rw [hx, List.take_of_length_le (by omega)]
  · refine q p _ (same_upd hp) ?_
    rw [upd_same, cut_take]
theorem sl_drop {K : PySem.W.Frag} {H : Hp} {Q : VK} {a : Addr} {xs : List V} {n : Nat} (hx : H a = some (.tup xs)) (q : ∀ (p : Addr) (H' : Hp), Same H H' → H' p = some (.tup (xs.drop n)) → Q (.ref p) H') : rSlA K (.ref a) (some (n : Int)) none H Q := by
  refine ⟨a, xs, rfl, SqT.of hx, fun ⟨h, _⟩ => ?_, fun _ p hp => ?_⟩
  · refine q a H (.refl _) ?_
    rw [HT.sIx_nat] at h
    rw [hx]
    by_cases h0 : n = 0
    · rw [h0, List.drop_zero]
    · have : xs.length = 0 := by omega
      rw [List.eq_nil_of_length_eq_zero this, List.drop_nil]
  · refine q p _ (same_upd hp) ?_
    rw [upd_same, cut_drop]
theorem cat_refs {K : PySem.W.Frag} {H : Hp} {Q : VK} {a b : Addr} {x y : List V} (hx : H a = some (.tup x)) (hy : H b = some (.tup y)) (lx : x.length ≤ 500) (ly : y.length ≤ 500) (q : ∀ (p : Addr) (H' : Hp), Same H H' → H' p = some (.tup (x ++ y)) → Q (.ref p) H') : rCatA K (.ref a) (.ref b) H Q := by
  refine ⟨a, b, _, _, rfl, rfl, SqT.of hx, SqT.of hy, Nat.le_of_lt (small1000 (by omega)), fun e => ?_, fun _ e => ?_, fun _ _ p hp => ?_⟩
  · subst e
    exact q b H (.refl _) hy
  · subst e
    refine q a H (.refl _) ?_
    rw [List.append_nil]
    exact hx
  · refine q p _ (same_upd hp) ?_
    rw [upd_same]
/-! ### as data -/
def tabD (c : List Ch) : PyData := .tuple (c.map rowD)
theorem tabD_lay (c : List Ch) : (tabD c).canLay0 = true := all_lay rowD_lay c
theorem tabD_eqv (a b : List Ch) : PyData.eqv (tabD a) (tabD b) = decide (a = b) := all_eqv rowD_eqv a b
theorem tabD_depth (c : List Ch) : (tabD c).depth ≤ 3 := by
  have := all_depth (d := rowD) rowD_depth c
  unfold tabD PyData.depth
  omega
theorem any_eqv {α : Type} [DecidableEq α] {d : α → PyData} (h : ∀ a b, PyData.eqv (d a) (d b) = decide (a = b)) (l : List α) (x : α) : ((l.map d).any fun z => PyData.eqv z (d x)) = true ↔ x ∈ l := by
  rw [List.any_map, List.any_eq_true]
  constructor
  · rintro ⟨y, hy, e⟩
    have e : PyData.eqv (d y) (d x) = true := e
    rw [h] at e
    rw [← of_decide_eq_true e]
    exact hy
  · intro hx
    refine ⟨x, hx, ?_⟩
    show PyData.eqv (d x) (d x) = true
    rw [h]
    exact decide_eq_true rfl
theorem shaped_row (p : Ch) : SeqAt.shaped (rowD p) = true := shaped_tup (ints_lay p) (Nat.le_trans (ints_depth p) (by decide))
theorem shaped_tab (c : List Ch) : SeqAt.shaped (tabD c) = true := shaped_tup (all_lay rowD_lay c) (Nat.le_trans (all_depth rowD_depth c) (by decide))
theorem shaped_tabs (l : List (List Ch)) : SeqAt.shaped (.list (l.map tabD)) = true := shaped_lst (all_lay tabD_lay l) (Nat.le_trans (all_depth tabD_depth l) (by decide))
theorem dp_row {K : PySem.W.Frag} {H : Hp} {b : Addr} {p : Ch} (h : RowAt H b p) : Dp K H (.ref b) (rowD p) := .tup (SqT.of h) (dp_ints p)
theorem dp_rows {K : PySem.W.Frag} {H : Hp} : ∀ {ts : List Addr} {c : List Ch}, RowsAt H ts c → DpAll K H (ts.map V.ref) (c.map rowD)
  | [], [], _ => .nil
  | [], _ :: _, h => absurd h.1 (by simp)
  | _ :: _, [], h => absurd h.1 (by simp)
  | t :: ts, p :: c, h => .cons (dp_row h.tail.1) (dp_rows h.tail.2)
theorem dp_tab {K : PySem.W.Frag} {H : Hp} {a : Addr} {c : List Ch} (h : TabAt H a c) : Dp K H (.ref a) (tabD c) := let ⟨_, h1, h2⟩ := h; .tup (SqT.of h1) (dp_rows h2)
theorem dp_tabs {K : PySem.W.Frag} {H : Hp} : ∀ {ts : List Addr} {l : List (List Ch)}, TabsAt H ts l → DpAll K H (ts.map V.ref) (l.map tabD)
  | [], [], _ => .nil
  | [], _ :: _, h => absurd h.1 (by simp)
  | _ :: _, [], h => absurd h.1 (by simp)
  | t :: ts, p :: c, h => .cons (dp_tab h.tail.1) (dp_tabs h.tail.2)
end Bw
set_option Elab.async false
set_option linter.all false
set_option maxRecDepth 100000
set_option maxHeartbeats 4000000
namespace Bw
open PySem PySem.Spec PyProof.Rows L2
theorem two' {c : Ch} (h : c.length = 2) : ∃ x y : Int, c = [x, y] := ⟨_, _, two h⟩
/-- a list that is being filled -/
def LA {α : Type} (P : Hp → Addr → α → Prop) (H0 H' : Hp) (D : Addr) (xs : List α) : Prop := ∃ ts : List Addr, H' D = some (.lst (ts.map V.ref)) ∧ Ps P H' ts xs ∧ Same H0 H'
section
variable {α : Type} {P : Hp → Addr → α → Prop}
def Steady (P : Hp → Addr → α → Prop) : Prop := ∀ H H' t x, KeepT H H' → P H t x → P H' t x
theorem steady_row : Steady RowAt := fun _ _ _ _ k h => k _ _ h
theorem steady_tab : Steady TabAt := fun _ _ _ _ k h => h.kt k
theorem LA.zero {H0 : Hp} {D : Addr} (eD : H0 D = none) : LA P H0 (upd H0 D (.lst [])) D [] := ⟨[], upd_same, .nil, same_upd eD⟩
theorem LA.stay {H0 H1 : Hp} {D : Addr} {xs : List α} (h : LA P H0 H1 D xs) : Same H0 H1 := let ⟨_, _, _, s⟩ := h; s
theorem LA.more {H0 H1 H2 : Hp} {D : Addr} {xs : List α} (st : Steady P) (h : LA P H0 H1 D xs) (s : Same H1 H2) : LA P H0 H2 D xs := by
  obtain ⟨ts, e, hp, s0⟩ := h
  exact ⟨ts, s _ _ e, hp.keep fun _ _ k => st _ _ _ _ (.of s) k, s0.trans s⟩
theorem LA.push {H0 H1 H2 : Hp} {D z : Addr} {xs : List α} {x : α} (st : Steady P) (eD : H0 D = none) (h : LA P H0 H1 D xs) (s : Same H1 H2) (hz : P H2 z x) (l : xs.length ≤ 1000) :
    ∃ acc, H2 D = some (.lst acc) ∧ acc.length < sizeLine ∧ LA P H0 (upd H2 D (.lst (acc ++ [.ref z]))) D (xs ++ [x]) := by
  obtain ⟨ts, e, hp, s0⟩ := h
  have e2 := s _ _ e
  refine ⟨_, e2, by rw [List.length_map, hp.1]; exact small1000 l, ts ++ [z], by rw [upd_same, List.map_append]; rfl, ?_, Same.updN (s0.trans s) eD⟩
  exact ((hp.keep fun _ _ k => st _ _ _ _ (.of s) k).snoc hz).keep fun _ _ k => st _ _ _ _ (.put e2) k
end
section
variable {P : Program} {w : World} {K : PySem.W.Frag} {mg : Str → Option Value} {base : Heap}
abbrev s_is_number : Stmt := topS 8
abbrev n_is_number : List Str := ["thing"]
theorem sc_is_number : FnScope n_is_number ["thing"] (defScope s_is_number) := ⟨rfl, rfl, rfl, by decide +kernel, rfl, by decide +kernel, by decide +kernel⟩
def spIsNum : Sp := fun vs H Q _ => ∃ i : Int, vs = [.int i] ∧ Q (.bl true) H
theorem ok_isnum {f : Addr} {fd : FuncData} {k : Nat} (F : Fun K "is_number" "is_number" s_is_number f fd) (T : Tx mg) : FnOk P w K mg base CX0 (k + 1) f fd ["thing"] spIsNum := by
  refine F.ok sc_is_number (fun vs H Q E h => ?_) (fun cdv A outer s H vs Q E hr h => ?_)
  · obtain ⟨i, rfl, _⟩ := h
    rfl
  · obtain ⟨i, rfl, q⟩ := h
    refine ⟨_, (pss_one (ps_ret (pe_and (pe_callB (c_isi (K := K)) (by rfl) T.isinstance (by decide +kernel) (pa_cons (pv 0) (pa_cons (pe_bltn (v := .ty "int") (by rfl) T.int (by decide +kernel) rfl) pa_nil))) (pe_one (pe_not (pe_callB (c_isi (K := K)) (by rfl) T.isinstance (by decide +kernel) (pa_cons (pv 0) (pa_cons (pe_bltn (v := .ty "bool") (by rfl) T.bool (by decide +kernel) rfl) pa_nil)))))))), ?_⟩
    refine ⟨.int i, rfl, _, _, _, _, true, rfl, .ty "int", .base (.int i), kit_ty (by decide +kernel), true, rfl, ?_⟩
    exact ⟨.int i, rfl, _, _, _, _, false, rfl, .ty "bool", .base (.int i), kit_ty (by decide +kernel), false, rfl, q⟩
abbrev s_is_polygon : Stmt := topS 15
abbrev n_is_polygon : List Str := ["corners"]
theorem sc_is_polygon : FnScope n_is_polygon ["corners"] (defScope s_is_polygon) := ⟨rfl, rfl, rfl, by decide +kernel, rfl, by decide +kernel, by decide +kernel⟩
def spPoly : Sp := fun vs H Q _ => ∃ i : Int, vs = [.int i] ∧ Q (.bl (polyB i)) H
theorem ok_poly {f : Addr} {fd : FuncData} (F : Fun K "is_polygon" "is_polygon" s_is_polygon f fd) (T : Tx mg) (c_is_number : Cal P w K mg base CX0 1 "is_number" ["thing"] spIsNum) : FnOk P w K mg base CX0 2 f fd ["corners"] spPoly := by
  refine F.ok sc_is_polygon (fun vs H Q E h => ?_) (fun cdv A outer s H vs Q E hr h => ?_)
  · obtain ⟨i, rfl, _⟩ := h
    rfl
  · obtain ⟨i, rfl, q⟩ := h
    refine ⟨_, (pss_one (ps_ret (pe_and (pe_cal c_is_number hr (by rfl) (pa_cons (pv 0) pa_nil)) (pe_one (pe_chain op_le op_le (pe_gint (by rfl) T.LEAST_CORNERS) (pv 0) (pe_gint (by rfl) T.MOST_CORNERS)))))), ?_⟩
    refine ⟨.int i, rfl, i, rfl, true, rfl, .int i, rfl, _, _, rfl, rfl, _, rfl, ite2 (fun e => ?_) (fun e => ?_)⟩
    · have e := of_decide_eq_true e
      refine ⟨_, _, rfl, rfl, ?_⟩
      have : polyB i = decide (i ≤ 7) := decide_eq_decide.mpr ⟨fun z => z.2, fun z => ⟨e, z⟩⟩
      rw [this] at q
      exact q
    · have : polyB i = false := decide_eq_false fun z => e (decide_eq_true z.1)
      rw [this] at q
      exact q
abbrev s_is_side : Stmt := topS 17
abbrev n_is_side : List Str := ["corners", "pair", "low", "high"]
theorem sc_is_side : FnScope n_is_side ["corners", "pair"] (defScope s_is_side) := ⟨rfl, rfl, rfl, by decide +kernel, rfl, by decide +kernel, by decide +kernel⟩
def spSide : Sp := fun vs H Q _ => ∃ (n : Int) (a : Addr) (p : Ch), vs = [.int n, .ref a] ∧ RowAt H a p ∧ p.length = 2 ∧ ∀ H', Same H H' → Q (.bl (sideB n p)) H'
theorem in_two (d x y : Int) : inV (.int d) [.int x, .int y] = (decide (d = x) || decide (d = y)) := by
  unfold inV
  show ((x == d) || ((y == d) || false)) = _
  rw [Bool.or_false]
  congr 1
  · rw [Bool.eq_iff_iff, beq_iff_eq, decide_eq_true_iff]
    exact ⟨fun h => h.symm, fun h => h.symm⟩
  · rw [Bool.eq_iff_iff, beq_iff_eq, decide_eq_true_iff]
    exact ⟨fun h => h.symm, fun h => h.symm⟩
theorem ok_side {f : Addr} {fd : FuncData} {k : Nat} (F : Fun K "is_side" "is_side" s_is_side f fd) (T : Tx mg) : FnOk P w K mg base CX0 (k + 1) f fd ["corners", "pair"] spSide := by
  refine F.ok sc_is_side (fun vs H Q E h => ?_) (fun cdv A outer s H vs Q E hr h => ?_)
  · obtain ⟨n, a, p, rfl, _⟩ := h
    rfl
  · obtain ⟨n, a, p, rfl, hp, lp, q⟩ := h
    refine ⟨_, (pss_cons (ps_asg (pv 1) (g_tup (K := K) (n := 2) rfl (pgs_cons (pg_name (i := 2) sc_is_side.nd rfl (.inl rfl)) (pgs_cons (pg_name (i := 3) sc_is_side.nd rfl (.inl rfl)) pgs_nil))))
  (pss_one (ps_ret (pe_cmpR (o_in (K := K)) (pe_op op_sub (pv 3) (pv 2)) (pe_tup (pa_cons pe_int (pa_cons (pe_op op_sub (pv 0) pe_int) pa_nil))) (by rfl))))), ?_⟩
    obtain ⟨x, y, rfl⟩ := two' lp
    refine ⟨.ref a, rfl, a, [.int x, .int y], rfl, SqT.of hp, rfl, _, _, rfl, _, _, rfl, rfl, ?_⟩
    refine ⟨.int y, rfl, .int x, rfl, _, _, rfl, rfl, .int n, rfl, _, _, rfl, rfl, by show 2 ≤ sizeLine; decide, fun t et => ?_⟩
    refine ⟨t, _, rfl, .inr (SqT.of upd_same), rfl, rfl, ?_⟩
    show Q (.bl (inV (.int (y - x)) [.int 1, .int (n - 1)])) _
    rw [in_two]
    exact q _ (same_upd et)
abbrev s_crosses : Stmt := topS 19
abbrev n_crosses : List Str := ["one", "other"]
theorem sc_crosses : FnScope n_crosses ["one", "other"] (defScope s_crosses) := ⟨rfl, rfl, rfl, by decide +kernel, rfl, by decide +kernel, by decide +kernel⟩
def spCross : Sp := fun vs H Q _ => ∃ (a b : Addr) (p q : Ch), vs = [.ref a, .ref b] ∧ RowAt H a p ∧ p.length = 2 ∧ RowAt H b q ∧ q.length = 2 ∧ Q (.bl (crossB p q)) H
theorem ix0 {K : PySem.W.Frag} {H : Hp} {a : Addr} {x y : Int} (h : RowAt H a [x, y]) {Q : VK} (q : Q (.int x) H) : rIxT K (.ref a) (.int 0) H Q := ⟨a, _, 0, .int x, rfl, rfl, SqT.of h, rfl, q⟩
theorem ix1 {K : PySem.W.Frag} {H : Hp} {a : Addr} {x y : Int} (h : RowAt H a [x, y]) {Q : VK} (q : Q (.int y) H) : rIxT K (.ref a) (.int 1) H Q := ⟨a, _, 1, .int y, rfl, rfl, SqT.of h, rfl, q⟩
abbrev rLtI : R2 := rI0 fun i j => V.bl (decide (i < j))
theorem chain_rows {K : PySem.W.Frag} {σ : L2.St} {H : Hp} {Q : VK} {i j : Nat} {a b : Addr} {x y u v : Int} (hi : σ[i]? = some (some (.ref a))) (hj : σ[j]? = some (some (.ref b))) (ha : RowAt H a [x, y]) (hb : RowAt H b [u, v])
    (q : Q (.bl (decide (x < u) && (decide (u < y) && decide (y < v)))) H) :
    tChain3 rLtI rLtI rLtI (tOp (rIxT K) (tVar i) (tC (.int 0))) (tOp (rIxT K) (tVar j) (tC (.int 0))) (tOp (rIxT K) (tVar i) (tC (.int 1))) (tOp (rIxT K) (tVar j) (tC (.int 1))) σ H Q := by
  refine ⟨.ref a, hi, a, _, 0, .int x, rfl, rfl, SqT.of ha, rfl, .ref b, hj, b, _, 0, .int u, rfl, rfl, SqT.of hb, rfl, _, _, rfl, rfl, _, rfl, ite2 (fun e1 => ?_) (fun e1 => ?_)⟩
  · refine ⟨.ref a, hi, a, _, 1, .int y, rfl, rfl, SqT.of ha, rfl, _, _, rfl, rfl, _, rfl, ite2 (fun e2 => ?_) (fun e2 => ?_)⟩
    · refine ⟨.ref b, hj, b, _, 1, .int v, rfl, rfl, SqT.of hb, rfl, _, _, rfl, rfl, ?_⟩
      rw [e1, e2] at q
      exact q
    · rw [e1, Bool.eq_false_iff.mpr e2] at q
      exact q
  · rw [Bool.eq_false_iff.mpr e1] at q
    exact q
theorem ok_cross {f : Addr} {fd : FuncData} {k : Nat} (F : Fun K "crosses" "crosses" s_crosses f fd) (T : Tx mg) : FnOk P w K mg base CX0 (k + 1) f fd ["one", "other"] spCross := by
  refine F.ok sc_crosses (fun vs H Q E h => ?_) (fun cdv A outer s H vs Q E hr h => ?_)
  · obtain ⟨a, b, p, q, rfl, _⟩ := h
    rfl
  · obtain ⟨a, b, p, r, rfl, hp, lp, hq, lq, q⟩ := h
    refine ⟨_, (pss_one (ps_ret (pe_or (pe_chain3 op_lt op_lt op_lt (pe_ix (i_tup (K := K)) (pv 0) pe_int (fun _ _ => rfl)) (pe_ix (i_tup (K := K)) (pv 1) pe_int (fun _ _ => rfl)) (pe_ix (i_tup (K := K)) (pv 0) pe_int (fun _ _ => rfl)) (pe_ix (i_tup (K := K)) (pv 1) pe_int (fun _ _ => rfl))) (pe_one (pe_chain3 op_lt op_lt op_lt (pe_ix (i_tup (K := K)) (pv 1) pe_int (fun _ _ => rfl)) (pe_ix (i_tup (K := K)) (pv 0) pe_int (fun _ _ => rfl)) (pe_ix (i_tup (K := K)) (pv 1) pe_int (fun _ _ => rfl)) (pe_ix (i_tup (K := K)) (pv 0) pe_int (fun _ _ => rfl))))))), ?_⟩
    obtain ⟨x, y, rfl⟩ := two' lp
    obtain ⟨u, v, rfl⟩ := two' lq
    refine chain_rows rfl rfl hp hq ⟨_, rfl, ite2 (fun e => ?_) (fun e => ?_)⟩
    · have : crossB [x, y] [u, v] = true := by
        unfold crossB
        rw [show (decide (p0 [x, y] < p0 [u, v]) && (decide (p0 [u, v] < p1 [x, y]) && decide (p1 [x, y] < p1 [u, v]))) = true from e, Bool.true_or]
      rw [this] at q
      exact q
    · refine chain_rows rfl rfl hq hp ?_
      have : crossB [x, y] [u, v] = (decide (u < x) && (decide (x < v) && decide (v < y))) := by
        unfold crossB
        rw [show (decide (p0 [x, y] < p0 [u, v]) && (decide (p0 [u, v] < p1 [x, y]) && decide (p1 [x, y] < p1 [u, v]))) = false from Bool.eq_false_iff.mpr e, Bool.false_or]
        rfl
      rw [this] at q
      exact q
end
end Bw
set_option Elab.async false
set_option linter.all false
set_option maxRecDepth 100000
set_option maxHeartbeats 4000000
namespace Bw
open PySem PySem.Spec PyProof.Rows L2
def BA (H0 H' : Hp) (D : Addr) (bs : List Bool) : Prop := H' D = some (.lst (bs.map V.bl)) ∧ Same H0 H'
theorem BA.zero {H0 : Hp} {D : Addr} (eD : H0 D = none) : BA H0 (upd H0 D (.lst [])) D [] := ⟨upd_same, same_upd eD⟩
theorem BA.push {H0 H1 H2 : Hp} {D : Addr} {bs : List Bool} {b : Bool} (eD : H0 D = none) (h : BA H0 H1 D bs) (s : Same H1 H2) (l : bs.length ≤ 1000) :
    ∃ acc, H2 D = some (.lst acc) ∧ acc.length < sizeLine ∧ BA H0 (upd H2 D (.lst (acc ++ [.bl b]))) D (bs ++ [b]) := by
  refine ⟨_, s _ _ h.1, by rw [List.length_map]; exact small1000 l, ?_, Same.updN (h.2.trans s) eD⟩
  rw [upd_same, List.map_append]
  rfl
theorem take_map {α β : Type} {xs : List α} {i : Nat} {x : α} (f : α → β) (h : xs[i]? = some x) : (xs.take (i + 1)).map f = (xs.take i).map f ++ [f x] := by
  rw [List.take_succ, h, List.map_append]
  rfl
theorem any_map {α : Type} {xs : List α} (f : α → Bool) : (xs.map f).any id = xs.any f := by
  rw [List.any_map]
  rfl
theorem all_map {α : Type} {xs : List α} (f : α → Bool) : (xs.map f).all id = xs.all f := by
  rw [List.all_map]
  rfl
theorem le_two (x y u v : Int) : Ob.lexAt (fun j => decide (([x, y] : List Int).getD j 0 = ([u, v] : List Int).getD j 0)) (fun j => decide (([x, y] : List Int).getD j 0 ≤ ([u, v] : List Int).getD j 0)) (decide (([x, y] : List Int).length ≤ ([u, v] : List Int).length)) 0 (min ([x, y] : List Int).length ([u, v] : List Int).length) = leB [x, y] [u, v] := by
  unfold leB
  show Ob.lexAt _ _ _ 0 2 = _
  unfold Ob.lexAt Ob.lexAt Ob.lexAt
  show (if decide (x = u) = true then (if decide (y = v) = true then true else decide (y ≤ v)) else decide (x ≤ u)) = !(if u = x then (if v = y then false else decide (v < y)) else decide (u < x))
  by_cases h1 : x = u
  · subst h1
    rw [decide_eq_true rfl, if_pos rfl, if_pos rfl]
    by_cases h2 : y = v
    · subst h2
      rw [decide_eq_true rfl, if_pos rfl, if_pos rfl]
      rfl
    · rw [decide_eq_false h2, if_neg Bool.false_ne_true, if_neg (fun z => h2 z.symm), ← decide_not]
      exact decide_eq_decide.mpr (by omega)
  · rw [decide_eq_false h1, if_neg Bool.false_ne_true, if_neg (fun z => h1 z.symm), ← decide_not]
    exact decide_eq_decide.mpr (by omega)
theorem last_at {α : Type} {xs : List α} {x : α} (h : xs[xs.length - 1]? = some x) (h0 : 0 < xs.length) : atI xs (-1) = some x := by
  unfold atI ixN
  rw [if_neg (by decide), if_pos (by omega)]
  show xs[((-1 : Int) + (xs.length : Int)).toNat]? = some x
  rw [show ((-1 : Int) + (xs.length : Int)).toNat = xs.length - 1 by omega]
  exact h
section
variable {P : Program} {w : World} {K : PySem.W.Frag} {mg : Str → Option Value} {base : Heap}
abbrev s_fits_behind : Stmt := topS 20
abbrev n_fits_behind : List Str := ["chord", "row", "other"]
theorem sc_fits_behind : FnScope n_fits_behind ["chord", "row"] (defScope s_fits_behind) := ⟨rfl, rfl, rfl, by decide +kernel, rfl, by decide +kernel, by decide +kernel⟩
def spFits : Sp := fun vs H Q _ => ∃ (a b : Addr) (p : Ch) (row : List Ch), vs = [.ref a, .ref b] ∧ RowAt H a p ∧ p.length = 2 ∧ TabAt H b row ∧ (∀ r ∈ row, r.length = 2) ∧ row.length ≤ 100 ∧ ∀ H', Same H H' → Q (.bl (fitsB p row)) H'
theorem ok_fits {f : Addr} {fd : FuncData} (F : Fun K "fits_behind" "fits_behind" s_fits_behind f fd) (T : Tx mg) (c_crosses : Cal P w K mg base CX0 1 "crosses" ["one", "other"] spCross) : FnOk P w K mg base CX0 2 f fd ["chord", "row"] spFits := by
  refine F.ok sc_fits_behind (fun vs H Q E h => ?_) (fun cdv A outer s H vs Q E hr h => ?_)
  · obtain ⟨a, b, p, row, rfl, _⟩ := h
    rfl
  · obtain ⟨a, b, p, row, rfl, hp, lp, ⟨as, hb, hR⟩, h2, l100, q⟩ := h
    refine ⟨_, (C8.pss_cut (ps_if (PW.pt (pw_and (pt_cmpR op_gt (pe_callB (c_len (K := K)) (by rfl) T.len PySem.boot_len (pa_cons (pv 1) pa_nil)) pe_int (nomark _)) (pw_and1 (pt_cmpR (o_leT (K := K) hr.units0) (pv 0) (pe_ix (i_tup (K := K)) (pv 1) (pe_un un_neg pe_int) (fun _ _ => rfl)) (nomark _)))))
    (pss_one (ps_ret pe_bl))
    pss_nil)
  (pss_one (ps_ret (pe_not (pe_callB (c_any (K := K) rfl) (by rfl) T.any (by decide +kernel) (pa_cons (pe_lc (own := [("other", 2)]) (by rfl) sc_fits_behind.nd (p_tup (K := K) (pv 1)) (blkOk_by (own := [("other", 2)]) (N := n_fits_behind) (sc := defScope s_fits_behind) (by decide +kernel)) (fun _ _ _ _ _ => (pg_name (i := 2) sc_fits_behind.nd rfl (.inl rfl))) (fun _ _ _ _ _ => pts_nil) (fun _ _ _ _ _ => (pe_cal c_crosses hr (by rfl) (pa_cons (pv 0) (pa_cons (pv 2) pa_nil))))) pa_nil)))))), ?_⟩
    have las : as.length = row.length := hR.1
    refine ⟨fun σ H2 => σ = [some (.ref a), some (.ref b), none] ∧ H2 = H ∧ fitsB p row = !(row.any fun o => crossB p o), ?_, ?_⟩
    · refine ⟨.ref b, rfl, b, _, rfl, .inr (SqT.of hb), _, _, rfl, rfl, _, rfl, ite2 (fun e => ?_) (fun e => iteF ?_)⟩
      · have e := of_decide_eq_true e
        rw [List.length_map, las] at e
        have h0 : 0 < row.length := by omega
        have hi : row.length - 1 < row.length := by omega
        obtain ⟨t, et, ht⟩ := hR.2 (row.length - 1) _ (List.getElem?_eq_getElem hi)
        have el : row[row.length - 1] = lastD row := by
          unfold lastD
          rw [List.getD_eq_getElem?_getD, List.getElem?_eq_getElem hi]
          rfl
        have l2 := h2 _ (List.getElem_mem hi)
        rw [el] at ht l2
        have eat : atI (as.map V.ref) (-1) = some (.ref t) := by
          refine last_at ?_ (by rw [List.length_map, las]; exact h0)
          rw [List.length_map, las, List.getElem?_map, et]
          rfl
        have hle : ∀ z : Bool, leB p (lastD row) = z → fitsB p row = if z = true then false else !(row.any fun o => crossB p o) := fun z ez => by
          unfold fitsB
          rw [decide_eq_true h0, Bool.true_and, ez]
        generalize lastD row = la at ht l2 hle
        obtain ⟨x, y, rfl⟩ := two' lp
        obtain ⟨u, v, rfl⟩ := two' l2
        refine ⟨.ref a, rfl, .ref b, rfl, 1, rfl, b, _, -1, .ref t, rfl, rfl, SqT.of hb, eat, a, t, [x, y], [u, v], rfl, rfl, SqT.of hp, SqT.of ht, ?_⟩
        rw [le_two]
        refine ⟨_, rfl, ite2 (fun e2 => ?_) (fun e2 => ?_)⟩
        · have z := q H (.refl _)
          rw [hle _ e2, if_pos rfl] at z
          exact z
        · exact ⟨rfl, rfl, by rw [hle _ (Bool.eq_false_iff.mpr e2), if_neg Bool.false_ne_true]⟩
      · refine ⟨rfl, rfl, ?_⟩
        unfold fitsB
        have e : ¬ 0 < row.length := fun z => e (decide_eq_true (by rw [List.length_map, las]; omega))
        rw [decide_eq_false e, Bool.false_and, if_neg Bool.false_ne_true]
    · rintro σ H2 ⟨rfl, rfl, ef⟩
      rw [ef] at q
      refine ⟨.ref b, rfl, b, rfl, ⟨_, SqT.of hb⟩, fun D eD => ?_⟩
      refine lc_tup (K := K) (a := b) (xs := as.map V.ref) (fun i H' => BA H2 H' D ((row.take i).map fun o => crossB p o)) (BA.zero eD) (fun i H' _ hA => SqT.of (hA.2 _ _ hb)) ?_ ?_
      · rintro i v H1 hv hA
        obtain ⟨t, et, rfl⟩ := ref_at hv
        obtain ⟨r, er, hr'⟩ := hR.at et
        have hi := (List.getElem?_eq_some_iff.mp er).1
        refine ⟨rfl, .ref a, rfl, .ref t, rfl, a, t, p, r, rfl, hA.2 _ _ hp, lp, hA.2 _ _ hr', h2 r (List.mem_of_getElem? er), ?_⟩
        rw [take_map _ er]
        exact hA.push eD (.refl _) (by rw [List.length_map, List.length_take]; omega)
      · rintro H1 hA
        rw [List.length_map, las, List.take_length] at hA
        refine ⟨D, _, rfl, SqL.of hA.1, _, rfl, ?_⟩
        rw [any_map]
        exact q _ hA.2
end
end Bw
set_option Elab.async false
set_option linter.all false
set_option maxRecDepth 100000
set_option maxHeartbeats 4000000
namespace Bw
open PySem PySem.Spec PyProof.Rows L2
section
variable {P : Program} {w : World} {K : PySem.W.Frag} {mg : Str → Option Value} {base : Heap}
abbrev s_is_chord : Stmt := topS 22
abbrev n_is_chord : List Str := ["corners", "pair", "corner"]
theorem sc_is_chord : FnScope n_is_chord ["corners", "pair"] (defScope s_is_chord) := ⟨rfl, rfl, rfl, by decide +kernel, rfl, by decide +kernel, by decide +kernel⟩
def spIsCh : Sp := fun vs H Q _ => ∃ (n : Int) (a : Addr) (p : Ch), vs = [.int n, .ref a] ∧ RowAt H a p ∧ p.length = 2 ∧ ∀ H', Same H H' → Q (.bl (chordB n p)) H'
theorem ok_isch {f : Addr} {fd : FuncData} (F : Fun K "is_chord" "is_chord" s_is_chord f fd) (T : Tx mg) (c_is_number : Cal P w K mg base CX0 1 "is_number" ["thing"] spIsNum) (c_is_side : Cal P w K mg base CX0 1 "is_side" ["corners", "pair"] spSide) : FnOk P w K mg base CX0 2 f fd ["corners", "pair"] spIsCh := by
  refine F.ok sc_is_chord (fun vs H Q E h => ?_) (fun cdv A outer s H vs Q E hr h => ?_)
  · obtain ⟨n, a, p, rfl, _⟩ := h
    rfl
  · obtain ⟨n, a, p, rfl, hp, lp, q⟩ := h
    refine ⟨_, (pss_cons (ps_if (PW.pt (pw_or (pt_not (pt_val (pe_callB (c_isi (K := K)) (by rfl) T.isinstance (by decide +kernel) (pa_cons (pv 1) (pa_cons (pe_bltn (v := .ty "tuple") (by rfl) T.tuple (by decide +kernel) rfl) pa_nil))))) (pw_or (pt_cmpR op_ne (pe_callB (c_len (K := K)) (by rfl) T.len PySem.boot_len (pa_cons (pv 1) pa_nil)) pe_int (nomark _)) (pw_or1 (pt_not (pt_val (pe_callB (c_all (K := K) rfl) (by rfl) T.all (by decide +kernel) (pa_cons (pe_lc (own := [("corner", 2)]) (by rfl) sc_is_chord.nd (p_tup (K := K) (pv 1)) (blkOk_by (own := [("corner", 2)]) (N := n_is_chord) (sc := defScope s_is_chord) (by decide +kernel)) (fun _ _ _ _ _ => (pg_name (i := 2) sc_is_chord.nd rfl (.inl rfl))) (fun _ _ _ _ _ => pts_nil) (fun _ _ _ _ _ => (pe_cal c_is_number hr (by rfl) (pa_cons (pv 2) pa_nil)))) pa_nil))))))))
    (pss_one (ps_ret pe_bl))
    pss_nil)
  (pss_one (ps_ret (pe_and (pe_chain3 op_le op_lt op_lt pe_int (pe_ix (i_tup (K := K)) (pv 1) pe_int (fun _ _ => rfl)) (pe_ix (i_tup (K := K)) (pv 1) pe_int (fun _ _ => rfl)) (pv 0)) (pe_one (pe_not (pe_cal c_is_side hr (by rfl) (pa_cons (pv 0) (pa_cons (pv 1) pa_nil))))))))), ?_⟩
    obtain ⟨x, y, rfl⟩ := two' lp
    refine ⟨.ref a, rfl, _, _, _, _, true, rfl, .ty "tuple", .base (.tup hp), kit_ty (by decide +kernel), true, rfl, ?_⟩
    refine iteF ⟨.ref a, rfl, a, [.int x, .int y], rfl, .inr (SqT.of hp), rfl, _, rfl, ite2 (fun e => absurd e (by show ¬ ((!decide (V.int ((2 : Nat) : Int) = V.int 2)) = true); decide)) (fun _ => ?_)⟩
    refine ⟨.ref a, rfl, a, rfl, ⟨_, SqT.of hp⟩, fun D eD => ?_⟩
    refine lc_tup (K := K) (a := a) (xs := ([x, y] : List Int).map V.int) (fun i H' => BA H H' D ((([x, y] : List Int).take i).map fun _ => true)) (BA.zero eD) (fun i H' _ hA => SqT.of (hA.2 _ _ hp)) ?_ ?_
    · rintro i v H1 hv hA
      obtain ⟨z, ez, rfl⟩ := int_at hv
      refine ⟨rfl, .int z, rfl, z, rfl, ?_⟩
      rw [take_map _ ez]
      exact hA.push eD (.refl _) (by rw [List.length_map, List.length_take]; show min i 2 ≤ 1000; omega)
    · rintro H1 hA
      refine ⟨D, _, rfl, SqL.of hA.1, true, rfl, iteF ?_⟩
      have s1 := hA.2
      have h1 := s1 _ _ hp
      have two0 : chordB n [x, y] = (decide (0 ≤ x) && (decide (x < y) && (decide (y < n) && !sideB n [x, y]))) := rfl
      refine ⟨.ref a, rfl, a, _, 0, .int x, rfl, rfl, SqT.of h1, rfl, _, _, rfl, rfl, _, rfl, ite2 (fun e1 => ?_) (fun e1 => ?_)⟩
      · refine ⟨.ref a, rfl, a, _, 1, .int y, rfl, rfl, SqT.of h1, rfl, _, _, rfl, rfl, _, rfl, ite2 (fun e2 => ?_) (fun e2 => ?_)⟩
        · refine ⟨.int n, rfl, _, _, rfl, rfl, _, rfl, ite2 (fun e3 => ?_) (fun e3 => ?_)⟩
          · refine ⟨.int n, rfl, .ref a, rfl, n, a, [x, y], rfl, h1, rfl, fun H2 s2 => ⟨_, rfl, ?_⟩⟩
            have z := q _ (s1.trans s2)
            rw [two0, e1, e2, e3] at z
            exact z
          · have z := q _ s1
            rw [two0, e1, e2, Bool.eq_false_iff.mpr e3] at z
            exact z
        · refine ⟨false, rfl, ?_⟩
          have z := q _ s1
          rw [two0, e1, Bool.eq_false_iff.mpr e2] at z
          exact z
      · refine ⟨false, rfl, ?_⟩
        have z := q _ s1
        rw [two0, Bool.eq_false_iff.mpr e1] at z
        exact z
abbrev s_is_cut : Stmt := topS 23
abbrev n_is_cut : List Str := ["corners", "chords", "chord", "at"]
theorem sc_is_cut : FnScope n_is_cut ["corners", "chords"] (defScope s_is_cut) := ⟨rfl, rfl, rfl, by decide +kernel, rfl, by decide +kernel, by decide +kernel⟩
def spIsCut : Sp := fun vs H Q _ => ∃ (n : Int) (a : Addr) (c : List Ch), vs = [.int n, .ref a] ∧ TabAt H a c ∧ (∀ p ∈ c, p.length = 2) ∧ c.length ≤ 100 ∧ ∀ H', Same H H' → Q (.bl (isCutB n c)) H'
theorem ok_iscut {f : Addr} {fd : FuncData} (F : Fun K "is_cut" "is_cut" s_is_cut f fd) (T : Tx mg) (c_is_polygon : Cal P w K mg base CX0 2 "is_polygon" ["corners"] spPoly) (c_is_chord : Cal P w K mg base CX0 2 "is_chord" ["corners", "pair"] spIsCh) (c_fits_behind : Cal P w K mg base CX0 2 "fits_behind" ["chord", "row"] spFits) : FnOk P w K mg base CX0 3 f fd ["corners", "chords"] spIsCut := by
  refine F.ok sc_is_cut (fun vs H Q E h => ?_) (fun cdv A outer s H vs Q E hr h => ?_)
  · obtain ⟨n, a, c, rfl, _⟩ := h
    rfl
  · obtain ⟨n, a, c, rfl, ⟨as, ha, hR⟩, h2, l100, q⟩ := h
    refine ⟨_, (C8.pss_cut (ps_if (PW.pt (pw_or (pt_not (pt_val (pe_cal c_is_polygon hr (by rfl) (pa_cons (pv 0) pa_nil)))) (pw_or (pt_not (pt_val (pe_callB (c_isi (K := K)) (by rfl) T.isinstance (by decide +kernel) (pa_cons (pv 1) (pa_cons (pe_bltn (v := .ty "tuple") (by rfl) T.tuple (by decide +kernel) rfl) pa_nil))))) (pw_or1 (pt_cmpR op_ne (pe_callB (c_len (K := K)) (by rfl) T.len PySem.boot_len (pa_cons (pv 1) pa_nil)) (pe_op op_sub (pv 0) pe_int) (nomark _))))))
    (pss_one (ps_ret pe_bl))
    pss_nil)
  (pss_cons (ps_if (pt_not (pt_val (pe_callB (c_all (K := K) rfl) (by rfl) T.all (by decide +kernel) (pa_cons (pe_lc (own := [("chord", 2)]) (by rfl) sc_is_cut.nd (p_tup (K := K) (pv 1)) (blkOk_by (own := [("chord", 2)]) (N := n_is_cut) (sc := defScope s_is_cut) (by decide +kernel)) (fun _ _ _ _ _ => (pg_name (i := 2) sc_is_cut.nd rfl (.inl rfl))) (fun _ _ _ _ _ => pts_nil) (fun _ _ _ _ _ => (pe_cal c_is_chord hr (by rfl) (pa_cons (pv 0) (pa_cons (pv 2) pa_nil))))) pa_nil))))
    (pss_one (ps_ret pe_bl))
    pss_nil)
  (pss_one (ps_ret (pe_callB (c_all (K := K) rfl) (by rfl) T.all (by decide +kernel) (pa_cons (pe_lc (own := [("at", 3), ("chord", 2)]) (by rfl) sc_is_cut.nd (p_enumT (K := K) (by rfl) T.enumerate (pa_cons (pv 1) pa_nil)) (blkOk_by (own := [("at", 3), ("chord", 2)]) (N := n_is_cut) (sc := defScope s_is_cut) (by decide +kernel)) (fun _ _ _ _ _ => (g_tup (K := K) (n := 2) rfl (pgs_cons (pg_name (i := 3) sc_is_cut.nd rfl (.inl rfl)) (pgs_cons (pg_name (i := 2) sc_is_cut.nd rfl (.inl rfl)) pgs_nil)))) (fun _ _ _ _ _ => pts_nil) (fun _ _ _ _ _ => (pe_cal c_fits_behind hr (by rfl) (pa_cons (pv 2) (pa_cons (pe_slice (l_tup (K := K)) (pv 1) po_none (po_some (pv 3))) pa_nil))))) pa_nil)))))), ?_⟩
    have las : as.length = c.length := hR.1
    refine ⟨fun σ H2 => σ = [some (.int n), some (.ref a), none, none] ∧ H2 = H ∧ isCutB n c = (c.all (chordB n) && fitsAll c), ?_, ?_⟩
    · refine ⟨.int n, rfl, n, rfl, ?_⟩
      cases ep : polyB n with
      | false =>
        refine ⟨false, rfl, iteT (iteT ?_)⟩
        have z := q _ (.refl _)
        rw [show isCutB n c = false by unfold isCutB; rw [ep]; rfl] at z
        exact z
      | true =>
        refine ⟨true, rfl, iteF ?_⟩
        refine ⟨.ref a, rfl, _, _, _, _, true, rfl, .ty "tuple", .base (.tup ha), kit_ty (by decide +kernel), true, rfl, iteF ?_⟩
        refine ⟨.ref a, rfl, a, _, rfl, .inr (SqT.of ha), .int n, rfl, _, _, rfl, rfl, rfl, _, rfl, ite2 (fun e => ?_) (fun e => ?_)⟩
        · have z := q _ (.refl _)
          rw [show isCutB n c = false by
            unfold isCutB
            have : ¬ (c.length : Int) = n - 3 := fun y => by
              rw [List.length_map, las, y] at e
              simp at e
            rw [ep, decide_eq_false this]
            rfl] at z
          exact z
        · refine ⟨rfl, rfl, ?_⟩
          unfold isCutB
          have : (c.length : Int) = n - 3 := Classical.byContradiction fun y => e (by
            rw [List.length_map, las]
            have : V.int (c.length : Int) ≠ V.int (n - 3) := fun z => y (V.int.inj z)
            simp [this])
          rw [ep, decide_eq_true this]
          rfl
    · rintro σ H2 ⟨rfl, rfl, ec⟩
      refine ⟨.ref a, rfl, a, rfl, ⟨_, SqT.of ha⟩, fun D eD => ?_⟩
      refine lc_tup (K := K) (a := a) (xs := as.map V.ref) (fun i H' => BA H2 H' D ((c.take i).map (chordB n))) (BA.zero eD) (fun i H' _ hA => SqT.of (hA.2 _ _ ha)) ?_ ?_
      · rintro i v H1 hv hA
        obtain ⟨t, et, rfl⟩ := ref_at hv
        obtain ⟨r, er, hr'⟩ := hR.at et
        refine ⟨rfl, .int n, rfl, .ref t, rfl, n, t, r, rfl, hA.2 _ _ hr', h2 r (List.mem_of_getElem? er), fun H3 s3 => ?_⟩
        rw [take_map _ er]
        exact hA.push eD s3 (by rw [List.length_map, List.length_take]; omega)
      · rintro H1 hA
        rw [List.length_map, las, List.take_length] at hA
        have s1 := hA.2
        refine ⟨D, _, rfl, SqL.of hA.1, ?_⟩
        rw [all_map]
        refine ⟨_, rfl, ?_⟩
        cases e1 : c.all (chordB n) with
        | false =>
          refine iteT ?_
          have z := q _ s1
          rw [ec, e1] at z
          exact z
        | true =>
          refine iteF ?_
          have ha1 := s1 _ _ ha
          have hR1 := RowsAt.kt (.of s1) hR
          refine ⟨.ref a, rfl, a, _, rfl, SqT.of ha1, fun D2 eD2 => ?_⟩
          refine lc_it (walk_enumT (K := K) (a := a) (xs := as.map V.ref)) (fun i H' => BA H1 H' D2 ((List.range i).map fun i => fitsB (c.getD i []) (c.take i))) (BA.zero eD2) (fun i H' _ hA => SqT.of (hA.2 _ _ ha1)) ?_ ?_
          · rintro i v H3 H3' hi hA ⟨U, x', y', rfl, eU, rfl, ex', ey'⟩
            cases (Option.some.inj ex')
            obtain ⟨t, et, rfl⟩ := ref_at ey'
            obtain ⟨r, er, hr'⟩ := hR1.at et
            have hi := (List.getElem?_eq_some_iff.mp er).1
            have sU := same_upd (o := .tup [.int (i : Nat), .ref t]) eU
            have s3 := hA.2.trans sU
            refine ⟨U, _, rfl, SqT.of upd_same, rfl, _, _, rfl, _, _, rfl, rfl, rfl, .ref t, rfl, .ref a, rfl, .int (i : Nat), rfl, i, rfl, sl_take (s3 _ _ ha1) fun b H4 s4 hb => ?_⟩
            refine ⟨t, b, r, c.take i, rfl, s4 _ _ (s3 _ _ hr'), h2 r (List.mem_of_getElem? er), ⟨as.take i, by rw [hb, List.map_take], RowsAt.kt (.of (s3.trans s4)) (hR1.take i)⟩, fun p hp => h2 p (List.mem_of_mem_take hp), by rw [List.length_take]; omega, fun H5 s5 => ?_⟩
            rw [List.range_succ, List.map_append]
            show ∃ acc, _ ∧ _ ∧ BA _ _ _ (_ ++ [fitsB (c.getD i []) (c.take i)])
            rw [getD_at er]
            exact hA.push eD2 ((sU.trans s4).trans s5) (by rw [List.length_map, List.length_range]; omega)
          · rintro H3 hA
            rw [List.length_map, las] at hA
            refine ⟨D2, _, rfl, SqL.of hA.1, ?_⟩
            rw [all_map]
            have z := q _ (s1.trans hA.2)
            rw [ec, e1, Bool.true_and] at z
            exact z
end
end Bw
set_option Elab.async false
set_option linter.all false
set_option maxRecDepth 100000
set_option maxHeartbeats 4000000
namespace Bw
open PySem PySem.Spec PyProof.Rows L2
theorem fm_len {α β : Type} {f : α → List β} {k : Nat} (h : ∀ a, (f a).length ≤ k) : ∀ l : List α, (l.flatMap f).length ≤ k * l.length
  | [] => by simp
  | a :: l => by
    rw [List.flatMap_cons, List.length_append, List.length_cons, Nat.mul_succ]
    have := fm_len h l
    have := h a
    omega
theorem fm_take {α β : Type} {f : α → List β} {l : List α} {j : Nat} {a : α} (h : l[j]? = some a) : (l.take (j + 1)).flatMap f = (l.take j).flatMap f ++ f a := by
  rw [List.take_succ, h, List.flatMap_append]
  show _ ++ List.flatMap f [a] = _
  rw [List.flatMap_singleton]
theorem rise_len (n : Nat) (r : Ch) : (riseOne n r).length ≤ n := by
  unfold riseOne
  rw [List.length_map]
  refine Nat.le_trans (List.length_filter_le _ _) ?_
  rw [List.length_range]
  exact Nat.le_refl _
theorem rise_succ (x : Nat) (r : Ch) : riseOne (x + 1) r = riseOne x r ++ (if (decide (r.length = 0) || decide (r.getD (r.length - 1) 0 < (x : Int))) = true then [r ++ [(x : Int)]] else []) := by
  unfold riseOne
  rw [List.range_succ, List.filter_append, List.map_append]
  congr 1
  by_cases h : (decide (r.length = 0) || decide (r.getD (r.length - 1) 0 < (x : Int))) = true
  · rw [if_pos h, List.filter_cons, if_pos h]
    rfl
  · rw [if_neg h, List.filter_cons, if_neg h]
    rfl
theorem rises_len {n : Nat} (h7 : n ≤ 7) : ∀ k, (rise n k).length ≤ 7 ^ k
  | 0 => Nat.le_refl 1
  | k + 1 => by
    have h1 := fm_len (f := riseOne n) (rise_len n) (rise n k)
    have h2 := rises_len h7 k
    show ((rise n k).flatMap (riseOne n)).length ≤ _
    rw [Nat.pow_succ]
    have h3 := Nat.mul_le_mul h7 h2
    omega
section
variable {P : Program} {w : World} {K : PySem.W.Frag} {mg : Str → Option Value} {base : Heap}
abbrev s_rising_corners : Stmt := topS 16
abbrev n_rising_corners : List Str := ["corners", "many", "rows", "step", "row", "corner"]
theorem sc_rising_corners : FnScope n_rising_corners ["corners", "many"] (defScope s_rising_corners) := ⟨rfl, rfl, rfl, by decide +kernel, rfl, by decide +kernel, by decide +kernel⟩
def spRise : Sp := fun vs H Q _ => ∃ (n m : Nat), vs = [.int n, .int m] ∧ n ≤ 7 ∧ m ≤ 2 ∧ ∀ (p : Addr) (ts : List Addr) (H' : Hp), Same H H' → H' p = some (.lst (ts.map V.ref)) → RowsAt H' ts (rise n m) → Q (.ref p) H'
theorem ok_rise {f : Addr} {fd : FuncData} {k : Nat} (F : Fun K "rising_corners" "rising_corners" s_rising_corners f fd) (T : Tx mg) : FnOk P w K mg base CX0 (k + 1) f fd ["corners", "many"] spRise := by
  refine F.ok sc_rising_corners (fun vs H Q E h => ?_) (fun cdv A outer s H vs Q E hr h => ?_)
  · obtain ⟨n, m, rfl, _⟩ := h
    rfl
  · obtain ⟨n, m, rfl, n7, m2, q⟩ := h
    refine ⟨_, (pss_cons (ps_set (i := 2) sc_rising_corners.nd rfl (.inl rfl) (pe_lst (pa_cons (pe_tup pa_nil) pa_nil)))
  (pss_cons (ps_for PassesOwn.never rfl (pi_range1 (by rfl) T.range (pa_cons (pv 1) pa_nil)) (pg_name (i := 3) sc_rising_corners.nd rfl (.inl rfl))
    (pss_one (ps_setLc2 (i := 2) (own := [("row", 4), ("corner", 5)]) (vs1 := [5]) (by rfl) sc_rising_corners.nd rfl rfl (sw_true rfl rfl rfl (by decide +kernel)) (p_list (K := K) (pv 2)) (blkOk_by (own := [("row", 4), ("corner", 5)]) (N := n_rising_corners) (sc := defScope s_rising_corners) (by decide +kernel)) (by decide) (fun _ _ _ _ _ => (pg_name (i := 4) sc_rising_corners.nd rfl (.inl rfl))) (fun _ _ _ _ _ => pts_nil) (fun _ _ _ _ _ => (pi_range1 (by rfl) T.range (pa_cons (pv 0) pa_nil))) (fun _ _ _ _ _ => (pg_name (i := 5) sc_rising_corners.nd rfl (.inl rfl))) (fun _ _ _ _ _ => pts_one (PW.pt (pw_or (pt_cmpR op_eq (pe_callB (c_len (K := K)) (by rfl) T.len PySem.boot_len (pa_cons (pv 4) pa_nil)) pe_int (nomark _)) (pw_or1 (pt_cmpR op_lt (pe_ix (i_tup (K := K)) (pv 4) (pe_un un_neg pe_int) (fun _ _ => rfl)) (pv 5) (nomark _)))))) (fun _ _ _ _ _ => (pe_op (o_cat (K := K)) (pv 4) (pe_tup (pa_cons (pv 5) pa_nil)))))))
  (pss_one (ps_ret (pv 2))))), ?_⟩
    refine ⟨Nat.zero_le _, fun e he => ⟨by show 1 ≤ sizeLine; decide, fun R eR => ?_⟩⟩
    have s1 := same_upd (o := .tup []) he
    have s2 := same_upd (o := .lst [.ref e]) eR
    refine ⟨.int m, rfl, m, rfl, by omega, by omega, for_range (fun i σ H' => ∃ (y3 : Option V) (R : Addr) (ts : List Addr), σ = [some (.int n), some (.int m), some (.ref R), y3, none, none] ∧ Same H H' ∧ H' R = some (.lst (ts.map V.ref)) ∧ RowsAt H' ts (rise n i))
      ⟨none, R, [e], rfl, s1.trans s2, upd_same, .one (s2 _ _ upd_same)⟩ ?_ ?_⟩
    · rintro i σ H1 hi ⟨y3, R, ts, rfl, sm, eR1, hts⟩
      have hi : i < m := hi
      have l1 : (rise n i).length ≤ 7 := Nat.le_trans (rises_len n7 i) (Nat.pow_le_pow_right (by decide) (show i ≤ 1 by omega))
      refine ⟨.ref R, rfl, R, rfl, ⟨_, SqL.of eR1⟩, fun D eD => ?_⟩
      refine it_walk (walk_list (K := K) (a := R) (xs := ts.map V.ref)) (fun j H' => LA RowAt H1 H' D (((rise n i).take j).flatMap (riseOne n))) (LA.zero eD) (fun j H' _ hA => SqL.of (hA.stay _ _ eR1)) ?_ ?_
      · rintro j v H2 H2' hj hA ⟨rfl, hv⟩
        obtain ⟨t, et, rfl⟩ := ref_at hv
        obtain ⟨r, er, ht⟩ := hts.at et
        have ht : H1 t = some (.tup (r.map V.int)) := ht
        have hjl := (List.getElem?_eq_some_iff.mp er).1
        have ld : (((rise n i).take j).flatMap (riseOne n)).length ≤ 49 := by
          refine Nat.le_trans (fm_len (rise_len n) _) ?_
          rw [List.length_take]
          exact Nat.mul_le_mul n7 (Nat.le_trans (Nat.min_le_right _ _) l1)
        refine ⟨rfl, .int n, rfl, n, rfl, by omega, by omega, it_range (fun x H' => LA RowAt H1 H' D (((rise n i).take j).flatMap (riseOne n) ++ riseOne x r)) ?_ ?_ ?_⟩
        · rw [show riseOne 0 r = [] from rfl, List.append_nil]
          exact hA
        · rintro x H3 hx hA3
          have hx : x < n := hx
          have e0 : (0 : Int) + (x : Int) = (x : Int) := by omega
          rw [e0]
          have ht3 := hA3.stay _ _ ht
          have lx := rise_len x r
          have yes : (decide (r.length = 0) || decide (r.getD (r.length - 1) 0 < (x : Int))) = true → ∀ (z : Addr) (H4 : Hp), Same H3 H4 → H4 z = some (.tup (r.map V.int ++ [.int x])) →
              ∃ acc, H4 D = some (.lst acc) ∧ acc.length < sizeLine ∧ LA RowAt H1 (upd H4 D (.lst (acc ++ [.ref z]))) D (((rise n i).take j).flatMap (riseOne n) ++ riseOne (x + 1) r) := fun hc z H4 s4 hz => by
            rw [rise_succ, if_pos hc, ← List.append_assoc]
            refine hA3.push steady_row eD s4 ?_ (by rw [List.length_append]; omega)
            show H4 z = _
            rw [hz, List.map_append]
            rfl
          have no : ¬ (decide (r.length = 0) || decide (r.getD (r.length - 1) 0 < (x : Int))) = true → LA RowAt H1 H3 D (((rise n i).take j).flatMap (riseOne n) ++ riseOne (x + 1) r) := fun hc => by
            rw [rise_succ, if_neg hc, List.append_nil]
            exact hA3
          have lr : r.length ≤ 400 := by
            have : ∀ k (r : Ch), r ∈ rise n k → r.length = k := by
              intro k
              induction k with
              | zero =>
                intro r hr
                rw [List.mem_singleton.mp hr]
                rfl
              | succ k ih =>
                intro r hr
                obtain ⟨r', h1, h2⟩ := List.mem_flatMap.mp hr
                unfold riseOne at h2
                obtain ⟨c, _, rfl⟩ := List.mem_map.mp h2
                rw [List.length_append, ih _ h1]
                rfl
            have := this i r (List.mem_of_getElem? er)
            omega
          have cat : (decide (r.length = 0) || decide (r.getD (r.length - 1) 0 < (x : Int))) = true → ∀ (c : Addr), H3 c = none → rCatA K (.ref t) (.ref c) (upd H3 c (.tup [.int x])) fun y H4 =>
              ∃ acc, H4 D = some (.lst acc) ∧ acc.length < sizeLine ∧ LA RowAt H1 (upd H4 D (.lst (acc ++ [y]))) D (((rise n i).take j).flatMap (riseOne n) ++ riseOne (x + 1) r) := fun hc c ec => by
            have sc := same_upd (o := .tup [.int x]) ec
            exact cat_refs (sc _ _ ht3) upd_same (by rw [List.length_map]; omega) (by show 1 ≤ 500; decide) fun p H4 s4 hp => yes hc p H4 (sc.trans s4) hp
          refine ⟨rfl, .ref t, rfl, t, _, rfl, .inr (SqT.of ht3), rfl, _, rfl, ite2 (fun e => iteT ?_) (fun e => ?_)⟩
          · have e := V.int.inj (of_decide_eq_true e)
            rw [List.length_map] at e
            have hc : (decide (r.length = 0) || decide (r.getD (r.length - 1) 0 < (x : Int))) = true := by
              rw [decide_eq_true (show r.length = 0 by omega), Bool.true_or]
            exact ⟨.ref t, rfl, .int x, rfl, by show 1 ≤ sizeLine; decide, fun c ec => cat hc c ec⟩
          · have h0 : 0 < r.length := by
              rcases Nat.eq_zero_or_pos r.length with h | h
              · exact absurd (decide_eq_true (by rw [List.length_map, h]; rfl)) e
              · exact h
            have eat : atI (r.map V.int) (-1) = some (.int (r.getD (r.length - 1) 0)) := by
              refine last_at ?_ (by rw [List.length_map]; exact h0)
              rw [List.length_map]
              exact at_getD (by omega)
            refine ⟨.ref t, rfl, 1, rfl, t, _, -1, _, rfl, rfl, SqT.of ht3, eat, .int x, rfl, _, _, rfl, rfl, _, rfl, ite2 (fun e2 => ?_) (fun e2 => ?_)⟩
            · have hc : (decide (r.length = 0) || decide (r.getD (r.length - 1) 0 < (x : Int))) = true := by
                rw [e2, Bool.or_true]
              exact ⟨.ref t, rfl, .int x, rfl, by show 1 ≤ sizeLine; decide, fun c ec => cat hc c ec⟩
            · refine no fun z => ?_
              rcases Bool.or_eq_true_iff.mp z with z | z
              · have := of_decide_eq_true z
                omega
              · exact e2 z
        · rintro H3 hA3
          have hA3 : LA RowAt H1 H3 D (((rise n i).take j).flatMap (riseOne n) ++ riseOne ((n : Int)).toNat r) := hA3
          rw [Int.toNat_natCast] at hA3
          rw [fm_take er]
          exact hA3
      · rintro H2 hA
        rw [List.length_map, hts.1, List.take_length] at hA
        obtain ⟨us, e2, hus, s2⟩ := hA
        exact ⟨_, D, us, rfl, sm.trans s2, e2, hus⟩
    · rintro σ H1 ⟨y3, R, ts, rfl, sm, eR1, hts⟩
      exact ⟨.ref R, rfl, q R ts _ sm eR1 hts⟩
abbrev s_all_chords : Stmt := topS 18
abbrev n_all_chords : List Str := ["corners", "pair"]
theorem sc_all_chords : FnScope n_all_chords ["corners"] (defScope s_all_chords) := ⟨rfl, rfl, rfl, by decide +kernel, rfl, by decide +kernel, by decide +kernel⟩
def spChords : Sp := fun vs H Q _ => ∃ (n : Nat), vs = [.int n] ∧ n ∈ [4, 5, 6, 7] ∧ ∀ (p : Addr) (ts : List Addr) (H' : Hp), Same H H' → H p = none → H' p = some (.lst (ts.map V.ref)) → RowsAt H' ts (chordsW n) → Q (.ref p) H'
theorem rise_two : ∀ n ∈ [4, 5, 6, 7], ∀ r ∈ rise n 2, r.length = 2 := by decide +kernel
theorem filter_take {α : Type} {l : List α} {j : Nat} {a : α} (p : α → Bool) (h : l[j]? = some a) : (l.take (j + 1)).filter p = (l.take j).filter p ++ (if p a = true then [a] else []) := by
  rw [List.take_succ, h, List.filter_append]
  congr 1
  show List.filter p [a] = _
  by_cases hp : p a = true
  · rw [if_pos hp, List.filter_cons_of_pos hp]
    rfl
  · rw [if_neg hp, List.filter_cons_of_neg hp]
    rfl
theorem ok_chords {f : Addr} {fd : FuncData} (F : Fun K "all_chords" "all_chords" s_all_chords f fd) (T : Tx mg) (c_rising_corners : Cal P w K mg base CX0 1 "rising_corners" ["corners", "many"] spRise) (c_is_side : Cal P w K mg base CX0 1 "is_side" ["corners", "pair"] spSide) : FnOk P w K mg base CX0 2 f fd ["corners"] spChords := by
  refine F.ok sc_all_chords (fun vs H Q E h => ?_) (fun cdv A outer s H vs Q E hr h => ?_)
  · obtain ⟨n, rfl, _⟩ := h
    rfl
  · obtain ⟨n, rfl, hn, q⟩ := h
    refine ⟨_, (pss_one (ps_ret (pe_lc (own := [("pair", 1)]) (by rfl) sc_all_chords.nd (p_list (K := K) (pe_cal c_rising_corners hr (by rfl) (pa_cons (pv 0) (pa_cons pe_int pa_nil)))) (blkOk_by (own := [("pair", 1)]) (N := n_all_chords) (sc := defScope s_all_chords) (by decide +kernel)) (fun _ _ _ _ _ => (pg_name (i := 1) sc_all_chords.nd rfl (.inl rfl))) (fun _ _ _ _ _ => pts_one (pt_not (pt_val (pe_cal c_is_side hr (by rfl) (pa_cons (pv 0) (pa_cons (pv 1) pa_nil)))))) (fun _ _ _ _ _ => (pv 1))))), ?_⟩
    have n7 : n ≤ 7 := by
      simp only [List.mem_cons, List.not_mem_nil, or_false] at hn
      omega
    refine ⟨.int n, rfl, n, 2, rfl, n7, Nat.le_refl _, fun R ts H1 s1 e1 hts => ⟨R, rfl, ⟨_, SqL.of e1⟩, fun D eD => ?_⟩⟩
    have l49 := rises_len n7 2
    refine lc_list (K := K) (a := R) (xs := ts.map V.ref) (fun j H' => LA RowAt H1 H' D (((rise n 2).take j).filter fun p => !sideB n p)) (LA.zero eD) (fun j H' _ hA => SqL.of (hA.stay _ _ e1)) ?_ ?_
    · rintro j v H2 hv hA
      obtain ⟨t, et, rfl⟩ := ref_at hv
      obtain ⟨r, er, ht⟩ := hts.at et
      have hl := rise_two n hn r (List.mem_of_getElem? er)
      refine ⟨rfl, .int n, rfl, .ref t, rfl, n, t, r, rfl, hA.stay _ _ ht, hl, fun H3 s3 => ⟨_, rfl, ?_⟩⟩
      rw [filter_take _ er]
      cases es : sideB (n : Int) r with
      | true =>
        refine iteF ?_
        rw [if_neg (by decide), List.append_nil]
        exact hA.more steady_row s3
      | false =>
        refine iteT ⟨.ref t, rfl, ?_⟩
        rw [if_pos (by decide)]
        refine hA.push steady_row eD s3 (s3 _ _ (hA.stay _ _ ht)) ?_
        refine Nat.le_trans (List.length_filter_le _ _) ?_
        rw [List.length_take]
        omega
    · rintro H2 hA
      rw [List.length_map, hts.1, List.take_length] at hA
      obtain ⟨us, e2, hus, s2⟩ := hA
      have D0 : H D = none := by
        cases e : H D with
        | none => rfl
        | some o => rw [s1 _ _ e] at eD; cases eD
      refine q D us _ (s1.trans s2) D0 e2 ?_
      rw [← chords_eq n hn]
      exact hus
end
end Bw
set_option Elab.async false
set_option linter.all false
set_option maxRecDepth 100000
set_option maxHeartbeats 4000000
namespace Bw
open PySem PySem.Spec PyProof.Rows L2
/-- what the written part says of an error's class that stands under BudError -/
structure ErrC (K : PySem.W.Frag) (mg : Str → Option Value) (x : Str) (C f CB : Addr) : Prop where
  g : mg x = some (.ref C)
  oex : OexC K C
  iC : PySem.W.findIn K (.ref C) "__init__" = some (some (.ref f))
  tI : PySem.W.typeIn K (.ref f) = some (.type "function")
  nw : PySem.W.findIn K (.ref C) "word" = some none
  xf : XfC K C
  te : PySem.W.exmOne K (.ref C) (.ref CB) = some true
def wordFs (x : Str) : List (Str × V) := [("word", .str x)]
theorem ErrC.at {K : PySem.W.Frag} {mg : Str → Option Value} {x wd : Str} {C f CB d : Addr} {H : Hp} (T : ErrC K mg x C f CB) (h : H d = some (.xd (wordFs wd))) : ErrAt K CB (.ref C) (some d) H (.str wd) := ⟨C, d, _, rfl, rfl, T.te, T.xf, T.nw, h, rfl⟩
section
variable {P : Program} {w : World} {K : PySem.W.Frag} {mg : Str → Option Value} {base : Heap}
abbrev s_bud_init : Stmt := inClass (topS 1) 0
theorem sc_bud_init : FnScope ["self", "word"] ["self", "word"] (defScope s_bud_init) := ⟨rfl, rfl, rfl, by decide +kernel, rfl, by decide +kernel, by decide +kernel⟩
def vV (K : PySem.W.Frag) : Prop := PySem.W.findCls K (.type "ValueError") (.type "type") "__init__" = some (.val (.builtin "ValueError.__init__"))
def spBudInit (K : PySem.W.Frag) : Sp := fun vs H Q _ => ∃ (a C : Addr) (x : V), vs = [.ref a, x] ∧ OexC K C ∧ PySem.W.findIn K (.ref C) "word" = some none ∧ H a = some (exo a C none) ∧ ∀ dx, H dx = none → dx ≠ a → Q .non (upd (upd H dx (exd dx [("word", x)])) a (exo a C (some dx)))
theorem ok_budinit {f : Addr} {fd : FuncData} {k : Nat} (F : Fun K "__init__" "BudError.__init__" s_bud_init f fd) (T : Tx mg) (v : vV K) : FnOk P w K mg base CX0 (k + 1) f fd ["self", "word"] (spBudInit K) := by
  refine F.ok sc_bud_init (fun vs H Q E h => ?_) (fun cdv A outer s H vs Q E hr h => ?_)
  · obtain ⟨a, C, x, rfl, _⟩ := h
    rfl
  · obtain ⟨a, C, x, rfl, O, nw, ha, q⟩ := h
    refine ⟨_, pss_cons (ps_expr (pe_veinit (by rfl) T.ValueError v (pa_cons (pv 0) (pa_cons (pv 1) pa_nil)))) (pss_one (ps_ost (pv 0) (pv 1))), ?_⟩
    refine ⟨.ref a, rfl, x, rfl, a, C, [x], rfl, by show 1 ≤ 1000; decide, O, ha, ?_⟩
    exact ⟨x, rfl, .ref a, rfl, a, C, rfl, O, nw, .inl ⟨ha, q⟩⟩
/-- an error's own __init__ that wants nothing -/
def spErrInit (K : PySem.W.Frag) (wd : Str) : Sp := fun vs H Q _ => ∃ (a C : Addr), vs = [.ref a] ∧ OexC K C ∧ PySem.W.findIn K (.ref C) "word" = some none ∧ H a = some (exo a C none) ∧
  ∀ (dx : Addr) (H' : Hp), H dx = none → dx ≠ a → H' a = some (exo a C (some dx)) → H' dx = some (exd dx (wordFs wd)) → (∀ b, b ≠ a → b ≠ dx → H' b = H b) → Q .non H'
abbrev s_bad_init : Stmt := inClass (topS 2) 0
theorem sc_bad_init : FnScope ["self"] ["self"] (defScope s_bad_init) := ⟨rfl, rfl, rfl, by decide +kernel, rfl, by decide +kernel, by decide +kernel⟩
theorem ok_badinit {f fB CB : Addr} {fd fdB : FuncData} {k : Nat} (F : Fun K "__init__" "BadCut.__init__" s_bad_init f fd) (T : Tx mg) (TB : ClsFn K mg "BudError" "__init__" CB fB) (FB : FnOk P w K mg base CX0 k fB fdB ["self", "word"] (spBudInit K)) (bB : Binds K fdB ["self", "word"] []) : FnOk P w K mg base CX0 (k + 1) f fd ["self"] (spErrInit K "bad cut") := by
  refine F.ok sc_bad_init (fun vs H Q E h => ?_) (fun cdv A outer s H vs Q E hr h => ?_)
  · obtain ⟨a, C, rfl, _⟩ := h
    rfl
  · obtain ⟨a, C, rfl, O, nw, ha, q⟩ := h
    refine ⟨_, pss_one (ps_expr (pe_cfun TB FB hr (by rfl) bB pass0 (pa_cons (pv 0) (pa_cons pe_str pa_nil)))), ?_⟩
    refine ⟨.ref a, rfl, a, C, _, rfl, O, nw, ha, fun dx ed nd => ?_⟩
    refine q dx _ ed nd upd_same ?_ fun b n1 n2 => ?_
    · rw [upd_ne nd, upd_same]
      rfl
    · rw [upd_ne n1, upd_ne n2]
end
/-- raise x(): its reading, where what was stays -/
theorem raise_done {K : PySem.W.Frag} {mg : Str → Option Value} {x wd : Str} {C f CB : Addr} {σ : L2.St} {H : Hp} {E : XK} (T : ErrC K mg x C f CB) (q : ∀ (d : Addr) (H' : Hp), Same H H' → H' d = some (.xd (wordFs wd)) → E (.ref C) (some d) H') : tMkO C (spErrInit K wd) [] tNil σ H E := by
  refine ⟨by show 0 ≤ 1000; decide, fun x ex => ?_⟩
  refine ⟨x, C, rfl, T.oex, T.nw, upd_same, fun dx H6 ed nd hx hd hk => ?_⟩
  have ed2 : H dx = none := by
    rw [upd_ne nd] at ed
    exact ed
  refine ⟨rfl, dx, _, hx, hd, ed2, q dx _ (fun c o e2 => ?_) upd_same⟩
  have n1 : c ≠ x := ne_of_none e2 ex
  have n2 : c ≠ dx := ne_of_none e2 ed2
  rw [upd_ne n2, del_ne n1, hk c n1 n2, upd_ne n1]
  exact e2
/-- a def that may let an error out, called by its name where nothing of it is let out, or where all is -/
structure CalX (P : Program) (w : World) (K : PySem.W.Frag) (mg : Str → Option Value) (base : Heap) (k : Nat) (x : Str) (ps : List Str) (sp : Sp) : Prop where
  ex : ∃ (f : Addr) (fd : FuncData), FnOk P w K mg base (L2.CX P w) k f fd ps sp ∧ mg x = some (.ref f) ∧ PySem.W.keepIn K (.ref f) = true ∧ Binds K fd ps []
theorem pe_calX {X : Cx} {x : Str} {ps : List Str} {sp : Sp} {k : Nat} {e : Expr} {es : List Expr} {p pos : Pos} {t : TA} {E : XK} (C : CalX X.prog X.w X.K X.mg X.base k x ps sp) (hr : Room k X.A) (hg : Gl X x) (hx : Passes (L2.CX X.prog X.w) X E) (ha : PA X (e :: es) t) (hdb : (x == ("__debug__" : Str)) = false := by decide) (he : starEach (e :: es) X.env = (false, eval e X.env) :: starEach es X.env := by rfl)
    (hpl : (backTo pos (starEach es X.env)).any (·.1) = false := by rfl) : PE X (.Call (.Name x p) (e :: es) [] pos) (tCall sp [] E t) := by
  obtain ⟨f, fd, F, hm, hk, hb⟩ := C.ex
  exact pe_call F hr hg hm hk hb .nil hx ha hdb he hpl
/-- what of a callee may be let out is let out -/
theorem passE {X : Cx} {E : XK} {E₁ : Value → Shared → Prop} (hs : X.stack = X.env :: X.outer) (hf : X.env.frame = some X.env.locals) (hex : X.ex = []) (hx : X.xe = fun e s' => wpAny (model X.prog X.w) X.A (leaving X.env e) (fun _ s'' => L2.CX X.prog X.w X.outer X.H_0 X.s_0 E e s'') E₁ s') : Passes (L2.CX X.prog X.w) X E := passes_call (takes_of hs hf hex hx) fun _ _ _ _ h => h
/-! ### check_cut and what asks it -/
section
variable {P : Program} {w : World} {K : PySem.W.Frag} {mg : Str → Option Value} {base : Heap} {CS fS CB : Addr}
abbrev s_check_cut : Stmt := topS 24
abbrev n_check_cut : List Str := ["corners", "chords"]
theorem sc_check_cut : FnScope n_check_cut ["corners", "chords"] (defScope s_check_cut) := ⟨rfl, rfl, rfl, by decide +kernel, rfl, by decide +kernel, by decide +kernel⟩
def Bad (CS : Addr) (H : Hp) (E : XK) : Prop := ∀ (d : Addr) (H' : Hp), Same H H' → H' d = some (.xd (wordFs "bad cut")) → E (.ref CS) (some d) H'
theorem Bad.same {CS : Addr} {H H1 : Hp} {E : XK} (h : Bad CS H E) (s : Same H H1) : Bad CS H1 E := fun d H' s' hd => h d H' (s.trans s') hd
def CutAt (H : Hp) (a : Addr) (c : List Ch) : Prop := TabAt H a c ∧ (∀ p ∈ c, p.length = 2) ∧ c.length ≤ 100
theorem CutAt.same {H H' : Hp} {a : Addr} {c : List Ch} (h : CutAt H a c) (s : Same H H') : CutAt H' a c := ⟨h.1.kt (.of s), h.2⟩
def spCheck (CS : Addr) : Sp := fun vs H Q E => ∃ (n : Int) (a : Addr) (c : List Ch), vs = [.int n, .ref a] ∧ CutAt H a c ∧ (isCutB n c = true → ∀ H', Same H H' → Q .non H') ∧ (isCutB n c = false → Bad CS H E)
theorem ok_checkcut {f : Addr} {fd fdS : FuncData} (F : Fun K "check_cut" "check_cut" s_check_cut f fd) (T : Tx mg) (c_is_cut : Cal P w K mg base CX0 3 "is_cut" ["corners", "chords"] spIsCut) (TS : ErrC K mg "BadCut" CS fS CB) (FS : FnOk P w K mg base CX0 2 fS fdS ["self"] (spErrInit K "bad cut")) (bS : Binds K fdS ["self"] []) : FnOk P w K mg base (L2.CX P w) 4 f fd ["corners", "chords"] (spCheck CS) := by
  refine F.okX sc_check_cut (fun vs H Q E h => ?_) (fun cdv A outer s H vs Q E hr h => ?_)
  · obtain ⟨n, a, c, rfl, _⟩ := h
    rfl
  · obtain ⟨n, a, c, rfl, hc, q, qE⟩ := h
    refine ⟨_, (pss_one (ps_if (pt_not (pt_val (pe_cal c_is_cut hr (by rfl) (pa_cons (pv 0) (pa_cons (pv 1) pa_nil)))))
    (pss_one (ps_raise rfl (takes_of rfl rfl rfl rfl) (pmk_oex0 TS.oex TS.iC TS.tI FS hr bS pass0 (by rfl) TS.g)))
    pss_nil)), ?_⟩
    refine ⟨.int n, rfl, .ref a, rfl, n, a, c, rfl, hc.1, hc.2.1, hc.2.2, fun H1 s1 => ⟨_, rfl, ?_⟩⟩
    cases e : isCutB n c with
    | true => exact iteF (q e _ s1)
    | false =>
      refine iteT ?_
      exact raise_done TS fun d H' s' hd => qE e d H' (s1.trans s') hd
abbrev s_cut_table : Stmt := topS 27
abbrev n_cut_table : List Str := ["corners", "chords", "steps", "part", "first", "second", "third", "i", "j"]
theorem sc_cut_table : FnScope n_cut_table ["corners", "chords"] (defScope s_cut_table) := ⟨rfl, rfl, rfl, by decide +kernel, rfl, by decide +kernel, by decide +kernel⟩
def spNo2 (CS : Addr) : Sp := fun vs H Q E => ∃ (n : Int) (a : Addr) (c : List Ch), vs = [.int n, .ref a] ∧ CutAt H a c ∧ isCutB n c = false ∧ Bad CS H E
theorem ok_cuttable {f : Addr} {fd : FuncData} (F : Fun K "cut_table" "cut_table" s_cut_table f fd) (c_check : CalX P w K mg base 4 "check_cut" ["corners", "chords"] (spCheck CS)) : FnOk P w K mg base (L2.CX P w) 5 f fd ["corners", "chords"] (spNo2 CS) := by
  refine F.okX sc_cut_table (fun vs H Q E h => ?_) (fun cdv A outer s H vs Q E hr h => ?_)
  · obtain ⟨n, a, c, rfl, _⟩ := h
    rfl
  · obtain ⟨n, a, c, rfl, hc, eb, qE⟩ := h
    refine ⟨_, (pss_cons (ps_expr (pe_calX c_check hr (by rfl) (passE rfl rfl rfl rfl) (pa_cons (pv 0) (pa_cons (pv 1) pa_nil)))) pss_never), ?_⟩
    exact ⟨.int n, rfl, .ref a, rfl, n, a, c, rfl, hc, fun z => absurd (eb.symm.trans z) Bool.false_ne_true, fun _ => qE⟩
abbrev s_flipped : Stmt := topS 28
abbrev n_flipped : List Str := ["corners", "chords", "chord", "touching", "part", "corner"]
theorem sc_flipped : FnScope n_flipped ["corners", "chords", "chord"] (defScope s_flipped) := ⟨rfl, rfl, rfl, by decide +kernel, rfl, by decide +kernel, by decide +kernel⟩
def spNo3 (CS : Addr) : Sp := fun vs H Q E => ∃ (n : Int) (a b : Addr) (c : List Ch) (p : Ch), vs = [.int n, .ref a, .ref b] ∧ CutAt H a c ∧ RowAt H b p ∧ p.length = 2 ∧ (isCutB n c = true → chordB n p = true → p ∉ c) ∧ Bad CS H E
theorem ok_flipped {f : Addr} {fd fdS : FuncData} (F : Fun K "flipped" "flipped" s_flipped f fd) (T : Tx mg) (c_check : CalX P w K mg base 4 "check_cut" ["corners", "chords"] (spCheck CS)) (c_is_chord : Cal P w K mg base CX0 2 "is_chord" ["corners", "pair"] spIsCh) (TS : ErrC K mg "BadCut" CS fS CB) (FS : FnOk P w K mg base CX0 2 fS fdS ["self"] (spErrInit K "bad cut")) (bS : Binds K fdS ["self"] []) : FnOk P w K mg base (L2.CX P w) 5 f fd ["corners", "chords", "chord"] (spNo3 CS) := by
  refine F.okX sc_flipped (fun vs H Q E h => ?_) (fun cdv A outer s H vs Q E hr h => ?_)
  · obtain ⟨n, a, b, c, p, rfl, _⟩ := h
    rfl
  · obtain ⟨n, a, b, c, p, rfl, hc, hp, lp, hno, qE⟩ := h
    have hr2 := hr.mono (show 2 ≤ 4 by decide)
    have hr3 := hr.mono (show 3 ≤ 4 by decide)
    have hu : (A.deeper (envOfC "flipped" (defScope s_flipped) s.heap.objs.size f cdv)).units + 65 < cLine := by
      have := hr.un
      omega
    refine ⟨_, (pss_cons (ps_expr (pe_calX c_check hr (by rfl) (passE rfl rfl rfl rfl) (pa_cons (pv 0) (pa_cons (pv 1) pa_nil))))
  (pss_cons (ps_if (PW.pt (pw_or (pt_not (pt_val (pe_cal c_is_chord hr2 (by rfl) (pa_cons (pv 0) (pa_cons (pv 2) pa_nil))))) (pw_or1 (pt_cmpR (o_notInDT (K := K) hu) (pv 2) (pv 1) (by rfl)))))
    (pss_one (ps_raise rfl (takes_of rfl rfl rfl rfl) (pmk_oex0 TS.oex TS.iC TS.tI FS hr3 bS pass0 (by rfl) TS.g)))
    pss_nil) pss_never)), ?_⟩
    refine ⟨.int n, rfl, .ref a, rfl, n, a, c, rfl, hc, fun e H1 s1 => ?_, fun _ => qE⟩
    refine ⟨.int n, rfl, .ref b, rfl, n, b, p, rfl, s1 _ _ hp, lp, fun H2 s2 => ⟨_, rfl, ?_⟩⟩
    have s12 := s1.trans s2
    cases e2 : chordB n p with
    | false => exact iteT (iteT (raise_done TS fun d H' s' hd => qE d H' (s12.trans s') hd))
    | true =>
      refine iteF ⟨.ref b, rfl, .ref a, rfl, rowD p, c.map rowD, dp_row (s12 _ _ hp), dp_tab (hc.1.kt (.of s12)), shaped_row p, shaped_tab c, ?_⟩
      have e3 : ((c.map rowD).any fun z => PyData.eqv z (rowD p)) = false := by
        rw [Bool.eq_false_iff]
        exact fun z => hno e e2 ((any_eqv rowD_eqv c p).mp z)
      rw [e3]
      exact ⟨true, rfl, iteT (raise_done TS fun d H' s' hd => qE d H' (s12.trans s') hd)⟩
abbrev s_flip : Stmt := topS 29
abbrev n_flip : List Str := ["corners", "chords", "chord", "fresh", "other"]
theorem sc_flip : FnScope n_flip ["corners", "chords", "chord"] (defScope s_flip) := ⟨rfl, rfl, rfl, by decide +kernel, rfl, by decide +kernel, by decide +kernel⟩
theorem ok_flip {f : Addr} {fd : FuncData} (F : Fun K "flip" "flip" s_flip f fd) (c_flipped : CalX P w K mg base 5 "flipped" ["corners", "chords", "chord"] (spNo3 CS)) : FnOk P w K mg base (L2.CX P w) 6 f fd ["corners", "chords", "chord"] (spNo3 CS) := by
  refine F.okX sc_flip (fun vs H Q E h => ?_) (fun cdv A outer s H vs Q E hr h => ?_)
  · obtain ⟨n, a, b, c, p, rfl, _⟩ := h
    rfl
  · obtain ⟨n, a, b, c, p, rfl, hc, hp, lp, hno, qE⟩ := h
    refine ⟨_, (pss_cons (ps_set (i := 3) sc_flip.nd rfl (.inr rfl) (pe_calX c_flipped hr (by rfl) (passE rfl rfl rfl rfl) (pa_cons (pv 0) (pa_cons (pv 1) (pa_cons (pv 2) pa_nil))))) pss_never), ?_⟩
    exact ⟨.int n, rfl, .ref a, rfl, .ref b, rfl, n, a, b, c, p, rfl, hc, hp, lp, hno, qE⟩
abbrev s_lengths : Stmt := topS 33
abbrev n_lengths : List Str := ["corners", "chords", "parts", "chords_in_all", "fours", "worths", "four", "found", "pair", "chord", "part"]
theorem sc_lengths : FnScope n_lengths ["corners", "chords", "parts"] (defScope s_lengths) := ⟨rfl, rfl, rfl, by decide +kernel, rfl, by decide +kernel, by decide +kernel⟩
def spNoL (CS : Addr) : Sp := fun vs H Q E => ∃ (n : Int) (a b : Addr) (c : List Ch), vs = [.int n, .ref a, .ref b] ∧ CutAt H a c ∧ isCutB n c = false ∧ Bad CS H E
theorem ok_lengths {f : Addr} {fd : FuncData} (F : Fun K "lengths" "lengths" s_lengths f fd) (c_check : CalX P w K mg base 4 "check_cut" ["corners", "chords"] (spCheck CS)) : FnOk P w K mg base (L2.CX P w) 5 f fd ["corners", "chords", "parts"] (spNoL CS) := by
  refine F.okX sc_lengths (fun vs H Q E h => ?_) (fun cdv A outer s H vs Q E hr h => ?_)
  · obtain ⟨n, a, b, c, rfl, _⟩ := h
    rfl
  · obtain ⟨n, a, b, c, rfl, hc, eb, qE⟩ := h
    refine ⟨_, (pss_cons (ps_expr (pe_calX c_check hr (by rfl) (passE rfl rfl rfl rfl) (pa_cons (pv 0) (pa_cons (pv 1) pa_nil)))) pss_never), ?_⟩
    exact ⟨.int n, rfl, .ref a, rfl, n, a, c, rfl, hc, fun z => absurd (eb.symm.trans z) Bool.false_ne_true, fun _ => qE⟩
end
end Bw
set_option Elab.async false
set_option linter.all false
set_option maxRecDepth 100000
set_option maxHeartbeats 4000000
namespace Bw
open PySem PySem.Spec PyProof.Rows L2
theorem back {H H' : Hp} {a : Addr} (s : Same H H') (e : H' a = none) : H a = none := by
  cases h : H a with
  | none => rfl
  | some o =>
    rw [s _ _ h] at e
    cases e
theorem grow_mem {F : Ch → List Ch → Bool} {cs : List Ch} : ∀ {k : Nat} {r : List Ch}, r ∈ grow F cs k → r.length = k ∧ ∀ c ∈ r, c ∈ cs
  | 0, r, h => by
    rw [List.mem_singleton.mp h]
    exact ⟨rfl, fun c hc => by cases hc⟩
  | k + 1, r, h => by
    obtain ⟨r', h1, h2⟩ := List.mem_flatMap.mp h
    unfold growOne at h2
    obtain ⟨c, h3, rfl⟩ := List.mem_map.mp h2
    obtain ⟨h4, h5⟩ := grow_mem h1
    refine ⟨by rw [List.length_append, h4]; rfl, fun d hd => ?_⟩
    rcases List.mem_append.mp hd with hd | hd
    · exact h5 d hd
    · rw [List.mem_singleton.mp hd]
      exact (List.mem_filter.mp h3).1
theorem growOne_succ {F : Ch → List Ch → Bool} {cs : List Ch} {x : Nat} {c : Ch} {r : List Ch} (h : cs[x]? = some c) : growOne F (cs.take (x + 1)) r = growOne F (cs.take x) r ++ (if F c r = true then [r ++ [c]] else []) := by
  unfold growOne
  rw [filter_take _ h, List.map_append]
  congr 1
  by_cases hp : F c r = true
  · rw [if_pos hp, if_pos hp]
    rfl
  · rw [if_neg hp, if_neg hp]
    rfl
theorem growOne_len {F : Ch → List Ch → Bool} (cs : List Ch) (r : List Ch) : (growOne F cs r).length ≤ cs.length := by
  unfold growOne
  rw [List.length_map]
  exact List.length_filter_le _ _
theorem fm_pre {α β : Type} (f : α → List β) : ∀ (l : List α) (j : Nat), ((l.take j).flatMap f).length ≤ (l.flatMap f).length := fun l j => by
  have : l.flatMap f = (l.take j).flatMap f ++ (l.drop j).flatMap f := by
    rw [← List.flatMap_append, List.take_append_drop]
  rw [this, List.length_append]
  omega
theorem grow_len : ∀ n ∈ [4, 5, 6, 7], ∀ k ∈ List.range (n - 2), (grow fitsB (chordsW n) k).length ≤ 100 ∧ (grow fitsW (chordsW n) k).length ≤ 100 := by decide +kernel
theorem grow_cuts : ∀ n ∈ [4, 5, 6, 7], grow fitsB (chordsW n) (n - 3) = cutsW n := fun n hn => by
  have h1 := cuts_eq n hn
  unfold cutsP at h1
  rw [chords_eq n hn] at h1
  exact h1
theorem TabAt.snoc {H : Hp} {a : Addr} {as : List Addr} {t : Addr} {row : List Ch} {c : Ch} (h : H a = some (.tup (as.map V.ref ++ [.ref t]))) (hr : RowsAt H as row) (ht : RowAt H t c) : TabAt H a (row ++ [c]) := ⟨as ++ [t], by rw [h, List.map_append]; rfl, hr.snoc ht⟩
section
variable {P : Program} {w : World} {K : PySem.W.Frag} {mg : Str → Option Value} {base : Heap} {CS fS CB : Addr}
abbrev s_cuts : Stmt := topS 21
abbrev n_cuts : List Str := ["corners", "chords", "rows", "step", "row", "chord"]
theorem sc_cuts : FnScope n_cuts ["corners"] (defScope s_cuts) := ⟨rfl, rfl, rfl, by decide +kernel, rfl, by decide +kernel, by decide +kernel⟩
def spCuts (CS : Addr) : Sp := fun vs H Q E => ∃ (n : Int), vs = [.int n] ∧ (∀ k : Nat, n = k → k ∈ [4, 5, 6, 7] → ∀ (p : Addr) (ts : List Addr) (H' : Hp), Same H H' → H p = none → H' p = some (.lst (ts.map V.ref)) → TabsAt H' ts (cutsW k) → Q (.ref p) H') ∧ (polyB n = false → Bad CS H E)
theorem poly_nat {n : Int} (h : polyB n = true) : ∃ k : Nat, n = k ∧ k ∈ [4, 5, 6, 7] := by
  have h := of_decide_eq_true h
  refine ⟨n.toNat, by omega, ?_⟩
  simp only [List.mem_cons, List.not_mem_nil, or_false]
  omega
theorem ok_cuts {f : Addr} {fd fdS : FuncData} (F : Fun K "cuts" "cuts" s_cuts f fd) (T : Tx mg) (c_is_polygon : Cal P w K mg base CX0 2 "is_polygon" ["corners"] spPoly) (c_all_chords : Cal P w K mg base CX0 2 "all_chords" ["corners"] spChords) (c_fits_behind : Cal P w K mg base CX0 2 "fits_behind" ["chord", "row"] spFits) (TS : ErrC K mg "BadCut" CS fS CB) (FS : FnOk P w K mg base CX0 2 fS fdS ["self"] (spErrInit K "bad cut")) (bS : Binds K fdS ["self"] []) : FnOk P w K mg base (L2.CX P w) 4 f fd ["corners"] (spCuts CS) := by
  refine F.okX sc_cuts (fun vs H Q E h => ?_) (fun cdv A outer s H vs Q E hr h => ?_)
  · obtain ⟨n, rfl, _⟩ := h
    rfl
  · obtain ⟨n, rfl, q, qE⟩ := h
    have hr2 := hr.mono (show 2 ≤ 3 by decide)
    refine ⟨_, (pss_cons (ps_if (pt_not (pt_val (pe_cal c_is_polygon hr2 (by rfl) (pa_cons (pv 0) pa_nil))))
    (pss_one (ps_raise rfl (takes_of rfl rfl rfl rfl) (pmk_oex0 TS.oex TS.iC TS.tI FS hr bS pass0 (by rfl) TS.g)))
    pss_nil)
  (pss_cons (ps_set (i := 1) sc_cuts.nd rfl (.inr rfl) (pe_cal c_all_chords hr2 (by rfl) (pa_cons (pv 0) pa_nil)))
  (pss_cons (ps_set (i := 2) sc_cuts.nd rfl (.inl rfl) (pe_lst (pa_cons (pe_tup pa_nil) pa_nil)))
  (pss_cons (ps_for PassesOwn.leaving rfl (pi_range1 (by rfl) T.range (pa_cons (pe_op op_sub (pv 0) pe_int) pa_nil)) (pg_name (i := 3) sc_cuts.nd rfl (.inl rfl))
    (pss_one (ps_setLc2 (i := 2) (own := [("row", 4), ("chord", 5)]) (vs1 := [5]) (by rfl) sc_cuts.nd rfl rfl (sw_true rfl rfl rfl (by decide +kernel)) (p_list (K := K) (pv 2)) (blkOk_by (own := [("row", 4), ("chord", 5)]) (N := n_cuts) (sc := defScope s_cuts) (by decide +kernel)) (by decide) (fun _ _ _ _ _ => (pg_name (i := 4) sc_cuts.nd rfl (.inl rfl))) (fun _ _ _ _ _ => pts_nil) (fun _ _ _ _ _ => (p_list (K := K) (pv 1))) (fun _ _ _ _ _ => (pg_name (i := 5) sc_cuts.nd rfl (.inl rfl))) (fun _ _ _ _ _ => pts_one (pt_val (pe_cal c_fits_behind hr2 (by rfl) (pa_cons (pv 5) (pa_cons (pv 4) pa_nil))))) (fun _ _ _ _ _ => (pe_op (o_cat (K := K)) (pv 4) (pe_tup (pa_cons (pv 5) pa_nil)))))))
  (pss_one (ps_ret (pv 2))))))), ?_⟩
    refine ⟨.int n, rfl, n, rfl, ?_⟩
    cases ep : polyB n with
    | false => exact ⟨false, rfl, iteT (raise_done TS (qE ep))⟩
    | true =>
      obtain ⟨k, rfl, hk⟩ := poly_nat ep
      have k7 : 4 ≤ k ∧ k ≤ 7 := by
        simp only [List.mem_cons, List.not_mem_nil, or_false] at hk
        omega
      obtain ⟨l14, two14⟩ := chords_len k hk
      refine ⟨true, rfl, iteF ?_⟩
      refine ⟨.int k, rfl, k, rfl, hk, fun R0 cs H1 s1 _ e1 hcs => ?_⟩
      refine ⟨Nat.zero_le _, fun e he => ⟨by show 1 ≤ sizeLine; decide, fun R eR => ?_⟩⟩
      have s2 := same_upd (o := .tup []) he
      have s3 := same_upd (o := .lst [.ref e]) eR
      have s03 := s1.trans (s2.trans s3)
      refine ⟨.int k, rfl, _, _, rfl, rfl, _, rfl, by omega, by omega, for_range (fun i σ H' => ∃ (y3 : Option V) (R : Addr) (ts : List Addr), σ = [some (.int k), some (.ref R0), some (.ref R), y3, none, none] ∧ Same H1 H' ∧ H1 R = none ∧ H' R = some (.lst (ts.map V.ref)) ∧ TabsAt H' ts (grow fitsB (chordsW k) i))
        ⟨none, R, [e], rfl, s2.trans s3, back s2 eR, upd_same, .one ⟨[], s3 _ _ upd_same, .nil⟩⟩ ?_ ?_⟩
      · rintro i σ H2 hi ⟨y3, R, ts, rfl, sm, _, eR1, hts⟩
        have hi : i < ((k : Int) - 3).toNat := hi
        have hgl := (grow_len k hk (i + 1) (List.mem_range.mpr (by omega))).1
        have eR0 := sm _ _ e1
        have hcs2 := RowsAt.kt (.of sm) hcs
        refine ⟨.ref R, rfl, R, rfl, ⟨_, SqL.of eR1⟩, fun D eD => ?_⟩
        refine it_walk (walk_list (K := K) (a := R) (xs := ts.map V.ref)) (fun j H' => LA TabAt H2 H' D (((grow fitsB (chordsW k) i).take j).flatMap (growOne fitsB (chordsW k)))) (LA.zero eD) (fun j H' _ hA => SqL.of (hA.stay _ _ eR1)) ?_ ?_
        · rintro j v H3 H3' hj hA ⟨rfl, hv⟩
          obtain ⟨t, et, rfl⟩ := ref_at hv
          obtain ⟨r, er, ht⟩ := hts.at et
          obtain ⟨lr, hrm⟩ := grow_mem (List.mem_of_getElem? er)
          have ld : (((grow fitsB (chordsW k) i).take j).flatMap (growOne fitsB (chordsW k))).length ≤ 100 := Nat.le_trans (fm_pre _ _ _) hgl
          refine ⟨rfl, .ref R0, rfl, R0, rfl, ⟨_, SqL.of (hA.stay _ _ eR0)⟩, it_walk (walk_list (K := K) (a := R0) (xs := cs.map V.ref)) (fun x H' => LA TabAt H2 H' D (((grow fitsB (chordsW k) i).take j).flatMap (growOne fitsB (chordsW k)) ++ growOne fitsB ((chordsW k).take x) r)) ?_ (fun x H' _ hA => SqL.of (hA.stay _ _ eR0)) ?_ ?_⟩
          · rw [show growOne fitsB ((chordsW k).take 0) r = [] from rfl, List.append_nil]
            exact hA
          · rintro x v H4 H4' hx hA4 ⟨rfl, hv⟩
            obtain ⟨u, eu, rfl⟩ := ref_at hv
            obtain ⟨c, ec, hu⟩ := hcs2.at eu
            have ht4 := ht.kt (.of hA4.stay)
            have hu4 := hA4.stay _ _ hu
            have lx := Nat.le_trans (growOne_len (F := fitsB) ((chordsW k).take x) r) (Nat.le_trans (List.length_take_le' _ _) l14)
            refine ⟨rfl, .ref u, rfl, .ref t, rfl, u, t, c, r, rfl, hu4, two14 c (List.mem_of_getElem? ec), ht4, fun p hp => two14 p (hrm p hp), by omega, fun H5 s5 => ⟨_, rfl, ?_⟩⟩
            rw [growOne_succ ec]
            cases ef : fitsB c r with
            | false =>
              refine iteF ?_
              rw [if_neg Bool.false_ne_true, List.append_nil]
              exact hA4.more steady_tab s5
            | true =>
              refine iteT ⟨.ref t, rfl, .ref u, rfl, by show 1 ≤ sizeLine; decide, fun b eb => ?_⟩
              rw [if_pos rfl, ← List.append_assoc]
              have sb := same_upd (o := .tup [.ref u]) eb
              obtain ⟨as, h1, h2⟩ := ht4
              refine cat_refs (sb _ _ (s5 _ _ h1)) upd_same (by rw [List.length_map, h2.1]; omega) (by show 1 ≤ 500; decide) fun p H6 s6 hp => ?_
              have s46 := (s5.trans sb).trans s6
              exact hA4.push steady_tab eD s46 (TabAt.snoc hp (RowsAt.kt (.of s46) h2) (s46 _ _ hu4)) (by rw [List.length_append]; omega)
          · rintro H4 hA4
            rw [List.length_map, hcs.1, List.take_length] at hA4
            rw [fm_take er]
            exact hA4
        · rintro H3 hA
          rw [List.length_map, hts.1, List.take_length] at hA
          obtain ⟨us, e2, hus, s4⟩ := hA
          exact ⟨_, D, us, rfl, sm.trans s4, back sm eD, e2, hus⟩
      · rintro σ H2 ⟨y3, R, ts, rfl, sm, r0, eR1, hts⟩
        rw [show ((k : Int) - 3).toNat = k - 3 by omega, grow_cuts k hk] at hts
        exact ⟨.ref R, rfl, q k rfl hk R ts _ (s1.trans sm) (back s1 r0) eR1 hts⟩
end
end Bw
set_option Elab.async false
set_option linter.all false
set_option maxRecDepth 100000
set_option maxHeartbeats 4000000
namespace Bw
open PySem PySem.Spec PyProof.Rows L2
def chPart (n lo x : Nat) : List Ch := ((List.range x).filter fun (j : Nat) => decide (((lo : Int) + 2 + (j : Int)) - lo < (n : Int) - 1)).map fun (j : Nat) => [(lo : Int), (lo : Int) + 2 + (j : Int)]
theorem chPart_succ (n lo x : Nat) : chPart n lo (x + 1) = chPart n lo x ++ (if decide (((lo : Int) + 2 + (x : Int)) - lo < (n : Int) - 1) = true then [[(lo : Int), (lo : Int) + 2 + (x : Int)]] else []) := by
  unfold chPart
  rw [List.range_succ, List.filter_append, List.map_append]
  congr 1
  by_cases h : decide (((lo : Int) + 2 + (x : Int)) - lo < (n : Int) - 1) = true
  · rw [if_pos h, List.filter_cons, if_pos h]
    rfl
  · rw [if_neg h, List.filter_cons, if_neg h]
    rfl
theorem chPart_len (n lo x : Nat) : (chPart n lo x).length ≤ x := by
  unfold chPart
  rw [List.length_map]
  refine Nat.le_trans (List.length_filter_le _ _) ?_
  rw [List.length_range]
  exact Nat.le_refl _
theorem fm_range {β : Type} (f : Nat → List β) (i : Nat) : (List.range (i + 1)).flatMap f = (List.range i).flatMap f ++ f i := by
  rw [List.range_succ, List.flatMap_append, List.flatMap_singleton]
section
variable {P : Program} {w : World} {K : PySem.W.Frag} {mg : Str → Option Value} {base : Heap}
abbrev s_law_crosses : Stmt := topS 41
abbrev n_law_crosses : List Str := ["_law_one", "_law_other"]
theorem sc_law_crosses : FnScope n_law_crosses ["_law_one", "_law_other"] (defScope s_law_crosses) := ⟨rfl, rfl, rfl, by decide +kernel, rfl, by decide +kernel, by decide +kernel⟩
theorem ok_lcross {f : Addr} {fd : FuncData} {k : Nat} (F : Fun K "_law_crosses" "_law_crosses" s_law_crosses f fd) (T : Tx mg) : FnOk P w K mg base CX0 (k + 1) f fd ["_law_one", "_law_other"] spCross := by
  refine F.ok sc_law_crosses (fun vs H Q E h => ?_) (fun cdv A outer s H vs Q E hr h => ?_)
  · obtain ⟨a, b, p, q, rfl, _⟩ := h
    rfl
  · obtain ⟨a, b, p, r, rfl, hp, lp, hq, lq, q⟩ := h
    refine ⟨_, (pss_one (ps_ret (pe_or (pe_chain3 op_lt op_lt op_lt (pe_ix (i_tup (K := K)) (pv 0) pe_int (fun _ _ => rfl)) (pe_ix (i_tup (K := K)) (pv 1) pe_int (fun _ _ => rfl)) (pe_ix (i_tup (K := K)) (pv 0) pe_int (fun _ _ => rfl)) (pe_ix (i_tup (K := K)) (pv 1) pe_int (fun _ _ => rfl))) (pe_one (pe_chain3 op_lt op_lt op_lt (pe_ix (i_tup (K := K)) (pv 1) pe_int (fun _ _ => rfl)) (pe_ix (i_tup (K := K)) (pv 0) pe_int (fun _ _ => rfl)) (pe_ix (i_tup (K := K)) (pv 1) pe_int (fun _ _ => rfl)) (pe_ix (i_tup (K := K)) (pv 0) pe_int (fun _ _ => rfl))))))), ?_⟩
    obtain ⟨x, y, rfl⟩ := two' lp
    obtain ⟨u, v, rfl⟩ := two' lq
    refine chain_rows rfl rfl hp hq ⟨_, rfl, ite2 (fun e => ?_) (fun e => ?_)⟩
    · have : crossB [x, y] [u, v] = true := by
        unfold crossB
        rw [show (decide (p0 [x, y] < p0 [u, v]) && (decide (p0 [u, v] < p1 [x, y]) && decide (p1 [x, y] < p1 [u, v]))) = true from e, Bool.true_or]
      rw [this] at q
      exact q
    · refine chain_rows rfl rfl hq hp ?_
      have : crossB [x, y] [u, v] = (decide (u < x) && (decide (x < v) && decide (v < y))) := by
        unfold crossB
        rw [show (decide (p0 [x, y] < p0 [u, v]) && (decide (p0 [u, v] < p1 [x, y]) && decide (p1 [x, y] < p1 [u, v]))) = false from Bool.eq_false_iff.mpr e, Bool.false_or]
        rfl
      rw [this] at q
      exact q
abbrev s_law_chords : Stmt := topS 42
abbrev n_law_chords : List Str := ["_law_my_corners", "_law_found", "_law_low", "_law_high"]
theorem sc_law_chords : FnScope n_law_chords ["_law_my_corners"] (defScope s_law_chords) := ⟨rfl, rfl, rfl, by decide +kernel, rfl, by decide +kernel, by decide +kernel⟩
theorem ok_lchords {f : Addr} {fd : FuncData} {k : Nat} (F : Fun K "_law_chords" "_law_chords" s_law_chords f fd) (T : Tx mg) : FnOk P w K mg base CX0 (k + 1) f fd ["_law_my_corners"] spChords := by
  refine F.ok sc_law_chords (fun vs H Q E h => ?_) (fun cdv A outer s H vs Q E hr h => ?_)
  · obtain ⟨n, rfl, _⟩ := h
    rfl
  · obtain ⟨n, rfl, hn, q⟩ := h
    refine ⟨_, (pss_cons (ps_set (i := 1) sc_law_chords.nd rfl (.inl rfl) (pe_lst pa_nil))
  (pss_cons (ps_for PassesOwn.never rfl (pi_range1 (by rfl) T.range (pa_cons (pv 0) pa_nil)) (pg_name (i := 2) sc_law_chords.nd rfl (.inr rfl))
    (pss_one (ps_set (i := 1) sc_law_chords.nd rfl (.inl rfl) (pe_op op_cat (pv 1) (pe_lc (own := [("_law_high", 3)]) (by rfl) sc_law_chords.nd (pi_range2 (by rfl) T.range (pa_cons (pe_op op_add (pv 2) pe_int) (pa_cons (pv 0) pa_nil))) (blkOk_by (own := [("_law_high", 3)]) (N := n_law_chords) (sc := defScope s_law_chords) (by decide +kernel)) (fun _ _ _ _ _ => (pg_name (i := 3) sc_law_chords.nd rfl (.inl rfl))) (fun _ _ _ _ _ => pts_one (pt_cmpR op_lt (pe_op op_sub (pv 3) (pv 2)) (pe_op op_sub (pv 0) pe_int) (nomark _))) (fun _ _ _ _ _ => (pe_tup (pa_cons (pv 2) (pa_cons (pv 3) pa_nil)))))))))
  (pss_one (ps_ret (pv 1))))), ?_⟩
    have n7 : n ≤ 7 := by
      simp only [List.mem_cons, List.not_mem_nil, or_false] at hn
      omega
    refine ⟨Nat.zero_le _, fun R0 eR0 => ?_⟩
    refine ⟨.int n, rfl, n, rfl, by omega, by omega, for_range (fun i σ H' => ∃ (y2 : Option V) (R : Addr) (ts : List Addr), σ = [some (.int n), some (.ref R), y2, none] ∧ Same H H' ∧ H R = none ∧ H' R = some (.lst (ts.map V.ref)) ∧ RowsAt H' ts ((List.range i).flatMap (chordsOne n)))
      ⟨none, R0, [], rfl, same_upd eR0, eR0, upd_same, .nil⟩ ?_ ?_⟩
    · rintro i σ H1 hi ⟨y2, R, ts, rfl, s1, _, e1, hts⟩
      have hi : i < n := hi
      have e0 : (0 : Int) + (i : Int) = (i : Int) := by omega
      rw [e0]
      refine ⟨.ref R, rfl, .int i, rfl, _, _, rfl, rfl, .int n, rfl, _, _, rfl, ⟨by omega, by omega, by omega, by omega⟩, fun D eD => ?_⟩
      refine lc_range (fun x H' => LA RowAt H1 H' D (chPart n i x)) (LA.zero eD) ?_ ?_
      · rintro x H2 hx hA
        have hx : x < ((n : Int) - ((i : Int) + 2)).toNat := hx
        have lx := chPart_len n i x
        rw [chPart_succ]
        refine ⟨rfl, .int ((i : Int) + 2 + (x : Int)), rfl, .int i, rfl, _, _, rfl, rfl, .int n, rfl, _, _, rfl, rfl, _, _, rfl, rfl, _, rfl, ite2 (fun e => ?_) (fun e => ?_)⟩
        · rw [if_pos e]
          refine ⟨.int i, rfl, .int ((i : Int) + 2 + (x : Int)), rfl, by show 2 ≤ sizeLine; decide, fun b eb => ?_⟩
          exact hA.push steady_row eD (same_upd eb) upd_same (by omega)
        · rw [if_neg e, List.append_nil]
          exact hA
      · rintro H2 hA
        rw [show ((n : Int) - ((i : Int) + 2)).toNat = n - (i + 2) by omega] at hA
        obtain ⟨us, e2, hus, s2⟩ := hA
        have lu : us.length ≤ 7 := by
          rw [hus.1]
          exact Nat.le_trans (chPart_len _ _ _) (by omega)
        have lt : ts.length ≤ 49 := by
          rw [hts.1]
          refine Nat.le_trans (fm_len (k := 7) (fun lo => ?_) _) ?_
          · exact Nat.le_trans (chPart_len n lo (n - (lo + 2))) (by omega)
          · rw [List.length_range]
            omega
        refine ⟨R, D, _, _, rfl, rfl, s2 _ _ e1, e2, by rw [List.length_map, List.length_map]; exact Nat.le_of_lt (small1000 (by omega)), fun p hp => ?_⟩
        have sp := same_upd (o := .lst (ts.map V.ref ++ us.map V.ref)) hp
        have p0 : H p = none := by
          cases e : H p with
          | none => rfl
          | some o => rw [s2 _ _ (s1 _ _ e)] at hp; cases hp
        refine ⟨_, p, ts ++ us, rfl, (s1.trans s2).trans sp, p0, by rw [upd_same, List.map_append], ?_⟩
        rw [fm_range]
        exact (RowsAt.kt (.of (s2.trans sp)) hts).append (RowsAt.kt (.of sp) hus)
    · rintro σ H1 ⟨y2, R, ts, rfl, s1, r0, e1, hts⟩
      exact ⟨.ref R, rfl, q R ts H1 s1 r0 e1 hts⟩
end
end Bw
set_option Elab.async false
set_option linter.all false
set_option maxRecDepth 100000
set_option maxHeartbeats 4000000
namespace Bw
open PySem PySem.Spec PyProof.Rows L2
section
variable {P : Program} {w : World} {K : PySem.W.Frag} {mg : Str → Option Value} {base : Heap}
/-- not any([crosses(one, chord) for one in cut]) -/
theorem any_cross {a0 a1 a2 a3 : Option V} {t u : Addr} {r : List Ch} {c : Ch} {H6 : Hp} {R : Bool → Hp → Prop} (ht : TabAt H6 t r) (h2 : ∀ o ∈ r, o.length = 2) (hl : r.length ≤ 500) (hu : RowAt H6 u c) (lc : c.length = 2) (q : ∀ H', Same H6 H' → R (!(r.any fun o => crossB o c)) H') :
    tNot (tB (tCB (rAny K) (tCons (tLc (iTup K (tVar 4)) (gName 6) tYes (tCall spCross [] E0 (tCons (tVar 6) (tCons (tVar 5) tNil))) (List.map (fun x => x.snd) [(Str.ofString "_law_one", 6)])) tNil))) [a0, a1, a2, a3, some (.ref t), some (.ref u), none] H6 R := by
  obtain ⟨as, h1, hR⟩ := ht
  refine ⟨.ref t, rfl, t, rfl, ⟨_, SqT.of h1⟩, fun D eD => ?_⟩
  refine lc_tup (K := K) (a := t) (xs := as.map V.ref) (fun i H' => BA H6 H' D ((r.take i).map fun o => crossB o c)) (BA.zero eD) (fun i H' _ hA => SqT.of (hA.2 _ _ h1)) ?_ ?_
  · rintro i v H1 hv hA
    obtain ⟨x, ex, rfl⟩ := ref_at hv
    obtain ⟨o, eo, ho⟩ := hR.at ex
    have hi := (List.getElem?_eq_some_iff.mp eo).1
    refine ⟨rfl, .ref x, rfl, .ref u, rfl, x, u, o, c, rfl, hA.2 _ _ ho, h2 o (List.mem_of_getElem? eo), hA.2 _ _ hu, lc, ?_⟩
    rw [take_map _ eo]
    exact hA.push eD (.refl _) (by rw [List.length_map, List.length_take]; omega)
  · rintro H1 hA
    rw [List.length_map, hR.1, List.take_length] at hA
    refine ⟨D, _, rfl, SqL.of hA.1, _, rfl, ?_⟩
    rw [any_map]
    exact q _ hA.2
abbrev s_law_cuts : Stmt := topS 43
abbrev n_law_cuts : List Str := ["_law_my_corners", "_law_found", "_law_turn", "_law_longer", "_law_cut", "_law_chord", "_law_one"]
theorem sc_law_cuts : FnScope n_law_cuts ["_law_my_corners"] (defScope s_law_cuts) := ⟨rfl, rfl, rfl, by decide +kernel, rfl, by decide +kernel, by decide +kernel⟩
def spLCuts : Sp := fun vs H Q _ => ∃ (n : Nat), vs = [.int n] ∧ n ∈ [4, 5, 6, 7] ∧ ∀ (p : Addr) (ts : List Addr) (H' : Hp), Same H H' → H' p = some (.lst (ts.map V.ref)) → TabsAt H' ts (cutsW n) → Q (.ref p) H'
theorem ok_lcuts {f : Addr} {fd : FuncData} (F : Fun K "_law_cuts" "_law_cuts" s_law_cuts f fd) (T : Tx mg) (c_law_chords : Cal P w K mg base CX0 1 "_law_chords" ["_law_my_corners"] spChords) (c_law_crosses : Cal P w K mg base CX0 1 "_law_crosses" ["_law_one", "_law_other"] spCross) : FnOk P w K mg base CX0 2 f fd ["_law_my_corners"] spLCuts := by
  refine F.ok sc_law_cuts (fun vs H Q E h => ?_) (fun cdv A outer s H vs Q E hr h => ?_)
  · obtain ⟨n, rfl, _⟩ := h
    rfl
  · obtain ⟨k, rfl, hk, q⟩ := h
    have hu := hr.units
    refine ⟨_, (pss_cons (ps_set (i := 1) sc_law_cuts.nd rfl (.inl rfl) (pe_lst (pa_cons (pe_tup pa_nil) pa_nil)))
  (pss_cons (ps_for PassesOwn.never rfl (pi_range1 (by rfl) T.range (pa_cons (pe_op op_sub (pv 0) pe_int) pa_nil)) (pg_name (i := 2) sc_law_cuts.nd rfl (.inl rfl))
    (pss_cons (ps_set (i := 3) sc_law_cuts.nd rfl (.inl rfl) (pe_lst pa_nil))
    (pss_cons (ps_for PassesOwn.never rfl (p_list (K := K) (pv 1)) (pg_name (i := 4) sc_law_cuts.nd rfl (.inl rfl))
      (pss_one (ps_for PassesOwn.never rfl (p_list (K := K) (pe_cal c_law_chords hr (by rfl) (pa_cons (pv 0) pa_nil))) (pg_name (i := 5) sc_law_cuts.nd rfl (.inr rfl))
        (pss_one (ps_if (PW.pt (pw_and (PW.pt (pw_or (pt_cmpR (o_eqD (K := K) hu) (pv 4) (pe_tup pa_nil) (nomark _)) (pw_or1 (pt_cmpR (o_ltT (K := K) hr.units0) (pe_ix (i_tup (K := K)) (pv 4) (pe_un un_neg pe_int) (fun _ _ => rfl)) (pv 5) (nomark _))))) (pw_and1 (pt_not (pt_val (pe_callB (c_any (K := K) rfl) (by rfl) T.any (by decide +kernel) (pa_cons (pe_lc (own := [("_law_one", 6)]) (by rfl) sc_law_cuts.nd (p_tup (K := K) (pv 4)) (blkOk_by (own := [("_law_one", 6)]) (N := n_law_cuts) (sc := defScope s_law_cuts) (by decide +kernel)) (fun _ _ _ _ _ => (pg_name (i := 6) sc_law_cuts.nd rfl (.inl rfl))) (fun _ _ _ _ _ => pts_nil) (fun _ _ _ _ _ => (pe_cal c_law_crosses hr (by rfl) (pa_cons (pv 6) (pa_cons (pv 5) pa_nil))))) pa_nil)))))))
          (pss_one (ps_expr (pe_bm PySem.F.plainAttrs_list PySem.F.slot_list_append PySem.F.type_list_append mt_append (pv 3) (pa_cons (pe_op (o_cat (K := K)) (pv 4) (pe_tup (pa_cons (pv 5) pa_nil))) pa_nil))))
          pss_nil)))))
    (pss_one (ps_set (i := 1) sc_law_cuts.nd rfl (.inl rfl) (pv 3))))))
  (pss_one (ps_ret (pv 1))))), ?_⟩
    have k7 : 4 ≤ k ∧ k ≤ 7 := by
      simp only [List.mem_cons, List.not_mem_nil, or_false] at hk
      omega
    obtain ⟨l14, two14⟩ := chords_len k hk
    refine ⟨Nat.zero_le _, fun e he => ⟨by show 1 ≤ sizeLine; decide, fun R eR => ?_⟩⟩
    have s2 := same_upd (o := .tup []) he
    have s3 := same_upd (o := .lst [.ref e]) eR
    refine ⟨.int k, rfl, _, _, rfl, rfl, _, rfl, by omega, by omega, for_range (fun i σ H' => ∃ (y2 y3 y4 y5 : Option V) (R : Addr) (ts : List Addr), σ = [some (.int k), some (.ref R), y2, y3, y4, y5, none] ∧ Same H H' ∧ H' R = some (.lst (ts.map V.ref)) ∧ TabsAt H' ts (grow fitsW (chordsW k) i))
      ⟨none, none, none, none, R, [e], rfl, s2.trans s3, upd_same, .one ⟨[], s3 _ _ upd_same, .nil⟩⟩ ?_ ?_⟩
    · rintro i σ H2 hi ⟨y2, y3, y4, y5, R, ts, rfl, sm, eR1, hts⟩
      have hi : i < ((k : Int) - 3).toNat := hi
      have hgl := (grow_len k hk (i + 1) (List.mem_range.mpr (by omega))).2
      refine ⟨Nat.zero_le _, fun D eD => ?_⟩
      have sD := same_upd (o := .lst []) eD
      refine ⟨.ref R, rfl, R, rfl, ⟨_, SqL.of (sD _ _ eR1)⟩, ?_⟩
      refine for_list (K := K) (a := R) (xs := ts.map V.ref) (fun j σ H' => ∃ (y4 y5 : Option V), σ = [some (.int k), some (.ref R), some (.int (0 + (i : Int))), some (.ref D), y4, y5, none] ∧ LA TabAt H2 H' D (((grow fitsW (chordsW k) i).take j).flatMap (growOne fitsW (chordsW k)))) ⟨_, _, rfl, LA.zero eD⟩ (fun j σ H' _ ⟨_, _, _, hA⟩ => SqL.of (hA.stay _ _ eR1)) ?_ ?_
      · rintro j v σ H3 hv ⟨y4, y5, rfl, hA⟩
        obtain ⟨t, et, rfl⟩ := ref_at hv
        obtain ⟨r, er, ht⟩ := hts.at et
        obtain ⟨lr, hrm⟩ := grow_mem (List.mem_of_getElem? er)
        have ld : (((grow fitsW (chordsW k) i).take j).flatMap (growOne fitsW (chordsW k))).length ≤ 100 := Nat.le_trans (fm_pre _ _ _) hgl
        refine ⟨.int k, rfl, k, rfl, hk, fun R0 cs H4 s4 r00 e4 hcs => ⟨R0, rfl, ⟨_, SqL.of e4⟩, ?_⟩⟩
        have hA4 := hA.more steady_tab s4
        obtain ⟨ds, eD4⟩ : ∃ ds, H4 D = some (.lst ds) := let ⟨_, e, _⟩ := hA4; ⟨_, e⟩
        have nRD : R0 ≠ D := fun z => by
          obtain ⟨_, e, _⟩ := hA
          rw [← z, r00] at e
          cases e
        have kt4 : ∀ H', (∀ b o, b ≠ D → H4 b = some o → H' b = some o) → KeepT H4 H' := fun H' k4 b xs e => k4 b _ (fun z => by rw [z, eD4] at e; cases e) e
        refine for_list (K := K) (a := R0) (xs := cs.map V.ref) (fun x σ H' => ∃ (y5 : Option V), σ = [some (.int k), some (.ref R), some (.int (0 + (i : Int))), some (.ref D), some (.ref t), y5, none] ∧ (∀ b o, b ≠ D → H4 b = some o → H' b = some o) ∧ LA TabAt H2 H' D (((grow fitsW (chordsW k) i).take j).flatMap (growOne fitsW (chordsW k)) ++ growOne fitsW ((chordsW k).take x) r)) ⟨_, rfl, fun _ _ _ h => h, ?_⟩ (fun x σ H' _ ⟨_, _, k4, _⟩ => SqL.of (k4 _ _ nRD e4)) ?_ ?_
        · rw [show growOne fitsW ((chordsW k).take 0) r = [] from rfl, List.append_nil]
          exact hA4
        · rintro x v σ H5 hv ⟨y5, rfl, k5, hA5⟩
          obtain ⟨u, eu, rfl⟩ := ref_at hv
          obtain ⟨c, ec, hu0⟩ := hcs.at eu
          have hu5 : H5 u = some (.tup (c.map V.int)) := kt4 _ k5 _ _ hu0
          have lc := two14 c (List.mem_of_getElem? ec)
          have ht5 : TabAt H5 t r := ht.kt (.of hA5.stay)
          obtain ⟨as, h1, h2⟩ := id ht5
          have lx := Nat.le_trans (growOne_len (F := fitsW) ((chordsW k).take x) r) (Nat.le_trans (List.length_take_le' _ _) l14)
          have las : as.length = r.length := h2.1
          rw [growOne_succ ec]
          -- what follows where nothing is put behind
          have no : fitsW c r = false → ∀ H6, Same H5 H6 → ∃ (y5 : Option V), [some (V.int k), some (.ref R), some (.int (0 + (i : Int))), some (.ref D), some (.ref t), some (.ref u), none] = [some (V.int k), some (.ref R), some (.int (0 + (i : Int))), some (.ref D), some (.ref t), y5, none] ∧ (∀ b o, b ≠ D → H4 b = some o → H6 b = some o) ∧ LA TabAt H2 H6 D (((grow fitsW (chordsW k) i).take j).flatMap (growOne fitsW (chordsW k)) ++ (growOne fitsW ((chordsW k).take x) r ++ (if fitsW c r = true then [r ++ [c]] else []))) := fun ef H6 s6 => by
            rw [ef, if_neg Bool.false_ne_true, List.append_nil]
            exact ⟨_, rfl, fun b o nb e => s6 _ _ (k5 b o nb e), hA5.more steady_tab s6⟩
          -- the rest of the test
          have rest : ∀ H6, Same H5 H6 → (decide (r = []) || HT.lexLt (lastD r) c) = true → fitsW c r = !(r.any fun o => crossB o c) := fun H6 s6 e => by
            unfold fitsW
            rw [e, Bool.true_and]
          refine ⟨.ref t, rfl, Nat.zero_le _, fun e0 he0 => ?_⟩
          have s6 := same_upd (o := .tup []) he0
          refine ⟨tabD r, tabD [], dp_tab (ht5.kt (.of s6)), .tup (SqT.of upd_same) .nil, shaped_tab r, shaped_tab [], ?_⟩
          rw [tabD_eqv]
          have he6 : (upd H5 e0 (.tup [])) e0 = some (.tup []) := upd_same
          generalize (upd H5 e0 (.tup [])) = H6 at s6 he6
          clear he0

          have ht6 := ht5.kt (.of s6)
          have hu6 := s6 _ _ hu5
          have hr2 : ∀ o ∈ r, o.length = 2 := fun o ho => two14 o (hrm o ho)
          -- put behind
          have yes : fitsW c r = true → ∀ H7, Same H5 H7 → tBM K "list" rAppend (tVar 3) (tCons (tOp (rCatA K) (tVar 4) (tTup (tCons (tVar 5) tNil))) tNil) [some (V.int k), some (.ref R), some (.int (0 + (i : Int))), some (.ref D), some (.ref t), some (.ref u), none] H7 fun _ H' =>
              ∃ (y5 : Option V), [some (V.int k), some (.ref R), some (.int (0 + (i : Int))), some (.ref D), some (.ref t), some (.ref u), none] = [some (V.int k), some (.ref R), some (.int (0 + (i : Int))), some (.ref D), some (.ref t), y5, none] ∧ (∀ b o, b ≠ D → H4 b = some o → H' b = some o) ∧ LA TabAt H2 H' D (((grow fitsW (chordsW k) i).take j).flatMap (growOne fitsW (chordsW k)) ++ (growOne fitsW ((chordsW k).take x) r ++ (if fitsW c r = true then [r ++ [c]] else []))) := fun ef H7 s7 => by
            obtain ⟨ds, e7, _⟩ := hA5.more steady_tab s7
            refine ⟨.ref D, rfl, .inl ⟨rfl, _, SqL.of e7⟩, .ref t, rfl, .ref u, rfl, by show 1 ≤ sizeLine; decide, fun b eb => ?_⟩
            have sb := same_upd (o := .tup [.ref u]) eb
            refine cat_refs (sb _ _ (s7 _ _ h1)) upd_same (by rw [List.length_map, las]; omega) (by show 1 ≤ 500; decide) fun p H8 s8 hp => ?_
            have s58 := (s7.trans sb).trans s8
            obtain ⟨acc, e8, l8, hA8⟩ := hA5.push steady_tab eD s58 (TabAt.snoc hp (RowsAt.kt (.of s58) h2) (s58 _ _ hu5)) (by rw [List.length_append]; omega)
            refine ⟨D, _, _, rfl, rfl, e8, l8, _, rfl, fun b o nb e => ?_, ?_⟩
            · rw [upd_ne nb]
              exact s58 _ _ (k5 b o nb e)
            · rw [ef, if_pos rfl, ← List.append_assoc]
              exact hA8
          have both : (decide (r = []) || HT.lexLt (lastD r) c) = true → ∀ H7, Same H5 H7 → ∀ (R' : Bool → Hp → Prop), (∀ H8, Same H5 H8 → R' (fitsW c r) H8) →
              tNot (tB (tCB (rAny K) (tCons (tLc (iTup K (tVar 4)) (gName 6) tYes (tCall spCross [] E0 (tCons (tVar 6) (tCons (tVar 5) tNil))) (List.map (fun x => x.snd) [(Str.ofString "_law_one", 6)])) tNil))) [some (V.int k), some (.ref R), some (.int (0 + (i : Int))), some (.ref D), some (.ref t), some (.ref u), none] H7 R' := fun e H7 s7 R' q' =>
            any_cross (ht5.kt (.of s7)) hr2 (by omega) (s7 _ _ hu5) lc fun H8 s8 => by
              rw [← rest H7 s7 e]
              exact q' H8 (s7.trans s8)
          have last : ∀ H8, Same H5 H8 → if fitsW c r = true then _ else _ := fun H8 s8 => ite2 (fun e => yes e H8 s8) (fun e => no (Bool.eq_false_iff.mpr e) H8 s8)
          refine ⟨_, rfl, ite2 (fun e => iteT ?_) (fun e => ?_)⟩
          · exact both (by rw [e, Bool.true_or]) H6 s6 _ last
          · have e : r ≠ [] := fun z => e (decide_eq_true z)
            have h0 : 0 < r.length := List.length_pos_iff.mpr e
            have hi : r.length - 1 < r.length := by omega
            obtain ⟨z, ez, hz⟩ := h2.2 (r.length - 1) _ (List.getElem?_eq_getElem hi)
            have el : r[r.length - 1] = lastD r := by
              unfold lastD
              rw [List.getD_eq_getElem?_getD, List.getElem?_eq_getElem hi]
              rfl
            rw [el] at hz
            have eat : atI (as.map V.ref) (-1) = some (.ref z) := by
              refine last_at ?_ (by rw [List.length_map, las]; exact h0)
              rw [List.length_map, las, List.getElem?_map, ez]
              rfl
            refine ⟨.ref t, rfl, 1, rfl, t, _, -1, .ref z, rfl, rfl, SqT.of (s6 _ _ h1), eat, .ref u, rfl, z, u, lastD r, c, rfl, rfl, SqT.of (s6 _ _ hz), SqT.of hu6, _, rfl, ite2 (fun e2 => ?_) (fun e2 => iteF ?_)⟩
            · exact both (by rw [e2, Bool.or_true]) H6 s6 _ last
            · refine no ?_ H6 s6
              unfold fitsW
              rw [decide_eq_false e, Bool.eq_false_iff.mpr e2]
              rfl
        · rintro σ H5 ⟨y5, rfl, k5, hA5⟩
          rw [List.length_map, hcs.1, List.take_length] at hA5
          rw [fm_take er]
          exact ⟨_, _, rfl, hA5⟩
      · rintro σ H3 ⟨y4, y5, rfl, hA⟩
        rw [List.length_map, hts.1, List.take_length] at hA
        obtain ⟨us, e2, hus, s4⟩ := hA
        exact ⟨.ref D, rfl, _, _, _, _, D, us, rfl, sm.trans s4, e2, hus⟩
    · rintro σ H2 ⟨y2, y3, y4, y5, R, ts, rfl, sm, eR1, hts⟩
      rw [show ((k : Int) - 3).toNat = k - 3 by omega] at hts
      exact ⟨.ref R, rfl, q R ts _ sm eR1 hts⟩
end
end Bw
set_option Elab.async false
set_option linter.all false
set_option maxRecDepth 100000
set_option maxHeartbeats 4000000
namespace Bw
open PySem PySem.Spec PyProof.Rows L2
theorem seqIx {u : Int} {n : Nat} (h0 : 0 ≤ u) (h1 : u < n) : seqIndex? u n = some u.toNat := by
  unfold seqIndex?
  simp only [show ¬ u < 0 by omega, if_false]
  rw [if_pos]
  simp only [Bool.and_eq_true, decide_eq_true_eq]
  exact ⟨h0, h1⟩
theorem erase_perm {α : Type} : ∀ {l : List α} {k : Nat} (h : k < l.length), (l[k] :: l.eraseIdx k).Perm l
  | a :: l, 0, _ => List.Perm.refl _
  | a :: l, k + 1, h => by
    have hk : k < l.length := Nat.lt_of_succ_lt_succ h
    have ih := erase_perm (l := l) (k := k) hk
    show (l[k] :: a :: l.eraseIdx k).Perm (a :: l)
    exact (List.Perm.swap a _ _).trans (ih.cons a)
theorem inV_int (j : Int) : ∀ ps : List Int, inV (.int j) (ps.map V.int) = decide (j ∈ ps)
  | [] => rfl
  | p :: ps => by
    have ih := inV_int j ps
    unfold inV at ih ⊢
    rw [List.map_cons, List.any_cons, ih]
    show (p == j || decide (j ∈ ps)) = _
    by_cases e : p = j
    · subst e
      simp
    · have : (p == j) = false := by simpa using e
      rw [this, Bool.false_or]
      have h : (j ∈ p :: ps) ↔ j ∈ ps := by
        rw [List.mem_cons]
        exact ⟨fun z => z.resolve_left fun q => e q.symm, .inr⟩
      exact decide_eq_decide.mpr h.symm
theorem flat_ints (ps : List Int) : (ps.map V.int).all flatV = true := by
  rw [List.all_eq_true]
  intro x hx
  obtain ⟨i, _, rfl⟩ := List.mem_map.mp hx
  rfl
def vref : V → Addr
  | .ref a => a
  | _ => 0
theorem refs_perm {ys : List V} {ts : List Addr} (p : ys.Perm (ts.map V.ref)) : ∃ zs : List Addr, ys = zs.map V.ref ∧ ts.Perm zs := by
  refine ⟨ys.map vref, ?_, ?_⟩
  · rw [List.map_map]
    have : ∀ y ∈ ys, (V.ref ∘ vref) y = y := fun y hy => by
      obtain ⟨t, _, rfl⟩ := List.mem_map.mp (p.mem_iff.mp hy)
      rfl
    exact ((List.map_congr_left this).trans (List.map_id' ys)).symm
  · have := (p.map vref).symm
    rw [List.map_map] at this
    have e : ts.map (vref ∘ V.ref) = ts := List.map_id'' (fun _ => rfl) ts
    rw [e] at this
    exact this
section
variable {P : Program} {w : World} {K : PySem.W.Frag} {mg : Str → Option Value} {base : Heap}
abbrev s_law_shuffled : Stmt := topS 38
abbrev n_law_shuffled : List Str := ["_law_feed_here", "_law_row", "_law_left", "_law_one"]
theorem sc_law_shuffled : FnScope n_law_shuffled ["_law_feed_here", "_law_row"] (defScope s_law_shuffled) := ⟨rfl, rfl, rfl, by decide +kernel, rfl, by decide +kernel, by decide +kernel⟩
def spShuf : Sp := fun vs H Q _ => ∃ (f l a : Addr) (xs : List V), vs = [.ref f, .ref a] ∧ FeedAt H f l ∧ H a = some (.lst xs) ∧ a ≠ f ∧ xs.length ≤ 500 ∧
  ∀ (b : Addr) (ys : List V) (H' : Hp), ys.Perm xs → SameBut f H H' → FeedAt H' f l → H b = none → H' b = some (.lst ys) → Q (.ref b) H'
theorem ok_shuf {f : Addr} {fd : FuncData} (F : Fun K "_law_shuffled" "_law_shuffled" s_law_shuffled f fd) (T : Tx mg) (c_law_draw : Cal P w K mg base CX0 1 "_law_draw" ["_law_feed_here", "_law_many"] spDraw) : FnOk P w K mg base CX0 2 f fd ["_law_feed_here", "_law_row"] spShuf := by
  refine F.ok sc_law_shuffled (fun vs H Q E h => ?_) (fun cdv A outer s H vs Q E hr h => ?_)
  · obtain ⟨f, l, a, xs, rfl, _⟩ := h
    rfl
  · obtain ⟨f, l, a, xs, rfl, hf, ha, naf, hl, q⟩ := h
    refine ⟨_, (pss_cons (ps_set (i := 2) sc_law_shuffled.nd rfl (.inr rfl) (pe_callTy (c_lst (K := K)) (by rfl) T.list (by decide +kernel) (pa_cons (pv 1) pa_nil)))
  (pss_one (ps_ret (pe_lc (own := [("_law_one", 3)]) (by rfl) sc_law_shuffled.nd (p_list (K := K) (pv 1)) (blkOk_by (own := [("_law_one", 3)]) (N := n_law_shuffled) (sc := defScope s_law_shuffled) (by decide +kernel)) (fun _ _ _ _ _ => (pg_name (i := 3) sc_law_shuffled.nd rfl (.inl rfl))) (fun _ _ _ _ _ => pts_nil) (fun _ _ _ _ _ => (p_bm (K := K) PySem.F.plainAttrs_list PySem.F.slot_list_pop PySem.F.type_list_pop mt_popAt (pv 2) (pa_cons (pe_cal c_law_draw (hr.mono (by decide)) (by rfl) (pa_cons (pv 0) (pa_cons (pe_callB (c_len (K := K)) (by rfl) T.len PySem.boot_len (pa_cons (pv 2) pa_nil)) pa_nil))) pa_nil))))))), ?_⟩
    refine ⟨.ref a, rfl, a, _, rfl, .inl (SqL.of ha), fun L eL => ?_⟩
    have sL := same_upd (o := .lst xs) eL
    have nLf : L ≠ f := hf.ne eL
    have nLl : L ≠ l := hf.ne2 eL
    have nLa : L ≠ a := Ne.symm (ne_of_none ha eL)
    refine ⟨.ref a, rfl, a, rfl, ⟨_, SqL.of (sL _ _ ha)⟩, fun D eD => ?_⟩
    have nDL : D ≠ L := fun z => by
      rw [z, upd_same] at eD
      cases eD
    have D0 : H D = none := by
      rw [upd_ne nDL] at eD
      exact eD
    have nDf : D ≠ f := hf.ne D0
    have nDl : D ≠ l := hf.ne2 D0
    refine lc_list (K := K) (a := a) (xs := xs) (fun j H' => ∃ left out : List V, H' L = some (.lst left) ∧ H' D = some (.lst out) ∧ (out ++ left).Perm xs ∧ out.length = j ∧ SameBut f H H' ∧ FeedAt H' f l)
      ⟨xs, [], by rw [upd_ne (Ne.symm nDL)]; exact upd_same, upd_same, List.Perm.refl _, rfl, SameBut.updN sL.but D0, (hf.same sL).put nDf nDl⟩ (fun j H' _ ⟨_, _, _, _, _, _, sb, _⟩ => SqL.of (sb _ _ naf ha)) ?_ ?_
    · rintro j x H1 hx ⟨left, out, e1, e2, pm, lo, sb1, hf1⟩
      have hj := (List.getElem?_eq_some_iff.mp hx).1
      have hlen := pm.length_eq
      rw [List.length_append, lo] at hlen
      refine ⟨rfl, .ref L, rfl, .inl ⟨rfl, _, SqL.of e1⟩, .ref f, rfl, .ref L, rfl, L, _, rfl, .inl (SqL.of e1), f, l, _, rfl, hf1, by omega, Nat.lt_trans (show ((left.length : Int)).natAbs < 1000 by omega) (by decide), fun u H2 u0 u1 sb2 hf2 => ?_⟩
      have hk : u.toNat < left.length := by omega
      have e1' := sb2 _ _ nLf e1
      have e2' := sb2 _ _ nDf e2
      refine ⟨L, left, u, u.toNat, left[u.toNat], rfl, rfl, e1', by omega, by omega, seqIx u0 u1, List.getElem?_eq_getElem hk, ?_⟩
      refine ⟨out, by rw [upd_ne nDL]; exact e2', small1000 (by omega), left.eraseIdx u.toNat, out ++ [left[u.toNat]], by rw [upd_ne (Ne.symm nDL)]; exact upd_same, upd_same, ?_, by rw [List.length_append, lo]; rfl, ?_, ?_⟩
      · rw [List.append_assoc]
        exact ((erase_perm hk).append_left out).trans pm
      · exact SameBut.updN (SameBut.updN (sb1.trans sb2) eL) D0
      · exact (hf2.put nLf nLl).put nDf nDl
    · rintro H1 ⟨left, out, e1, e2, pm, lo, sb1, hf1⟩
      have hlen := pm.length_eq
      rw [List.length_append, lo] at hlen
      have : left = [] := List.eq_nil_of_length_eq_zero (by omega)
      subst this
      rw [List.append_nil] at pm
      exact q D out H1 pm sb1 hf1 D0 e2
end
theorem keys_rows {H : Hp} : ∀ {ts : List Addr} {c : List Ch}, RowsAt H ts c → ts.map (keyOf H) = c
  | [], [], _ => rfl
  | [], _ :: _, h => absurd h.1 (by simp)
  | _ :: _, [], h => absurd h.1 (by simp)
  | t :: ts, p :: c, h => by
    rw [List.map_cons, keys_rows h.tail.2, keyOf_at h.tail.1]
section
variable {P : Program} {w : World} {K : PySem.W.Frag} {mg : Str → Option Value} {base : Heap}
/-- sorted(rows): what it asks and tells -/
theorem sort_rows {H : Hp} {ts : List Addr} {c : List Ch} (hR : RowsAt H ts c) (h2 : ∀ p ∈ c, p.length = 2) : (∀ t ∈ ts, ∃ q : List Int, H t = some (.tup (q.map V.int))) ∧ (2 ≤ ts.length → ∀ t ∈ ts, keyOf H t ≠ []) ∧
    ∀ ts' : List Addr, ts'.Perm ts → (ts'.Pairwise fun x y => HT.lexLt (keyOf H y) (keyOf H x) = false) → ∃ out : List Ch, out.Perm c ∧ (out.Pairwise fun x y => HT.lexLt y x = false) ∧ RowsAt H ts' out := by
  have rowOf : ∀ t ∈ ts, ∃ r : Ch, RowAt H t r ∧ r ∈ c := fun t ht => by
    obtain ⟨i, hi⟩ := List.getElem?_of_mem ht
    obtain ⟨r, er, hr⟩ := hR.at hi
    exact ⟨r, hr, List.mem_of_getElem? er⟩
  refine ⟨fun t ht => ?_, fun _ t ht => ?_, fun ts' pm pw => ?_⟩
  · obtain ⟨r, hr, _⟩ := rowOf t ht
    exact ⟨r, hr⟩
  · obtain ⟨r, hr, hm⟩ := rowOf t ht
    rw [keyOf_at hr]
    intro z
    have := h2 r hm
    rw [z] at this
    cases this
  · obtain ⟨out, p1, hO⟩ := hR.perm pm.symm
    refine ⟨out, p1, ?_, hO⟩
    rw [← keys_rows hO, List.pairwise_map]
    exact pw
abbrev s_law_a_cut : Stmt := topS 44
abbrev n_law_a_cut : List Str := ["_law_feed_here", "_law_my_corners", "_law_found", "_law_chord", "_law_one"]
theorem sc_law_a_cut : FnScope n_law_a_cut ["_law_feed_here", "_law_my_corners"] (defScope s_law_a_cut) := ⟨rfl, rfl, rfl, by decide +kernel, rfl, by decide +kernel, by decide +kernel⟩
def spACut : Sp := fun vs H Q _ => ∃ (f l : Addr) (n : Nat), vs = [.ref f, .int n] ∧ FeedAt H f l ∧ n ∈ [4, 5, 6, 7] ∧ ∀ (p : Addr) (cut : List Ch) (H' : Hp), cut ∈ cutsW n → SameBut f H H' → FeedAt H' f l → TabAt H' p cut → Q (.ref p) H'
theorem ok_acut {f : Addr} {fd : FuncData} (F : Fun K "_law_a_cut" "_law_a_cut" s_law_a_cut f fd) (T : Tx mg) (c_law_shuffled : Cal P w K mg base CX0 2 "_law_shuffled" ["_law_feed_here", "_law_row"] spShuf) (c_law_chords : Cal P w K mg base CX0 1 "_law_chords" ["_law_my_corners"] spChords) (c_law_crosses : Cal P w K mg base CX0 1 "_law_crosses" ["_law_one", "_law_other"] spCross) : FnOk P w K mg base CX0 3 f fd ["_law_feed_here", "_law_my_corners"] spACut := by
  refine F.ok sc_law_a_cut (fun vs H Q E h => ?_) (fun cdv A outer s H vs Q E hr h => ?_)
  · obtain ⟨f, l, n, rfl, _⟩ := h
    rfl
  · obtain ⟨f, l, n, rfl, hf, hn, q⟩ := h
    have hr1 := hr.mono (show 1 ≤ 2 by decide)
    refine ⟨_, (pss_cons (ps_set (i := 2) sc_law_a_cut.nd rfl (.inl rfl) (pe_lst pa_nil))
  (pss_cons (ps_for PassesOwn.never rfl (p_list (K := K) (pe_cal c_law_shuffled hr (by rfl) (pa_cons (pv 0) (pa_cons (pe_cal c_law_chords hr1 (by rfl) (pa_cons (pv 1) pa_nil)) pa_nil)))) (pg_name (i := 3) sc_law_a_cut.nd rfl (.inr rfl))
    (pss_one (ps_if (pt_not (pt_val (pe_callB (c_any (K := K) rfl) (by rfl) T.any (by decide +kernel) (pa_cons (pe_lc (own := [("_law_one", 4)]) (by rfl) sc_law_a_cut.nd (p_list (K := K) (pv 2)) (blkOk_by (own := [("_law_one", 4)]) (N := n_law_a_cut) (sc := defScope s_law_a_cut) (by decide +kernel)) (fun _ _ _ _ _ => (pg_name (i := 4) sc_law_a_cut.nd rfl (.inl rfl))) (fun _ _ _ _ _ => pts_nil) (fun _ _ _ _ _ => (pe_cal c_law_crosses hr1 (by rfl) (pa_cons (pv 4) (pa_cons (pv 3) pa_nil))))) pa_nil))))
      (pss_one (ps_expr (pe_bm PySem.F.plainAttrs_list PySem.F.slot_list_append PySem.F.type_list_append mt_append (pv 2) (pa_cons (pv 3) pa_nil))))
      pss_nil)))
  (pss_one (ps_ret (pe_callTy (c_tup (K := K)) (by rfl) T.tuple (by decide +kernel) (pa_cons (pe_callB (cr_sortTI (K := K)) (by rfl) T.sorted (by decide +kernel) (pa_cons (pv 2) pa_nil)) pa_nil)))))), ?_⟩
    obtain ⟨l14, two14⟩ := chords_len n hn
    refine ⟨Nat.zero_le _, fun L eL => ?_⟩
    have sL := same_upd (o := .lst []) eL
    have nLf : L ≠ f := hf.ne eL
    have hf1 := hf.same sL
    have eL1 : (upd H L (.lst [])) L = some (.lst []) := upd_same
    generalize (upd H L (.lst [])) = H1 at sL hf1 eL1
    refine ⟨.ref f, rfl, .int n, rfl, n, rfl, hn, fun R0 cs H2 s2 r0 e2 hcs => ?_⟩
    have hf2 := hf1.same s2
    have nR0 : R0 ≠ f := hf1.ne r0
    refine ⟨f, l, R0, _, rfl, hf2, e2, nR0, by rw [List.length_map, hcs.1]; omega, fun Z ys H3 pm sb3 hf3 z0 eZ => ?_⟩
    obtain ⟨zs, rfl, pz⟩ := refs_perm pm
    obtain ⟨all, pall, hall⟩ := (RowsAt.kt (.but sb3 hf2) hcs).perm pz
    have nda : all.Nodup := pall.nodup_iff.mpr (chords_sorted n hn).2
    have eL3 := sb3 _ _ nLf (s2 _ _ eL1)
    have nZL : Z ≠ L := fun z => by
      rw [z, s2 _ _ eL1] at z0
      cases z0
    have two : ∀ c ∈ all, c.length = 2 := fun c hc => two14 c (pall.mem_iff.mp hc)
    have lall : all.length ≤ 14 := by
      rw [pall.length_eq]
      exact l14
    have sb0 : SameBut f H H3 := (sL.trans s2).but.trans sb3
    refine ⟨Z, rfl, ⟨_, SqL.of eZ⟩, ?_⟩
    refine for_list (K := K) (a := Z) (xs := zs.map V.ref) (fun j σ H' => ∃ (y3 : Option V) (fs : List Addr) (found : List Ch), σ = [some (.ref f), some (.int n), some (.ref L), y3, none] ∧ (∀ b o, b ≠ L → H3 b = some o → H' b = some o) ∧ H' L = some (.lst (fs.map V.ref)) ∧ RowsAt H' fs found ∧
        (∀ c ∈ found, c ∈ all.take j) ∧ found.Nodup ∧ (∀ a ∈ found, ∀ b ∈ found, crossB a b = false) ∧ ∀ c ∈ all.take j, c ∈ found ∨ ∃ o ∈ found, crossB o c = true)
      ⟨none, [], [], rfl, fun _ _ _ h => h, eL3, .nil, (by intro c hc; cases hc), List.nodup_nil, (by intro a ha; cases ha), (by intro c hc; rw [List.take_zero] at hc; cases hc)⟩ (fun j σ H' _ ⟨_, _, _, _, k, _⟩ => SqL.of (k _ _ nZL eZ)) ?_ ?_
    · rintro j v σ H4 hv ⟨y3, fs, found, rfl, k4, e4, hF, hsub, nd, hx, hm⟩
      obtain ⟨u, eu, rfl⟩ := ref_at hv
      obtain ⟨c, ec, hu0⟩ := hall.at eu
      have hj := (List.getElem?_eq_some_iff.mp ec).1
      have hu4 : H4 u = some (.tup (c.map V.int)) := k4 _ _ (fun z => by rw [z] at hu0; exact absurd (hu0.symm.trans eL3) (by intro y; cases y)) hu0
      have lc := two c (List.mem_of_getElem? ec)
      have etk : all.take (j + 1) = all.take j ++ [c] := by
        rw [List.take_succ, ec]
        rfl
      have lf : found.length ≤ 14 := by
        have : found.length ≤ (all.take j).length := List.Nodup.length_le_of_subset nd hsub
        rw [List.length_take] at this
        omega
      have cnew : c ∉ all.take j := fun hc => by
        have h1 := (nda.sublist (List.take_sublist (j + 1) all))
        rw [etk] at h1
        exact (List.nodup_append.mp h1).2.2 c hc c (List.mem_singleton.mpr rfl) rfl
      refine ⟨.ref L, rfl, L, rfl, ⟨_, SqL.of e4⟩, fun D eD => ?_⟩
      refine lc_list (K := K) (a := L) (xs := fs.map V.ref) (fun i H' => BA H4 H' D ((found.take i).map fun o => crossB o c)) (BA.zero eD) (fun i H' _ hA => SqL.of (hA.2 _ _ e4)) ?_ ?_
      · rintro i v H5 hv hA
        obtain ⟨x, ex, rfl⟩ := ref_at hv
        obtain ⟨o, eo, ho⟩ := hF.at ex
        refine ⟨rfl, .ref x, rfl, .ref u, rfl, x, u, o, c, rfl, hA.2 _ _ ho, two o (List.mem_of_mem_take (hsub o (List.mem_of_getElem? eo))), hA.2 _ _ hu4, lc, ?_⟩
        rw [take_map _ eo]
        exact hA.push eD (.refl _) (by rw [List.length_map, List.length_take]; omega)
      · rintro H5 hA
        rw [List.length_map, hF.1, List.take_length] at hA
        have s5 := hA.2
        refine ⟨D, _, rfl, SqL.of hA.1, ?_⟩
        rw [any_map]
        refine ⟨_, rfl, ?_⟩
        have e5 := s5 _ _ e4
        cases ea : found.any fun o => crossB o c with
        | true =>
          refine iteF ⟨_, fs, found, rfl, fun b o nb e => s5 _ _ (k4 b o nb e), e5, RowsAt.kt (.of s5) hF, fun d hd => ?_, nd, hx, fun d hd => ?_⟩
          · rw [etk]
            exact List.mem_append_left _ (hsub d hd)
          · rw [etk] at hd
            rcases List.mem_append.mp hd with hd | hd
            · exact hm d hd
            · rw [List.mem_singleton.mp hd]
              obtain ⟨o, h1, h2⟩ := List.any_eq_true.mp ea
              exact .inr ⟨o, h1, h2⟩
        | false =>
          have hno : ∀ o ∈ found, crossB o c = false := fun o ho => by
            have := List.any_eq_false.mp ea o ho
            exact Bool.eq_false_iff.mpr this
          refine iteT ⟨.ref L, rfl, .inl ⟨rfl, _, SqL.of e5⟩, .ref u, rfl, L, _, _, rfl, rfl, e5, by rw [List.length_map, hF.1]; exact small1000 (by omega), ?_⟩
          refine ⟨_, fs ++ [u], found ++ [c], rfl, fun b o nb e => ?_, by rw [upd_same, List.map_append]; rfl, ?_, fun d hd => ?_, ?_, fun a ha b hb => ?_, fun d hd => ?_⟩
          · rw [upd_ne nb]
            exact s5 _ _ (k4 b o nb e)
          · exact RowsAt.kt (.put e5) ((RowsAt.kt (.of s5) hF).snoc (s5 _ _ hu4))
          · rw [etk]
            rcases List.mem_append.mp hd with hd | hd
            · exact List.mem_append_left _ (hsub d hd)
            · exact List.mem_append_right _ hd
          · refine List.nodup_append.mpr ⟨nd, List.nodup_cons.mpr ⟨by simp, List.nodup_nil⟩, fun a ha b hb z => ?_⟩
            rw [List.mem_singleton.mp hb] at z
            exact cnew (z ▸ hsub a ha)
          · rcases List.mem_append.mp ha with ha | ha <;> rcases List.mem_append.mp hb with hb | hb
            · exact hx a ha b hb
            · rw [List.mem_singleton.mp hb]
              exact hno a ha
            · rw [List.mem_singleton.mp ha, cross_comm]
              exact hno b hb
            · rw [List.mem_singleton.mp ha, List.mem_singleton.mp hb]
              exact cross_self c
          · rw [etk] at hd
            rcases List.mem_append.mp hd with hd | hd
            · rcases hm d hd with h | ⟨o, h1, h2⟩
              · exact .inl (List.mem_append_left _ h)
              · exact .inr ⟨o, List.mem_append_left _ h1, h2⟩
            · exact .inl (List.mem_append_right _ hd)
    · rintro σ H4 ⟨y3, fs, found, rfl, k4, e4, hF, hsub, nd, hx, hm⟩
      rw [List.length_map, hall.1, List.take_length] at hsub hm
      obtain ⟨t1, t2, t3⟩ := sort_rows hF (fun p hp => two p (hsub p hp))
      refine ⟨.ref L, rfl, L, fs, rfl, SqL.of e4, t1, t2, fun ts' p pm' pw hp => ?_⟩
      obtain ⟨out, po, so, hO⟩ := t3 ts' pm' pw
      have sp := same_upd (o := .lst (ts'.map V.ref)) hp
      refine ⟨p, _, rfl, .inl ⟨SqL.of upd_same, fun z hz => ?_⟩⟩
      have sz := same_upd (o := .tup (ts'.map V.ref)) hz
      have nfL : f ≠ L := fun z => nLf z.symm
      have sb4 : SameBut f H H4 := fun b o nb e => k4 _ _ (fun y => by rw [y, eL] at e; cases e) (sb0 _ _ nb e)
      have hf4 : FeedAt H4 f l := by
        obtain ⟨ns, i, a, b, c, h1, h2, h3, h4⟩ := hf3
        exact ⟨ns, i, a, b, c, h1, k4 _ _ nfL h2, k4 _ _ (fun y => (hf.ne2 eL) y.symm) h3, h4⟩
      exact q z out _ (drawn_cut hn pall hsub nd hx hm po so) ((sb4.trans sp.but).trans sz.but) ((hf4.same sp).same sz) ⟨ts', upd_same, RowsAt.kt (.of (sp.trans sz)) hO⟩
end
end Bw
set_option Elab.async false
set_option linter.all false
set_option maxRecDepth 100000
set_option maxHeartbeats 4000000
namespace Bw
open PySem PySem.Spec PyProof.Rows L2
def IA (H0 H' : Hp) (D : Addr) (zs : List Int) : Prop := H' D = some (.lst (zs.map V.int)) ∧ Same H0 H'
def acPart (n : Nat) (cut : List Ch) (c : Ch) (x : Nat) : Ch := ((List.range x).filter fun (k : Nat) => acrossOk n cut c k).map fun (k : Nat) => (k : Int)
theorem acPart_succ (n : Nat) (cut : List Ch) (c : Ch) (x : Nat) : acPart n cut c (x + 1) = acPart n cut c x ++ (if acrossOk n cut c x = true then [(x : Int)] else []) := by
  unfold acPart
  rw [List.range_succ, List.filter_append, List.map_append]
  congr 1
  by_cases h : acrossOk n cut c x = true
  · rw [if_pos h, List.filter_cons, if_pos h]
    rfl
  · rw [if_neg h, List.filter_cons, if_neg h]
    rfl
theorem acPart_len (n : Nat) (cut : List Ch) (c : Ch) (x : Nat) : (acPart n cut c x).length ≤ x := by
  unfold acPart
  rw [List.length_map]
  refine Nat.le_trans (List.length_filter_le _ _) ?_
  rw [List.length_range]
  exact Nat.le_refl _
section
variable {P : Program} {w : World} {K : PySem.W.Frag} {mg : Str → Option Value} {base : Heap}
abbrev s_law_near : Stmt := topS 45
abbrev n_law_near : List Str := ["_law_my_corners", "_law_my_chords", "_law_one", "_law_other", "_law_low", "_law_high"]
theorem sc_law_near : FnScope n_law_near ["_law_my_corners", "_law_my_chords", "_law_one", "_law_other"] (defScope s_law_near) := ⟨rfl, rfl, rfl, by decide +kernel, rfl, by decide +kernel, by decide +kernel⟩
def spNear : Sp := fun vs H Q _ => ∃ (n x y : Int) (a : Addr) (cut : List Ch), vs = [.int n, .ref a, .int x, .int y] ∧ TabAt H a cut ∧ ∀ H', Same H H' → Q (.bl (nearB n cut x y)) H'
theorem ok_near {f : Addr} {fd : FuncData} {k : Nat} (F : Fun K "_law_near" "_law_near" s_law_near f fd) (T : Tx mg) : FnOk P w K mg base CX0 (k + 1) f fd ["_law_my_corners", "_law_my_chords", "_law_one", "_law_other"] spNear := by
  refine F.ok sc_law_near (fun vs H Q E h => ?_) (fun cdv A outer s H vs Q E hr h => ?_)
  · obtain ⟨n, x, y, a, cut, rfl, _⟩ := h
    rfl
  · obtain ⟨n, x, y, a, cut, rfl, ha, q⟩ := h
    have hu : (A.deeper (envOfC "_law_near" (defScope s_law_near) s.heap.objs.size f cdv)).units + 65 < cLine := by
      have := hr.un
      omega
    refine ⟨_, (pss_cons (ps_par (i := 4) (j := 5) (by rfl) sc_law_near.nd rfl rfl (by decide) rfl rfl (pa_cons (pe_callB (call_min2 rfl) (by rfl) T.min (by decide +kernel) (pa_cons (pv 2) (pa_cons (pv 3) pa_nil))) (pa_cons (pe_callB (call_max2 rfl) (by rfl) T.max (by decide +kernel) (pa_cons (pv 2) (pa_cons (pv 3) pa_nil))) pa_nil)) (by rfl))
  (pss_one (ps_ret (pe_or (pe_cmpR op_eq (pe_op op_sub (pv 5) (pv 4)) pe_int (nomark _)) (pe_or (pe_cmpR op_eq (pe_op op_sub (pv 5) (pv 4)) (pe_op op_sub (pv 0) pe_int) (nomark _)) (pe_one (pe_cmpR (o_inDT (K := K) hu) (pe_tup (pa_cons (pv 4) (pa_cons (pv 5) pa_nil))) (pv 1) (by rfl)))))))), ?_⟩
    refine ⟨.int x, rfl, .int y, rfl, x, y, rfl, .int x, rfl, .int y, rfl, x, y, rfl, _, _, rfl, ?_⟩
    have unf : nearB n cut x y = (decide ((if y > x then y else x) - (if y < x then y else x) = 1) || (decide ((if y > x then y else x) - (if y < x then y else x) = n - 1) || cut.contains [(if y < x then y else x), (if y > x then y else x)])) := rfl
    rw [unf] at q
    generalize (if y > x then y else x) = hi at q
    generalize (if y < x then y else x) = lo at q
    have dec : ∀ z w : Int, decide (V.int z = V.int w) = decide (z = w) := fun z w => decide_eq_decide.mpr ⟨fun e => V.int.inj e, fun e => by rw [e]⟩
    refine ⟨.int hi, rfl, .int lo, rfl, _, _, rfl, rfl, rfl, _, rfl, ite2 (fun e => ?_) (fun e => ?_)⟩
    · have z := q _ (.refl _)
      rw [show decide (hi - lo = 1) = true from (dec _ _).symm.trans e, Bool.true_or] at z
      exact z
    · rw [show decide (hi - lo = 1) = false from (dec _ _).symm.trans (Bool.eq_false_iff.mpr e), Bool.false_or] at q
      refine ⟨.int hi, rfl, .int lo, rfl, _, _, rfl, rfl, .int n, rfl, _, _, rfl, rfl, rfl, _, rfl, ite2 (fun e => ?_) (fun e => ?_)⟩
      · have z := q _ (.refl _)
        rw [show decide (hi - lo = n - 1) = true from (dec _ _).symm.trans e, Bool.true_or] at z
        exact z
      · rw [show decide (hi - lo = n - 1) = false from (dec _ _).symm.trans (Bool.eq_false_iff.mpr e), Bool.false_or] at q
        refine ⟨.int lo, rfl, .int hi, rfl, by show 2 ≤ sizeLine; decide, fun t et => ?_⟩
        have st := same_upd (o := .tup [.int lo, .int hi]) et
        refine ⟨.ref a, rfl, rowD [lo, hi], cut.map rowD, dp_row (p := [lo, hi]) upd_same, dp_tab (ha.kt (.of st)), shaped_row _, shaped_tab cut, ?_⟩
        have z := q _ st
        have e3 : ((cut.map rowD).any fun z => PyData.eqv z (rowD [lo, hi])) = cut.contains [lo, hi] := by
          rw [Bool.eq_iff_iff, any_eqv rowD_eqv, List.contains_iff_mem]
        rw [← e3] at z
        exact z
abbrev s_law_across : Stmt := topS 46
abbrev n_law_across : List Str := ["_law_my_corners", "_law_my_chords", "_law_chord", "_law_low", "_law_high", "_law_found", "_law_k", "_law_near_here"]
theorem sc_law_across : FnScope n_law_across ["_law_my_corners", "_law_my_chords", "_law_chord"] (defScope s_law_across) := ⟨rfl, rfl, rfl, by decide +kernel, rfl, by decide +kernel, by decide +kernel⟩
def spAcross : Sp := fun vs H Q _ => ∃ (n : Nat) (a b : Addr) (cut : List Ch) (c : Ch), vs = [.int n, .ref a, .ref b] ∧ n ≤ 7 ∧ TabAt H a cut ∧ RowAt H b c ∧ c.length = 2 ∧ ∀ (p : Addr) (H' : Hp), Same H H' → RowAt H' p (acrossL n cut c) → Q (.ref p) H'
theorem ok_across {f : Addr} {fd : FuncData} (F : Fun K "_law_across" "_law_across" s_law_across f fd) (T : Tx mg) (c_law_near : Cal P w K mg base CX0 1 "_law_near" ["_law_my_corners", "_law_my_chords", "_law_one", "_law_other"] spNear) : FnOk P w K mg base CX0 2 f fd ["_law_my_corners", "_law_my_chords", "_law_chord"] spAcross := by
  refine F.ok sc_law_across (fun vs H Q E h => ?_) (fun cdv A outer s H vs Q E hr h => ?_)
  · obtain ⟨n, a, b, cut, c, rfl, _⟩ := h
    rfl
  · obtain ⟨n, a, b, cut, c, rfl, n7, ha, hb, lc, q⟩ := h
    refine ⟨_, (pss_cons (ps_asg (pv 2) (g_tup (K := K) (n := 2) rfl (pgs_cons (pg_name (i := 3) sc_law_across.nd rfl (.inl rfl)) (pgs_cons (pg_name (i := 4) sc_law_across.nd rfl (.inl rfl)) pgs_nil))))
  (pss_cons (ps_set (i := 5) sc_law_across.nd rfl (.inl rfl) (pe_lst pa_nil))
  (pss_cons (ps_for PassesOwn.never rfl (pi_range1 (by rfl) T.range (pa_cons (pv 0) pa_nil)) (pg_name (i := 6) sc_law_across.nd rfl (.inl rfl))
    (pss_cons (ps_set (i := 7) sc_law_across.nd rfl (.inl rfl) (pe_cal c_law_near hr (by rfl) (pa_cons (pv 0) (pa_cons (pv 1) (pa_cons (pv 3) (pa_cons (pv 6) pa_nil))))))
    (pss_one (ps_if (PW.pt (pw_and (pt_cmpR (o_notin (K := K)) (pv 6) (pv 2) (by rfl)) (pw_and (pt_val (pv 7)) (pw_and1 (pt_val (pe_cal c_law_near hr (by rfl) (pa_cons (pv 0) (pa_cons (pv 1) (pa_cons (pv 4) (pa_cons (pv 6) pa_nil))))))))))
      (pss_one (ps_expr (pe_bm PySem.F.plainAttrs_list PySem.F.slot_list_append PySem.F.type_list_append mt_append (pv 5) (pa_cons (pv 6) pa_nil))))
      pss_nil))))
  (pss_one (ps_ret (pe_callTy (c_tup (K := K)) (by rfl) T.tuple (by decide +kernel) (pa_cons (pv 5) pa_nil))))))), ?_⟩
    obtain ⟨lo, hi, rfl⟩ := two' lc
    refine ⟨.ref b, rfl, b, [.int lo, .int hi], rfl, SqT.of hb, rfl, _, _, rfl, _, _, rfl, rfl, ?_⟩
    refine ⟨Nat.zero_le _, fun D eD => ?_⟩
    refine ⟨.int n, rfl, n, rfl, by omega, by omega, for_range (fun x σ H' => ∃ (y6 y7 : Option V), σ = [some (.int n), some (.ref a), some (.ref b), some (.int lo), some (.int hi), some (.ref D), y6, y7] ∧ IA H H' D (acPart n cut [lo, hi] x)) ⟨none, none, rfl, upd_same, same_upd eD⟩ ?_ ?_⟩
    · rintro x σ H1 hx ⟨y6, y7, rfl, e1, s1⟩
      have hx : x < n := hx
      have e0 : (0 : Int) + (x : Int) = (x : Int) := by omega
      rw [e0]
      have lx := acPart_len n cut [lo, hi] x
      refine ⟨.int n, rfl, .ref a, rfl, .int lo, rfl, .int x, rfl, n, lo, x, a, cut, rfl, ha.kt (.of s1), fun H2 s2 => ?_⟩
      have s02 := s1.trans s2
      have unf : acrossOk n cut [lo, hi] x = (!(decide (lo = (x : Int)) || decide (hi = (x : Int))) && (nearB n cut lo x && nearB n cut hi x)) := rfl
      have no : ∀ H3, Same H1 H3 → acrossOk n cut [lo, hi] x = false → ∃ (y6 y7 : Option V), [some (V.int n), some (.ref a), some (.ref b), some (.int lo), some (.int hi), some (.ref D), some (.int x), some (.bl (nearB n cut lo x))] = [some (.int n), some (.ref a), some (.ref b), some (.int lo), some (.int hi), some (.ref D), y6, y7] ∧ IA H H3 D (acPart n cut [lo, hi] (x + 1)) := fun H3 s3 e => by
        rw [acPart_succ, e, if_neg Bool.false_ne_true, List.append_nil]
        exact ⟨_, _, rfl, s3 _ _ e1, s1.trans s3⟩
      refine ⟨.int x, rfl, .ref b, rfl, b, _, rfl, .inr (SqT.of (s02 _ _ hb)), rfl, flat_ints _, ?_⟩
      have ein : inV (.int (x : Int)) (([lo, hi] : List Int).map V.int) = (decide ((x : Int) = lo) || decide ((x : Int) = hi)) := in_two _ _ _
      have ein2 : (decide ((x : Int) = lo) || decide ((x : Int) = hi)) = (decide (lo = (x : Int)) || decide (hi = (x : Int))) := by
        congr 1
        · exact decide_eq_decide.mpr ⟨fun e => e.symm, fun e => e.symm⟩
        · exact decide_eq_decide.mpr ⟨fun e => e.symm, fun e => e.symm⟩
      rw [ein, ein2]
      refine ⟨_, rfl, ite2 (fun e2 => ?_) (fun e2 => iteF ?_)⟩
      · refine ⟨.bl _, rfl, _, rfl, ite2 (fun e3 => ?_) (fun e3 => iteF ?_)⟩
        · refine ⟨.int n, rfl, .ref a, rfl, .int hi, rfl, .int x, rfl, n, hi, x, a, cut, rfl, ha.kt (.of s02), fun H3 s3 => ⟨_, rfl, ite2 (fun e4 => ?_) (fun e4 => ?_)⟩⟩
          · have s03 := s02.trans s3
            have e1' := s3 _ _ (s2 _ _ e1)
            refine ⟨.ref D, rfl, .inl ⟨rfl, _, SqL.of e1'⟩, .int x, rfl, D, _, _, rfl, rfl, e1', by rw [List.length_map]; exact small1000 (by omega), _, _, rfl, ?_, Same.updN s03 eD⟩
            have eok : acrossOk n cut [lo, hi] x = true := by
              rw [unf]
              have e2 : (!(decide (lo = (x : Int)) || decide (hi = (x : Int)))) = true := e2
              rw [e2, e3, e4]
              rfl
            rw [upd_same, acPart_succ, eok, if_pos rfl, List.map_append]
            rfl
          · refine no H3 (s2.trans s3) ?_
            rw [unf, Bool.eq_false_iff.mpr e4, Bool.and_false, Bool.and_false]
        · refine no H2 s2 ?_
          rw [unf, Bool.eq_false_iff.mpr e3, Bool.false_and, Bool.and_false]
      · refine no H2 s2 ?_
        rw [unf]
        have e2 : (!(decide (lo = (x : Int)) || decide (hi = (x : Int)))) = false := Bool.eq_false_iff.mpr e2
        rw [e2, Bool.false_and]
    · rintro σ H1 ⟨y6, y7, rfl, e1, s1⟩
      rw [Int.toNat_natCast] at e1
      refine ⟨.ref D, rfl, D, _, rfl, .inl ⟨SqL.of e1, fun p hp => ?_⟩⟩
      have sp := same_upd (o := .tup ((acPart n cut [lo, hi] n).map V.int)) hp
      exact q p _ (s1.trans sp) upd_same
end
end Bw
set_option Elab.async false
set_option linter.all false
set_option maxRecDepth 100000
set_option maxHeartbeats 4000000
namespace Bw
open PySem PySem.Spec PyProof.Rows L2
section
variable {K : PySem.W.Frag}
theorem tab_take {H : Hp} {Q : VK} {a : Addr} {c : List Ch} {n : Nat} (ha : TabAt H a c) (q : ∀ (p : Addr) (H' : Hp), Same H H' → TabAt H' p (c.take n) → Q (.ref p) H') : rSlA K (.ref a) none (some (n : Int)) H Q := by
  obtain ⟨as, h1, h2⟩ := ha
  exact sl_take h1 fun p H' s hp => q p H' s ⟨as.take n, by rw [hp, List.map_take], RowsAt.kt (.of s) (h2.take n)⟩
theorem tab_drop {H : Hp} {Q : VK} {a : Addr} {c : List Ch} {n : Nat} (ha : TabAt H a c) (q : ∀ (p : Addr) (H' : Hp), Same H H' → TabAt H' p (c.drop n) → Q (.ref p) H') : rSlA K (.ref a) (some (n : Int)) none H Q := by
  obtain ⟨as, h1, h2⟩ := ha
  exact sl_drop h1 fun p H' s hp => q p H' s ⟨as.drop n, by rw [hp, List.map_drop], RowsAt.kt (.of s) (h2.drop n)⟩
theorem tab_drop1 {H : Hp} {Q : VK} {a : Addr} {c : List Ch} {n : Nat} (ha : TabAt H a c) (q : ∀ (p : Addr) (H' : Hp), Same H H' → TabAt H' p (c.drop (n + 1)) → Q (.ref p) H') : rSlA K (.ref a) (some ((n : Int) + 1)) none H Q := by
  have := tab_drop (K := K) (n := n + 1) ha q
  exact this
theorem tab_cat {H : Hp} {Q : VK} {a b : Addr} {c d : List Ch} (ha : TabAt H a c) (hb : TabAt H b d) (lc : c.length ≤ 100) (ld : d.length ≤ 100) (q : ∀ (p : Addr) (H' : Hp), Same H H' → TabAt H' p (c ++ d) → Q (.ref p) H') : rCatA K (.ref a) (.ref b) H Q := by
  obtain ⟨as, h1, h2⟩ := ha
  obtain ⟨bs, g1, g2⟩ := hb
  refine cat_refs h1 g1 (by rw [List.length_map, h2.1]; omega) (by rw [List.length_map, g2.1]; omega) fun p H' s hp => q p H' s ⟨as ++ bs, by rw [hp, List.map_append], ?_⟩
  exact (RowsAt.kt (.of s) h2).append (RowsAt.kt (.of s) g2)
theorem tab_one {H : Hp} {t b : Addr} {c : Ch} (ht : RowAt H t c) (hb : H b = none) : TabAt (upd H b (.tup [.ref t])) b [c] := ⟨[t], upd_same, .one (same_upd hb _ _ ht)⟩
end
theorem cut_ok {n : Nat} (hn : n ∈ [4, 5, 6, 7]) {cut : List Ch} (hc : cut ∈ cutsW n) : cutOk n (cutsW n) cut = true := by
  have := all_ok n hn
  unfold allOk at this
  exact List.all_eq_true.mp this cut hc
def bentL (n : Nat) (cut : List Ch) (k oi : Nat) : List (List Ch) := bent1 n cut k oi ++ [(insL (acr n cut k) cut).take (n - 3)] ++ bent2 cut
theorem bent_good {n : Nat} (hn : n ∈ [4, 5, 6, 7]) {cut : List Ch} (hc : cut ∈ cutsW n) {k oi : Nat} (hk : k < n - 3) (ho : oi < 7) : ∀ bad ∈ bentL n cut k oi, goodB n (cutsW n) bad = true := by
  have h := cut_ok hn hc
  unfold cutOk at h
  obtain ⟨h1, h2⟩ := Bool.and_eq_true_iff.mp h
  have h1 := List.all_eq_true.mp h1 k (List.mem_range.mpr hk)
  obtain ⟨a1, h1⟩ := Bool.and_eq_true_iff.mp h1
  obtain ⟨a2, h1⟩ := Bool.and_eq_true_iff.mp h1
  obtain ⟨a3, h1⟩ := Bool.and_eq_true_iff.mp h1
  obtain ⟨a4, h1⟩ := Bool.and_eq_true_iff.mp h1
  obtain ⟨b1, h2⟩ := Bool.and_eq_true_iff.mp h2
  obtain ⟨b2, b3⟩ := Bool.and_eq_true_iff.mp h2
  have a1 := List.all_eq_true.mp a1 oi (List.mem_range.mpr ho)
  intro bad hb
  unfold bentL bent1 at hb
  rcases List.mem_append.mp hb with hb | hb
  · rcases List.mem_append.mp hb with hb | hb
    · simp only [List.mem_cons, List.not_mem_nil, or_false] at hb
      rcases hb with rfl | rfl | rfl | rfl
      · exact a1
      · exact a2
      · exact a3
      · exact b1
    · rw [List.mem_singleton.mp hb]
      exact a4
  · exact List.all_eq_true.mp b2 bad hb
theorem acr_facts {n : Nat} (hn : n ∈ [4, 5, 6, 7]) {cut : List Ch} (hc : cut ∈ cutsW n) {k : Nat} (hk : k < n - 3) : (acr n cut k).length = 2 ∧ (insL (acr n cut k) cut).Perm (cut ++ [acr n cut k]) ∧ (insL (acr n cut k) cut).Pairwise fun x y => HT.lexLt y x = false := by
  have h := cut_ok hn hc
  unfold cutOk at h
  obtain ⟨h1, h2⟩ := Bool.and_eq_true_iff.mp h
  have h1 := List.all_eq_true.mp h1 k (List.mem_range.mpr hk)
  obtain ⟨a1, h1⟩ := Bool.and_eq_true_iff.mp h1
  obtain ⟨a2, h1⟩ := Bool.and_eq_true_iff.mp h1
  obtain ⟨a3, h1⟩ := Bool.and_eq_true_iff.mp h1
  obtain ⟨a4, h1⟩ := Bool.and_eq_true_iff.mp h1
  obtain ⟨a5, h1⟩ := Bool.and_eq_true_iff.mp h1
  obtain ⟨a6, a7⟩ := Bool.and_eq_true_iff.mp h1
  exact ⟨of_decide_eq_true a5, of_decide_eq_true a6, of_decide_eq_true a7⟩
theorem acr_new {n : Nat} (hn : n ∈ [4, 5, 6, 7]) {cut : List Ch} (hc : cut ∈ cutsW n) : acr n cut 0 ∉ cut := by
  have h := cut_ok hn hc
  unfold cutOk at h
  obtain ⟨h1, h2⟩ := Bool.and_eq_true_iff.mp h
  obtain ⟨b1, h2⟩ := Bool.and_eq_true_iff.mp h2
  obtain ⟨b2, b3⟩ := Bool.and_eq_true_iff.mp h2
  rw [Bool.not_eq_true'] at b3
  exact fun z => absurd (List.contains_iff_mem.mpr z) (Bool.eq_false_iff.mp b3)
end Bw
set_option Elab.async false
set_option linter.all false
set_option maxRecDepth 100000
set_option maxHeartbeats 4000000
namespace Bw
open PySem PySem.Spec PyProof.Rows L2
section
variable {P : Program} {w : World} {K : PySem.W.Frag} {mg : Str → Option Value} {base : Heap}
abbrev s_law_bent_cuts : Stmt := topS 48
abbrev n_law_bent_cuts : List Str := ["_law_feed_here", "_law_my_corners", "_law_my_chords", "_law_at", "_law_low", "_law_high", "_law_odd", "_law_found", "_law_across_here"]
theorem sc_law_bent_cuts : FnScope n_law_bent_cuts ["_law_feed_here", "_law_my_corners", "_law_my_chords"] (defScope s_law_bent_cuts) := ⟨rfl, rfl, rfl, by decide +kernel, rfl, by decide +kernel, by decide +kernel⟩
def spBent : Sp := fun vs H Q _ => ∃ (f l a : Addr) (n : Nat) (cut : List Ch), vs = [.ref f, .int n, .ref a] ∧ FeedAt H f l ∧ n ∈ [4, 5, 6, 7] ∧ cut ∈ cutsW n ∧ TabAt H a cut ∧
  ∀ (p : Addr) (ts : List Addr) (k oi : Nat) (H' : Hp), k < n - 3 → oi < 7 → SameBut f H H' → FeedAt H' f l → H' p = some (.lst (ts.map V.ref)) → TabsAt H' ts (bentL n cut k oi) → Q (.ref p) H'
theorem ok_bent {f : Addr} {fd : FuncData} (F : Fun K "_law_bent_cuts" "_law_bent_cuts" s_law_bent_cuts f fd) (T : Tx mg) (c_law_draw : Cal P w K mg base CX0 1 "_law_draw" ["_law_feed_here", "_law_many"] spDraw) (c_law_across : Cal P w K mg base CX0 2 "_law_across" ["_law_my_corners", "_law_my_chords", "_law_chord"] spAcross) : FnOk P w K mg base CX0 3 f fd ["_law_feed_here", "_law_my_corners", "_law_my_chords"] spBent := by
  refine F.ok sc_law_bent_cuts (fun vs H Q E h => ?_) (fun cdv A outer s H vs Q E hr h => ?_)
  · obtain ⟨f, l, a, n, cut, rfl, _⟩ := h
    rfl
  · obtain ⟨f, l, a, n, cut, rfl, hf, hn, hcut, ha, q⟩ := h
    have hr1 := hr.mono (show 1 ≤ 2 by decide)
    refine ⟨_, (pss_cons (ps_set (i := 3) sc_law_bent_cuts.nd rfl (.inl rfl) (pe_cal c_law_draw hr1 (by rfl) (pa_cons (pv 0) (pa_cons (pe_callB (c_len (K := K)) (by rfl) T.len PySem.boot_len (pa_cons (pv 2) pa_nil)) pa_nil))))
  (pss_cons (ps_asg (pe_ix (i_tup (K := K)) (pv 2) (pv 3) (fun _ _ => rfl)) (g_tup (K := K) (n := 2) rfl (pgs_cons (pg_name (i := 4) sc_law_bent_cuts.nd rfl (.inl rfl)) (pgs_cons (pg_name (i := 5) sc_law_bent_cuts.nd rfl (.inl rfl)) pgs_nil))))
  (pss_cons (ps_set (i := 6) sc_law_bent_cuts.nd rfl (.inl rfl) (pe_lst (pa_cons (pe_tup (pa_cons (pv 5) (pa_cons (pv 4) pa_nil))) (pa_cons (pe_tup (pa_cons (pv 4) (pa_cons (pe_op op_add (pv 4) pe_int) pa_nil))) (pa_cons (pe_tup (pa_cons pe_int (pa_cons (pe_op op_sub (pv 1) pe_int) pa_nil))) (pa_cons (pe_tup (pa_cons (pv 4) (pa_cons (pv 1) pa_nil))) (pa_cons (pe_tup (pa_cons (pe_un un_neg pe_int) (pa_cons (pv 5) pa_nil))) (pa_cons (pe_tup (pa_cons (pv 4) (pa_cons (pv 4) pa_nil))) (pa_cons (pe_tup (pa_cons pe_int (pa_cons (pe_op op_pow pe_int pe_int) pa_nil))) pa_nil)))))))))
  (pss_cons (ps_set (i := 6) sc_law_bent_cuts.nd rfl (.inl rfl) (pe_ix (i_list (K := K)) (pv 6) (pe_cal c_law_draw hr1 (by rfl) (pa_cons (pv 0) (pa_cons pe_int pa_nil))) (fun _ _ => rfl)))
  (pss_cons (ps_set (i := 7) sc_law_bent_cuts.nd rfl (.inl rfl) (pe_lst (pa_cons (pe_op (o_cat (K := K)) (pe_op (o_cat (K := K)) (pe_slice (l_tup (K := K)) (pv 2) po_none (po_some (pv 3))) (pe_tup (pa_cons (pv 6) pa_nil))) (pe_slice (l_tup (K := K)) (pv 2) (po_some (pe_op op_add (pv 3) pe_int)) po_none)) (pa_cons (pe_op (o_cat (K := K)) (pe_slice (l_tup (K := K)) (pv 2) po_none (po_some (pv 3))) (pe_slice (l_tup (K := K)) (pv 2) (po_some (pe_op op_add (pv 3) pe_int)) po_none)) (pa_cons (pe_op (o_cat (K := K)) (pv 2) (pe_tup (pa_cons (pe_ix (i_tup (K := K)) (pv 2) (pv 3) (fun _ _ => rfl)) pa_nil))) (pa_cons (pe_tup pa_nil) pa_nil))))))
  (pss_cons (ps_set (i := 8) sc_law_bent_cuts.nd rfl (.inl rfl) (pe_cal c_law_across hr (by rfl) (pa_cons (pv 1) (pa_cons (pv 2) (pa_cons (pe_ix (i_tup (K := K)) (pv 2) (pv 3) (fun _ _ => rfl)) pa_nil)))))
  (pss_cons (ps_expr (pe_bm PySem.F.plainAttrs_list PySem.F.slot_list_append PySem.F.type_list_append mt_append (pv 7) (pa_cons (pe_slice (l_tup (K := K)) (pe_callTy (c_tup (K := K)) (by rfl) T.tuple (by decide +kernel) (pa_cons (pe_callB (cr_sortTI (K := K)) (by rfl) T.sorted (by decide +kernel) (pa_cons (pe_op op_cat (pe_callTy (c_lst (K := K)) (by rfl) T.list (by decide +kernel) (pa_cons (pv 2) pa_nil)) (pe_lst (pa_cons (pv 8) pa_nil))) pa_nil)) pa_nil)) po_none (po_some (pe_op op_sub (pv 1) pe_int))) pa_nil)))
  (pss_cons (ps_if (pt_cmpR op_gt (pe_callB (c_len (K := K)) (by rfl) T.len PySem.boot_len (pa_cons (pv 2) pa_nil)) pe_int (nomark _))
    (pss_one (ps_set (i := 7) sc_law_bent_cuts.nd rfl (.inl rfl) (pe_op op_cat (pv 7) (pe_lst (pa_cons (pe_revT (K := K) (pv 2)) (pa_cons (pe_op (o_rep (K := K)) (pe_slice (l_tup (K := K)) (pv 2) po_none (po_some pe_int)) (pe_callB (c_len (K := K)) (by rfl) T.len PySem.boot_len (pa_cons (pv 2) pa_nil))) pa_nil))))))
    pss_nil)
  (pss_one (ps_ret (pv 7))))))))))), ?_⟩
    have n7 : 4 ≤ n ∧ n ≤ 7 := by
      simp only [List.mem_cons, List.not_mem_nil, or_false] at hn
      omega
    obtain ⟨lcut, _, two⟩ := cuts_two n hn cut hcut
    obtain ⟨as, h1, hR⟩ := id ha
    have las : as.length = n - 3 := hR.1.trans lcut
    refine ⟨.ref f, rfl, .ref a, rfl, a, _, rfl, .inr (SqT.of h1), f, l, _, rfl, hf, by rw [List.length_map, las]; omega, by rw [List.length_map, las]; exact Nat.lt_trans (show (((n - 3 : Nat) : Int)).natAbs < 1000 by omega) (by decide), fun v H1 v0 v1 sb1 hf1 => ?_⟩
    obtain ⟨k, rfl⟩ : ∃ k : Nat, v = (k : Int) := ⟨v.toNat, by omega⟩
    rw [List.length_map, las] at v1
    have hk : k < n - 3 := by omega
    have hkc : k < cut.length := by omega
    have kt1 : KeepT H H1 := .but sb1 hf
    have ha1 := ha.kt kt1
    obtain ⟨t, et, ht⟩ := hR.2 k _ (List.getElem?_eq_getElem hkc)
    have ek : cut[k] = cut.getD k [] := by
      rw [List.getD_eq_getElem?_getD, List.getElem?_eq_getElem hkc]
      rfl
    have l2 := two _ (List.getElem_mem hkc)
    rw [ek] at ht l2
    have ht1 : RowAt H1 t (cut.getD k []) := kt1 _ _ ht
    have eat : (as.map V.ref)[k]? = some (.ref t) := by
      rw [List.getElem?_map, et]
      rfl
    have h11 := kt1 _ _ h1
    obtain ⟨lo, hi, ec⟩ := two' l2
    rw [ec] at ht1
    refine ⟨.ref a, rfl, .int k, rfl, a, _, _, .ref t, rfl, rfl, SqT.of h11, atI_nat eat, t, [.int lo, .int hi], rfl, SqT.of ht1, rfl, _, _, rfl, _, _, rfl, rfl, ?_⟩
    -- odd ones
    have tw : 2 ≤ sizeLine := by decide
    refine ⟨.int hi, rfl, .int lo, rfl, tw, fun t0 e0 => ⟨.int lo, rfl, .int lo, rfl, _, _, rfl, rfl, tw, fun t1 e1 => ⟨.int n, rfl, _, _, rfl, rfl, tw, fun t2 e2 => ⟨.int lo, rfl, .int n, rfl, tw, fun t3 e3 => ⟨1, rfl, .int hi, rfl, tw, fun t4 e4 => ⟨.int lo, rfl, .int lo, rfl, tw, fun t5 e5 => ⟨_, _, rfl, rfl, ⟨by decide, by decide, by decide⟩, tw, fun t6 e6 => ⟨by show 7 ≤ sizeLine; decide, fun L eL => ?_⟩⟩⟩⟩⟩⟩⟩⟩
    have s0 := same_upd (o := .tup [.int hi, .int lo]) e0
    have s1 := same_upd (o := .tup [.int lo, .int (lo + 1)]) e1
    have s2 := same_upd (o := .tup [.int 0, .int ((n : Int) - 1)]) e2
    have s3 := same_upd (o := .tup [.int lo, .int n]) e3
    have s4 := same_upd (o := .tup [.int (-1), .int hi]) e4
    have s5 := same_upd (o := .tup [.int lo, .int lo]) e5
    have s6 := same_upd (o := .tup [.int 2, .int (10 ^ Int.toNat 20)]) e6
    have s7 := same_upd (o := .lst [.ref t0, .ref t1, .ref t2, .ref t3, .ref t4, .ref t5, .ref t6]) eL
    have sT := ((((((s0.trans s1).trans s2).trans s3).trans s4).trans s5).trans s6).trans s7
    have rows : RowsAt _ [t0, t1, t2, t3, t4, t5, t6] (oddL n [lo, hi]) :=
      .cons (s7 _ _ (s6 _ _ (s5 _ _ (s4 _ _ (s3 _ _ (s2 _ _ (s1 _ _ upd_same)))))))
        (.cons (s7 _ _ (s6 _ _ (s5 _ _ (s4 _ _ (s3 _ _ (s2 _ _ upd_same))))))
          (.cons (s7 _ _ (s6 _ _ (s5 _ _ (s4 _ _ (s3 _ _ upd_same)))))
            (.cons (s7 _ _ (s6 _ _ (s5 _ _ (s4 _ _ upd_same))))
              (.cons (s7 _ _ (s6 _ _ (s5 _ _ upd_same)))
                (.cons (s7 _ _ (s6 _ _ upd_same))
                  (.cons (s7 _ _ upd_same) .nil))))))
    have eL2 := upd_same (H := (upd (upd (upd (upd (upd (upd (upd H1 t0 (.tup [.int hi, .int lo])) t1 (.tup [.int lo, .int (lo + 1)])) t2 (.tup [.int 0, .int ((n : Int) - 1)])) t3 (.tup [.int lo, .int n])) t4 (.tup [.int (-1), .int hi])) t5 (.tup [.int lo, .int lo])) t6 (.tup [.int 2, .int (10 ^ Int.toNat 20)]))) (a := L) (o := .lst [.ref t0, .ref t1, .ref t2, .ref t3, .ref t4, .ref t5, .ref t6])
    clear s0 s1 s2 s3 s4 s5 s6 s7
    generalize (upd (upd (upd (upd (upd (upd (upd (upd H1 t0 (.tup [.int hi, .int lo])) t1 (.tup [.int lo, .int (lo + 1)])) t2 (.tup [.int 0, .int ((n : Int) - 1)])) t3 (.tup [.int lo, .int n])) t4 (.tup [.int (-1), .int hi])) t5 (.tup [.int lo, .int lo])) t6 (.tup [.int 2, .int (10 ^ Int.toNat 20)])) L (.lst [.ref t0, .ref t1, .ref t2, .ref t3, .ref t4, .ref t5, .ref t6])) = H2 at sT rows eL2
    clear e0 e1 e2 e3 e4 e5 e6 eL
    have hf2 := hf1.same sT
    have nLf : L ≠ f := fun z => by
      obtain ⟨ns, i, x, y, c, g1, g2, g3, _⟩ := hf2
      rw [z, g2] at eL2
      have := List.cons.inj (HO.lst.inj (Option.some.inj eL2))
      have t0l : l = t0 := V.ref.inj this.1
      have r0 := rows.tail.1
      unfold RowAt at r0
      rw [← t0l, g3] at r0
      cases r0
    refine ⟨.ref L, rfl, .ref f, rfl, f, l, 7, rfl, hf2, by decide, by decide, fun v H3 v0' v1' sb3 hf3 => ?_⟩
    obtain ⟨oi, rfl⟩ : ∃ oi : Nat, v = (oi : Int) := ⟨v.toNat, by omega⟩
    have ho : oi < 7 := by omega
    have kt3 : KeepT H2 H3 := .but sb3 hf2
    have rows3 := RowsAt.kt kt3 rows
    have lodd : (oddL (n : Int) [lo, hi]).length = 7 := rfl
    obtain ⟨u, eu, hu⟩ := rows3.2 oi ((oddL (n : Int) [lo, hi]).getD oi []) (by
      rw [List.getD_eq_getElem?_getD, List.getElem?_eq_getElem (by rw [lodd]; exact ho)]
      rfl)
    have eL3 : H3 L = some (.lst (([t0, t1, t2, t3, t4, t5, t6] : List Addr).map V.ref)) := sb3 _ _ nLf eL2
    have eu' : (([t0, t1, t2, t3, t4, t5, t6] : List Addr).map V.ref)[oi]? = some (.ref u) := by
      rw [List.getElem?_map, eu]
      rfl
    refine ⟨L, _, _, .ref u, rfl, rfl, SqL.of eL3, atI_nat eu', ?_⟩
    have sb03 : SameBut f H H3 := (sb1.trans sT.but).trans sb3
    have ha3 := (ha1.kt (.of sT)).kt kt3
    have ht3 : RowAt H3 t (cut.getD k []) := by
      rw [ec]
      exact kt3 _ _ (sT _ _ ht1)
    have lo2 : ((oddL (n : Int) [lo, hi]).getD oi []) = (oddL (n : Int) (cut.getD k [])).getD oi [] := by rw [ec]
    rw [lo2] at hu
    clear eL3 eu' eu rows3 rows kt3 eL2 hf2 sT sb3 hf1 lo2
    have h13 : H3 a = some (.tup (as.map V.ref)) := sb03 _ _ (hf.tup h1) h1
    have ltk : (cut.take k).length ≤ 100 := by rw [List.length_take]; omega
    have ldk : (cut.drop (k + 1)).length ≤ 100 := by rw [List.length_drop]; omega
    have on : 1 ≤ sizeLine := by decide
    -- found
    refine ⟨.ref a, rfl, .int k, rfl, k, rfl, tab_take ha3 fun b1 G1 g1 hb1 => ⟨.ref u, rfl, on, fun b2 z2 => tab_cat (hb1.kt (.of (same_upd z2))) (tab_one (g1 _ _ hu) z2) ltk (by show 1 ≤ 100; decide) fun b3 G3 g3 hb3 => ?_⟩⟩
    have g03 := (g1.trans (same_upd z2)).trans g3
    refine ⟨.ref a, rfl, .int k, rfl, _, _, rfl, rfl, _, rfl, ?_⟩
    unfold tNoPart
    refine tab_drop1 (ha3.kt (.of g03)) fun b4 G4 g4 hb4 => ?_
    refine tab_cat (hb3.kt (.of g4)) hb4 (by rw [List.length_append]; show _ + 1 ≤ 100; rw [List.length_take]; omega) ldk fun c1 G5 g5 hc1 => ?_
    have g05 := (g03.trans g4).trans g5
    refine ⟨.ref a, rfl, .int k, rfl, k, rfl, tab_take (ha3.kt (.of g05)) fun b5 G6 g6 hb5 => ⟨.ref a, rfl, .int k, rfl, _, _, rfl, rfl, _, rfl, ?_⟩⟩
    refine tab_drop1 (ha3.kt (.of (g05.trans g6))) fun b6 G7 g7 hb6 => ?_
    refine tab_cat (hb5.kt (.of g7)) hb6 ltk ldk fun c2 G8 g8 hc2 => ?_
    have g58 := (g6.trans g7).trans g8
    have g08 := g05.trans g58
    refine ⟨.ref a, rfl, .ref a, rfl, .int k, rfl, a, _, _, .ref t, rfl, rfl, SqT.of (g08 _ _ h13), atI_nat eat, on, fun b7 z7 => tab_cat ((ha3.kt (.of g08)).kt (.of (same_upd z7))) (tab_one (g08 _ _ ht3) z7) (by omega) (by show 1 ≤ 100; decide) fun c3 G9 g9 hc3 => ?_⟩
    have g89 := (same_upd z7).trans g9
    refine ⟨Nat.zero_le _, fun c4 z4 => ⟨by show 4 ≤ sizeLine; decide, fun D eD => ?_⟩⟩
    have g10 := same_upd (o := .tup []) z4
    have g11 := same_upd (o := .lst [.ref c1, .ref c2, .ref c3, .ref c4]) eD
    have tabs : TabsAt _ [c1, c2, c3, c4] (bent1 n cut k oi) :=
      .cons (hc1.kt (.of (((g58.trans g89).trans g10).trans g11)))
        (.cons (hc2.kt (.of ((g89.trans g10).trans g11)))
          (.cons (hc3.kt (.of (g10.trans g11)))
            (.cons ⟨[], g11 _ _ upd_same, .nil⟩ .nil)))
    have sG := (((g08.trans g89).trans g10).trans g11)
    have D3 : H3 D = none := by
      cases e : H3 D with
      | none => rfl
      | some o =>
        rw [((g08.trans g89).trans g10) _ _ e] at eD
        cases eD
    have eD1 := upd_same (H := upd G9 c4 (.tup [])) (a := D) (o := .lst [.ref c1, .ref c2, .ref c3, .ref c4])
    generalize (upd (upd G9 c4 (.tup [])) D (.lst [.ref c1, .ref c2, .ref c3, .ref c4])) = H4 at tabs sG eD1
    clear g10 g11 eD z4 g89 g9 hc3 z7 g08 g58 g8 hc2 hb6 g7 hb5 g6 g05 g5 hc1 hb4 g4 g03 hb3 g3 z2 hb1 g1
    have ha4 := ha3.kt (.of sG)
    have h14 := sG _ _ h13
    have ht4 := sG _ _ ht3
    -- across
    refine ⟨.int n, rfl, .ref a, rfl, .ref a, rfl, .int k, rfl, a, _, _, .ref t, rfl, rfl, SqT.of h14, atI_nat eat, n, a, t, cut, cut.getD k [], rfl, n7.2, ha4, ht4, l2, fun x H5 s5 hx => ?_⟩
    have hx : RowAt H5 x (acr n cut k) := hx
    obtain ⟨lac, pins, sins⟩ := acr_facts hn hcut hk
    have eD5 := s5 _ _ eD1
    have h15 := s5 _ _ h14
    have hR5 : RowsAt H5 as cut := RowsAt.kt (.of (sG.trans s5)) (RowsAt.kt (.but sb03 hf) hR)
    refine ⟨.ref D, rfl, .inl ⟨rfl, _, SqL.of eD5⟩, .ref a, rfl, a, _, rfl, .inr (SqT.of h15), fun l1 z1 => ⟨.ref x, rfl, on, fun l2' z2 => ⟨l1, l2', _, _, rfl, rfl, same_upd z2 _ _ upd_same, upd_same, by rw [List.length_map, las]; exact Nat.le_of_lt (small1000 (by show n - 3 + 1 ≤ 1000; omega)), fun l3 z3 => ?_⟩⟩⟩
    have m1 := same_upd (o := .lst (as.map V.ref)) z1
    have m2 := same_upd (o := .lst [.ref x]) z2
    have m3 := same_upd (o := .lst (as.map V.ref ++ [.ref x])) z3
    have m03 := (m1.trans m2).trans m3
    have e6 : (upd (upd (upd H5 l1 (.lst (as.map V.ref))) l2' (.lst [.ref x])) l3 (.lst (as.map V.ref ++ [.ref x]))) l3 = some (.lst ((as ++ [x]).map V.ref)) := by
      rw [upd_same, List.map_append]
      rfl
    generalize (upd (upd (upd H5 l1 (.lst (as.map V.ref))) l2' (.lst [.ref x])) l3 (.lst (as.map V.ref ++ [.ref x]))) = H6 at m03 e6
    clear m1 m2 m3 z1 z2 z3
    have hR6 : RowsAt H6 (as ++ [x]) (cut ++ [acr n cut k]) := RowsAt.kt (.of m03) (hR5.snoc hx)
    obtain ⟨t1', t2', t3'⟩ := sort_rows hR6 (fun p hp => by
      rcases List.mem_append.mp hp with hp | hp
      · exact two p hp
      · rw [List.mem_singleton.mp hp]
        exact lac)
    refine ⟨l3, as ++ [x], rfl, SqL.of e6, t1', t2', fun ts' p pm' pw hp => ?_⟩
    obtain ⟨out, po, so, hO⟩ := t3' ts' pm' pw
    have eout : out = insL (acr n cut k) cut := List.Perm.eq_of_pairwise (le := fun x y => HT.lexLt y x = false) (fun a b _ _ h1 h2 => lex_tot h2 h1) so sins (po.trans pins.symm)
    subst eout
    have m4 := same_upd (o := .lst (ts'.map V.ref)) hp
    refine ⟨p, _, rfl, .inl ⟨SqL.of upd_same, fun z hz => ?_⟩⟩
    have m5 := same_upd (o := .tup (ts'.map V.ref)) hz
    have hz' : TabAt (upd (upd H6 p (.lst (ts'.map V.ref))) z (.tup (ts'.map V.ref))) z (insL (acr n cut k) cut) := ⟨ts', upd_same, RowsAt.kt (.of (m4.trans m5)) hO⟩
    have m05 := m03.trans (m4.trans m5)
    generalize (upd (upd H6 p (.lst (ts'.map V.ref))) z (.tup (ts'.map V.ref))) = H7 at hz' m05
    clear m4 m5 hz hp
    have e3 : (n : Int) - 3 = ((n - 3 : Nat) : Int) := by omega
    refine ⟨.int n, rfl, _, _, rfl, rfl, _, rfl, ?_⟩
    rw [e3]
    refine tab_take hz' fun b H8 s8 hb => ?_
    have s58 := m05.trans s8
    have eD8 := s58 _ _ eD5
    refine ⟨D, _, _, rfl, rfl, eD8, by show 4 < sizeLine; decide, ?_⟩
    have eD9 := upd_same (H := H8) (a := D) (o := .lst ([.ref c1, .ref c2, .ref c3, .ref c4] ++ [.ref b]))
    have tabs9 : TabsAt (upd H8 D (.lst ([.ref c1, .ref c2, .ref c3, .ref c4] ++ [.ref b]))) [c1, c2, c3, c4, b] (bent1 n cut k oi ++ [(insL (acr n cut k) cut).take (n - 3)]) :=
      TabsAt.kt (.put eD8) ((TabsAt.kt (.of (s5.trans s58)) tabs).snoc hb)
    have sb8 : SameBut f H H8 := (sb03.trans sG.but).trans (s5.trans s58).but
    have hf8 : FeedAt H8 f l := (hf3.same sG).same (s5.trans s58)
    have nDf : D ≠ f := fun z => by
      obtain ⟨ns, i, x', y', c', w1, w2, w3, _⟩ := hf8
      rw [z, w2] at eD8
      have := List.cons.inj (HO.lst.inj (Option.some.inj eD8))
      have t0l : l = c1 := V.ref.inj this.1
      obtain ⟨bs, r0, _⟩ := (TabsAt.kt (.of (s5.trans s58)) tabs).tail.1
      rw [← t0l, w3] at r0
      cases r0
    have nDl : D ≠ l := fun z => by
      obtain ⟨ns, i, x', y', c', w1, w2, w3, _⟩ := hf8
      rw [z, w3] at eD8
      have := HO.lst.inj (Option.some.inj eD8)
      match ns, this with
      | [], this => cases this
      | _ :: _, this => cases (List.cons.inj this).1
    have D0 : H D = none := by
      cases e : H D with
      | none => rfl
      | some o =>
        rw [sb03 _ _ nDf e] at D3
        cases D3
    have sb9 : SameBut f H (upd H8 D (.lst ([.ref c1, .ref c2, .ref c3, .ref c4] ++ [.ref b]))) := SameBut.updN sb8 D0
    have hf9 := hf8.put (o := .lst ([.ref c1, .ref c2, .ref c3, .ref c4] ++ [.ref b])) nDf nDl
    have eD9' : (upd H8 D (.lst ([.ref c1, .ref c2, .ref c3, .ref c4] ++ [.ref b]))) D = some (.lst (([c1, c2, c3, c4, b] : List Addr).map V.ref)) := eD9
    have ha9 : TabAt (upd H8 D (.lst ([.ref c1, .ref c2, .ref c3, .ref c4] ++ [.ref b]))) a cut := (ha4.kt (.of (s5.trans s58))).kt (.put eD8)
    clear eD9
    generalize (upd H8 D (.lst ([.ref c1, .ref c2, .ref c3, .ref c4] ++ [.ref b]))) = H9 at sb9 hf9 eD9' ha9 tabs9
    clear eD8 eD5 eD1 nDl hz' hb s8 m05 m03 e6 hR6 t1' t2' t3' so po hO pm' pw hf8 sb8 tabs D3 D0
    obtain ⟨as9, h19, hR9⟩ := id ha9
    have las9 : as9.length = n - 3 := hR9.1.trans lcut
    refine ⟨.ref a, rfl, a, _, rfl, .inr (SqT.of h19), _, _, rfl, rfl, _, rfl, ite2 (fun e => ?_) (fun e => ?_)⟩
    · have e := of_decide_eq_true e
      rw [List.length_map, las9] at e
      have m2 : 1 < cut.length := by omega
      refine ⟨.ref D, rfl, .ref a, rfl, a, _, rfl, SqT.of h19, fun r1 z1 => ?_⟩
      have y1 := same_upd (o := .tup (as9.map V.ref).reverse) z1
      refine ⟨.ref a, rfl, 1, rfl, ?_⟩
      refine tab_take (n := 1) (ha9.kt (.of y1)) fun r2 G2 y2 hr2 => ?_
      obtain ⟨bs, w1, w2⟩ := hr2
      have lbs : bs.length = 1 := by
        rw [w2.1, List.length_take]
        omega
      refine ⟨.ref a, rfl, a, _, rfl, .inr (SqT.of (y2 _ _ (y1 _ _ h19))), r2, _, _, rfl, rfl, SqT.of w1, ?_, ?_, ?_, ?_, ?_, fun _ r3 z3 => ?_⟩
      · intro z
        have := congrArg List.length z
        rw [List.length_map, lbs] at this
        cases this
      · rw [List.length_map, las9]
        omega
      · rw [List.length_map, las9]
        omega
      · rw [List.length_map, lbs]
        decide
      · intro z
        rw [List.length_map, las9] at z
        omega
      rw [List.length_map, las9, Int.toNat_natCast]
      have y3 := same_upd (o := .tup (List.replicate (n - 3) (bs.map V.ref)).flatten) z3
      have y03 := (y1.trans y2).trans y3
      refine ⟨by show 2 ≤ sizeLine; decide, fun M eM => ?_⟩
      have y4 := same_upd (o := .lst [.ref r1, .ref r3]) eM
      have y04 := y03.trans y4
      refine ⟨D, M, _, _, rfl, rfl, y04 _ _ eD9', upd_same, by show 5 + 2 ≤ sizeLine; decide, fun N eN => ?_⟩
      have y5 := same_upd (o := .lst ((([c1, c2, c3, c4, b] : List Addr).map V.ref) ++ [.ref r1, .ref r3])) eN
      have y05 := y04.trans y5
      have t1 : TabAt (upd H9 r1 (.tup (as9.map V.ref).reverse)) r1 cut.reverse := ⟨as9.reverse, by rw [upd_same, List.map_reverse], (RowsAt.kt (.of y1) hR9).rev⟩
      have t3 : TabAt (upd G2 r3 (.tup (List.replicate (n - 3) (bs.map V.ref)).flatten)) r3 (List.replicate cut.length (cut.take 1)).flatten := by
        obtain ⟨u0, rfl⟩ : ∃ u0, bs = [u0] := by
          match bs, lbs with
          | [u0], _ => exact ⟨u0, rfl⟩
        obtain ⟨p0', ep⟩ : ∃ p0', cut.take 1 = [p0'] := by
          have : (cut.take 1).length = 1 := by
            rw [List.length_take]
            omega
          match cut.take 1, this with
          | [x], _ => exact ⟨x, rfl⟩
        rw [ep] at w2 ⊢
        refine ⟨List.replicate (n - 3) u0, ?_, ?_⟩
        · rw [upd_same, List.map_replicate]
          show some (HO.tup (List.replicate (n - 3) [V.ref u0]).flatten) = _
          rw [List.flatten_replicate_singleton]
        · rw [List.flatten_replicate_singleton, lcut]
          exact Ps.rep (y3 _ _ w2.tail.1) _
      refine ⟨.ref N, rfl, q N ([c1, c2, c3, c4, b] ++ [r1, r3]) k oi _ hk ho (sb9.trans y05.but) (hf9.same y05) (by rw [upd_same, List.map_append]; rfl) ?_⟩
      unfold bentL bent2
      rw [if_pos m2]
      exact (TabsAt.kt (.of y05) tabs9).append (.cons (t1.kt (.of (((y2.trans y3).trans y4).trans y5))) (.cons (t3.kt (.of (y4.trans y5))) .nil))
    · refine ⟨.ref D, rfl, q D _ k oi H9 hk ho sb9 hf9 eD9' ?_⟩
      have e : ¬ 1 < cut.length := fun z => e (decide_eq_true (by rw [List.length_map, las9]; omega))
      unfold bentL bent2
      rw [if_neg e, List.append_nil]
      exact tabs9
end
end Bw
set_option Elab.async false
set_option linter.all false
set_option maxRecDepth 100000
set_option maxHeartbeats 4000000
namespace Bw
open PySem PySem.Spec PyProof.Rows L2 LamX
/-! ### _law_word(lambda: ..), the tables of several defs -/
theorem pe_wordT {X : Cx} {T : List (Addr × Str)} {st : Stmt} {g CB c P : Addr} {fd : FuncData} {k : Nat} {params : Arguments} {body : Expr} {scope : Scope} {t : XK → TE} {p lpos pos : Pos}
    (F : Fun X.K "_law_word" "_law_word" st g fd) (gg : X.mg "_law_word" = some (.ref g)) (bb : L2.Binds X.K fd ["_law_asked"] []) (Sg : FnScope ["_law_asked", "e"] ["_law_asked"] (defScope st)) (hva : Vis (defScope st) "_law_asked") (hG : ∀ cdv, GivesTo X ["_law_asked", "e"] "_law_word" (defScope st) g cdv (defBody st) "_law_asked" (X.env.qual ++ "<lambda>") (TWord X.K CB))
    (TB : TabB X.base X.mg c P) (hcode : X.env.code = .ref c) (hmT : (P, X.env.qual ++ "<lambda>") ∈ T) (hu : ∀ p ∈ T, p.1 = P → p.2 = X.env.qual ++ "<lambda>") (hr : Room (k + 2) X.A) (hg : Gl X "_law_word") (L : LamS X.env.scope scope)
    (hbody : ∀ (A : Around) (outer : List Env) (s : Shared) (H : Hp) (E : XK) (f c' : Addr), Room k (A.deeper (lamEnv X scope s.heap.objs.size f c')) → PE (lamCx X A outer s H E scope f c') body (t E)) (hdef : defaultsOf params X.env = ([], []))
    (hbind : ∀ (q : Str) (cl : List (Str × Addr)) (pm cv ctv : Value), bindArgs (PySem.W.kla_fn "<lambda>" q params body scope cl pm cv ctv) ⟨[], []⟩ = pure []) :
    PE X (.Call (.Name "_law_word" p) [.Lambda params body scope lpos] [] pos) (tLam T (TWord X.K CB) t) := by
  obtain ⟨oc, od, kV, doc, pm, an, cdv, ct, osl, rfl, lk, hcd⟩ := F.ex
  exact pe_lamcall hg gg F.kp lk hcd bb Sg rfl hva (hG cdv) TB hcode hmT hu hr L hdef hbind hbody
abbrev s_law_word : Stmt := topS 40
theorem sc_law_word : FnScope ["_law_asked", "e"] ["_law_asked"] (defScope s_law_word) := ⟨rfl, rfl, rfl, by decide +kernel, rfl, by decide +kernel, by decide +kernel⟩
structure WordT (K : PySem.W.Frag) (mg : Str → Option Value) (base : Heap) (T : List (Addr × Str)) (g CB c P : Addr) (q : Str) (fd : FuncData) : Prop where
  F : Fun K "_law_word" "_law_word" s_law_word g fd
  gg : mg "_law_word" = some (.ref g)
  bb : L2.Binds K fd ["_law_asked"] []
  gB : mg "BudError" = some (.ref CB)
  TB : TabB base mg c P
  mem : (P, q) ∈ T
  un : ∀ p ∈ T, p.1 = P → p.2 = q
theorem pe_wd {X : Cx} {T : List (Addr × Str)} {g CB c P : Addr} {q : Str} {fd : FuncData} {k : Nat} {params : Arguments} {body : Expr} {scope : Scope} {t : XK → TE} {p lpos pos : Pos} (W : WordT X.K X.mg X.base T g CB c P q fd) (hcode : X.env.code = .ref c) (hr : Room (k + 2) X.A) (hg : Gl X "_law_word") (L : LamS X.env.scope scope)
    (hbody : ∀ (A : Around) (outer : List Env) (s : Shared) (H : Hp) (E : XK) (f c' : Addr), Room k (A.deeper (lamEnv X scope s.heap.objs.size f c')) → PE (lamCx X A outer s H E scope f c') body (t E)) (hq : X.env.qual ++ "<lambda>" = q := by rfl) (hdef : defaultsOf params X.env = ([], []) := by rfl)
    (hbind : ∀ (q : Str) (cl : List (Str × Addr)) (pm cv ctv : Value), bindArgs (PySem.W.kla_fn "<lambda>" q params body scope cl pm cv ctv) ⟨[], []⟩ = pure [] := by intros; rfl) :
    PE X (.Call (.Name "_law_word" p) [.Lambda params body scope lpos] [] pos) (tLam T (TWord X.K CB) t) := by
  have hm := W.mem
  have hun := W.un
  rw [← hq] at hm hun
  exact pe_wordT W.F W.gg W.bb sc_law_word (.inl rfl) (fun cdv => word_gives rfl W.gB (by decide) rfl rfl (fun f => rfl)) W.TB hcode hm hun hr hg L hbody hdef hbind
def qL (x : Str) : Str := (x ++ (".<locals>." : Str)) ++ ("<lambda>" : Str)
theorem KeepT.ext {H H' : Hp} (x : ExtN H H') : KeepT H H' := fun b xs e => x _ _ e (fun ps z => by cases z)
theorem CutAt.kt {H H' : Hp} {a : Addr} {c : List Ch} (h : CutAt H a c) (k : KeepT H H') : CutAt H' a c := ⟨h.1.kt k, h.2⟩
theorem FeedAt.neO {H : Hp} {f l b : Addr} {o : HO} (h : FeedAt H f l) (e : H b = some o) (n : ∀ xs, o ≠ .lst xs) : b ≠ f := by
  obtain ⟨_, _, _, _, _, _, b', _⟩ := h
  intro z
  subst z
  rw [e] at b'
  exact n _ (Option.some.inj b')
theorem Tabs.put {T : List (Addr × Str)} {H : Hp} {a : Addr} {xs : List V} {o : HO} (t : Tabs T H) (e : H a = some (.lst xs)) : Tabs T (upd H a o) := fun p hp => by
  obtain ⟨ps, h1, h2, h3⟩ := t p hp
  refine ⟨ps, ?_, h2, fun pos cv hc => ?_⟩
  · rw [upd_ne (fun z => by rw [z, e] at h1; cases h1)]
    exact h1
  · obtain ⟨c, e1, e2⟩ := h3 pos cv hc
    refine ⟨c, e1, ?_⟩
    rw [upd_ne (fun z => by rw [z, e] at e2; exact absurd (Option.some.inj e2) (by intro y; cases y))]
    exact e2
/-- nothing but a table stood there -/
def Fr (H : Hp) (a : Addr) : Prop := ∀ o, H a = some o → ∃ ps, o = .tbl ps
theorem Fr.of {H H1 : Hp} {a : Addr} (x : ExtN H H1) (e : H1 a = none) : Fr H a := fun o h => Classical.byContradiction fun z => by
  have := x _ _ h (fun ps y => z ⟨ps, y⟩)
  rw [e] at this
  cases this
theorem ExtN.put {H H1 : Hp} {a : Addr} {o : HO} (x : ExtN H H1) (f : Fr H a) : ExtN H (upd H1 a o) := fun b u h n => by
  by_cases hb : b = a
  · subst hb
    obtain ⟨ps, rfl⟩ := f _ h
    exact absurd rfl (n ps)
  · rw [upd_ne hb]
    exact x _ _ h n
theorem four_ok (x : Str) (h : PyData.strOk x = true) : SeqAt.shaped (.list [.str x, .str x, .str x, .str x]) = true := shaped_lst (by simp [PyData.canLayAll0, PyData.canLay0, h]) (by simp [PyData.depthAll, PyData.depth])
section
variable {P : Program} {w : World} {K : PySem.W.Frag} {mg : Str → Option Value} {base : Heap} {CS CB fS : Addr}
abbrev s_law_none_so : Stmt := topS 47
abbrev n_law_none_so : List Str := ["_law_my_corners", "_law_bad", "_law_chord", "_law_words"]
theorem sc_law_none_so : FnScope n_law_none_so ["_law_my_corners", "_law_bad", "_law_chord"] (defScope s_law_none_so) := ⟨rfl, rfl, rfl, by decide +kernel, rfl, by decide +kernel, by decide +kernel⟩
def spNone (Ts : List (Addr × Str)) : Sp := fun vs H Q _ => ∃ (n : Int) (a b : Addr) (c : List Ch) (p : Ch), vs = [.int n, .ref a, .ref b] ∧ CutAt H a c ∧ RowAt H b p ∧ p.length = 2 ∧ isCutB n c = false ∧ Tabs Ts H ∧ ∀ H', ExtN H H' → Tabs Ts H' → Q (.bl true) H'
theorem ok_none {Ts : List (Addr × Str)} {f gW cc Pt : Addr} {fdW : FuncData} {oc kV doc pm ct : Value} {od an : Option Addr} {osl : Array (Option Value)} (lk : K.lookup f = some ⟨oc, od, .func (PySem.W.fnOf "_law_none_so" "_law_none_so" (defArgs s_law_none_so) (defBody s_law_none_so) (defScope s_law_none_so) .none kV doc pm an (.ref cc) ct), osl⟩) (hcd : PySem.W.codeIn K (.ref cc) "_law_none_so" = true) (T : Tx mg) (TS : ErrC K mg "BadCut" CS fS CB)
    (c_cut_table : CalX P w K mg base 5 "cut_table" ["corners", "chords"] (spNo2 CS)) (c_flip : CalX P w K mg base 6 "flip" ["corners", "chords", "chord"] (spNo3 CS)) (c_flipped : CalX P w K mg base 5 "flipped" ["corners", "chords", "chord"] (spNo3 CS)) (c_lengths : CalX P w K mg base 5 "lengths" ["corners", "chords", "parts"] (spNoL CS))
    (WB : WordT K mg base Ts gW CB cc Pt (qL "_law_none_so") fdW) : FnOk P w K mg base CX0 9 f (PySem.W.fnOf "_law_none_so" "_law_none_so" (defArgs s_law_none_so) (defBody s_law_none_so) (defScope s_law_none_so) .none kV doc pm an (.ref cc) ct) ["_law_my_corners", "_law_bad", "_law_chord"] (spNone Ts) := by
  refine fn_of lk hcd sc_law_none_so (fun vs H Q E h => ?_) (fun A outer s H vs Q E hr h => ?_)
  · obtain ⟨n, a, b, c, p, rfl, _⟩ := h
    rfl
  · obtain ⟨n, a, b, c, p, rfl, hc, hp, lp, eb, tb, q⟩ := h
    suffices hh : ∃ t, PSs (cxOf CX0 P w K mg base n_law_none_so "_law_none_so" (defScope s_law_none_so) f (.ref cc) A outer s H E).nox (defBody s_law_none_so) t ∧ t { nx := fun _ H' => Q .non H', rt := Q } (L2.start n_law_none_so [.int n, .ref a, .ref b]) H by
      obtain ⟨t, h1, h2⟩ := hh
      exact ⟨t, h1.nox, h2⟩
    have hu := hr.units
    refine ⟨_, (pss_cons (ps_set (i := 3) sc_law_none_so.nd rfl (.inl rfl) (pe_lst (pa_cons (pe_wd (k := 6) WB rfl hr (by rfl) (lamS_by (sc := defScope s_law_none_so) (by decide +kernel)) (fun A outer s H E f c' hr' => pe_calX c_cut_table (hr'.mono (by decide)) (by rfl) (passE rfl rfl rfl rfl) (pa_cons (pv 0) (pa_cons (pv 1) pa_nil)))) pa_nil)))
  (pss_cons (ps_expr (pe_bm PySem.F.plainAttrs_list PySem.F.slot_list_append PySem.F.type_list_append mt_append (pv 3) (pa_cons (pe_wd (k := 6) WB rfl hr (by rfl) (lamS_by (sc := defScope s_law_none_so) (by decide +kernel)) (fun A outer s H E f c' hr' => pe_calX c_flip hr' (by rfl) (passE rfl rfl rfl rfl) (pa_cons (pv 0) (pa_cons (pv 1) (pa_cons (pv 2) pa_nil))))) pa_nil)))
  (pss_cons (ps_expr (pe_bm PySem.F.plainAttrs_list PySem.F.slot_list_append PySem.F.type_list_append mt_append (pv 3) (pa_cons (pe_wd (k := 6) WB rfl hr (by rfl) (lamS_by (sc := defScope s_law_none_so) (by decide +kernel)) (fun A outer s H E f c' hr' => pe_calX c_flipped (hr'.mono (by decide)) (by rfl) (passE rfl rfl rfl rfl) (pa_cons (pv 0) (pa_cons (pv 1) (pa_cons (pv 2) pa_nil))))) pa_nil)))
  (pss_cons (ps_expr (pe_bm PySem.F.plainAttrs_list PySem.F.slot_list_append PySem.F.type_list_append mt_append (pv 3) (pa_cons (pe_wd (k := 6) WB rfl hr (by rfl) (lamS_by (sc := defScope s_law_none_so) (by decide +kernel)) (fun A outer s H E f c' hr' => pe_calX c_lengths (hr'.mono (by decide)) (by rfl) (passE rfl rfl rfl rfl) (pa_cons (pv 0) (pa_cons (pv 1) (pa_cons (pe_lst pa_nil) pa_nil))))) pa_nil)))
  (pss_one (ps_ret (pe_cmpR (o_eqD (K := K) hu) (pv 3) (pe_op op_rep (pe_lst (pa_cons pe_str pa_nil)) pe_int) (nomark _)))))))), ?_⟩
    -- cut_table
    refine ⟨tb, fun H1 x1 tb1 => ?_⟩
    have hc1 := hc.kt (.ext x1)
    have hp1 : RowAt H1 b p := KeepT.ext x1 _ _ hp
    refine ⟨.int n, rfl, .ref a, rfl, n, a, c, rfl, hc1, eb, fun d H2 s2 hd => ⟨.str "bad cut", TS.at hd, ?_⟩⟩
    have X2 : ExtN H H2 := x1.trans (.of s2)
    have hc2 := hc1.same s2
    have hp2 := s2 _ _ hp1
    have tb2 := tb1.ext s2
    clear hc1 hp1 tb1 x1 s2 hd hc hp tb
    refine ⟨by show 1 ≤ sizeLine; decide, fun lw elw => ?_⟩
    have sw := same_upd (o := .lst [.str "bad cut"]) elw
    have ew : (upd H2 lw (.lst [.str "bad cut"])) lw = some (.lst [.str "bad cut"]) := upd_same
    have hc3 := hc2.same sw
    have hp3 := sw _ _ hp2
    have tb3 := tb2.ext sw
    have X3 : ExtN H (upd H2 lw (.lst [.str "bad cut"])) := X2.trans (.of sw)
    generalize (upd H2 lw (.lst [.str "bad cut"])) = H3 at hc3 hp3 tb3 X3 ew
    have fr := Fr.of X2 elw
    clear hc2 hp2 tb2 sw X2 elw H2
    refine ⟨.ref lw, rfl, .inl ⟨rfl, _, SqL.of ew⟩, tb3, fun H4 x4 tb4 => ?_⟩
    have hc4 := hc3.kt (.ext x4)
    have hp4 : RowAt H4 b p := KeepT.ext x4 _ _ hp3
    have ew4 := x4 _ _ ew (fun ps z => by cases z)
    refine ⟨.int n, rfl, .ref a, rfl, .ref b, rfl, n, a, b, c, p, rfl, hc4, hp4, lp, fun z => absurd (eb.symm.trans z) Bool.false_ne_true, fun d H5 s5 hd => ⟨.str "bad cut", TS.at hd, ?_⟩⟩
    have hc5 := hc4.same s5
    have hp5 := s5 _ _ hp4
    have tb5 := tb4.ext s5
    have ew5 := s5 _ _ ew4
    have X5 : ExtN H H5 := (X3.trans x4).trans (.of s5)
    refine ⟨lw, _, _, rfl, rfl, ew5, by show 1 < sizeLine; decide, ?_⟩
    have ew6 : (upd H5 lw (.lst ([.str "bad cut"] ++ [.str "bad cut"]))) lw = some (.lst [.str "bad cut", .str "bad cut"]) := upd_same
    have hc6 := hc5.kt (.put (o := .lst ([.str "bad cut"] ++ [.str "bad cut"])) ew5)
    have hp6 : RowAt (upd H5 lw (.lst ([.str "bad cut"] ++ [.str "bad cut"]))) b p := KeepT.put ew5 _ _ hp5
    have tb6 := Tabs.put (o := .lst ([.str "bad cut"] ++ [.str "bad cut"])) tb5 ew5
    have X6 := ExtN.put (o := .lst ([.str "bad cut"] ++ [.str "bad cut"])) X5 fr
    generalize (upd H5 lw (.lst ([.str "bad cut"] ++ [.str "bad cut"]))) = H6 at ew6 hc6 hp6 tb6 X6
    clear hc5 hp5 tb5 ew5 X5 hc4 hp4 ew4 tb4 x4 s5 hd hc3 hp3 tb3 ew X3 H3 H4 H5
    have hc3 := hc6
    have hp3 := hp6
    have tb3 := tb6
    have X3 := X6
    have ew := ew6
    clear hc6 hp6 tb6 X6 ew6
    revert hc3 hp3 tb3 X3 ew
    generalize H6 = H3
    intro hc3 hp3 tb3 X3 ew
    refine ⟨.ref lw, rfl, .inl ⟨rfl, _, SqL.of ew⟩, tb3, fun H4 x4 tb4 => ?_⟩
    have hc4 := hc3.kt (.ext x4)
    have hp4 : RowAt H4 b p := KeepT.ext x4 _ _ hp3
    have ew4 := x4 _ _ ew (fun ps z => by cases z)
    refine ⟨.int n, rfl, .ref a, rfl, .ref b, rfl, n, a, b, c, p, rfl, hc4, hp4, lp, fun z => absurd (eb.symm.trans z) Bool.false_ne_true, fun d H5 s5 hd => ⟨.str "bad cut", TS.at hd, ?_⟩⟩
    have hc5 := hc4.same s5
    have hp5 := s5 _ _ hp4
    have tb5 := tb4.ext s5
    have ew5 := s5 _ _ ew4
    have X5 : ExtN H H5 := (X3.trans x4).trans (.of s5)
    refine ⟨lw, _, _, rfl, rfl, ew5, by show 2 < sizeLine; decide, ?_⟩
    have ew6 : (upd H5 lw (.lst ([.str "bad cut", .str "bad cut"] ++ [.str "bad cut"]))) lw = some (.lst [.str "bad cut", .str "bad cut", .str "bad cut"]) := upd_same
    have hc6 := hc5.kt (.put (o := .lst ([.str "bad cut", .str "bad cut"] ++ [.str "bad cut"])) ew5)
    have hp6 : RowAt (upd H5 lw (.lst ([.str "bad cut", .str "bad cut"] ++ [.str "bad cut"]))) b p := KeepT.put ew5 _ _ hp5
    have tb6 := Tabs.put (o := .lst ([.str "bad cut", .str "bad cut"] ++ [.str "bad cut"])) tb5 ew5
    have X6 := ExtN.put (o := .lst ([.str "bad cut", .str "bad cut"] ++ [.str "bad cut"])) X5 fr
    generalize (upd H5 lw (.lst ([.str "bad cut", .str "bad cut"] ++ [.str "bad cut"]))) = H6 at ew6 hc6 hp6 tb6 X6
    clear hc5 hp5 tb5 ew5 X5 hc4 hp4 ew4 tb4 x4 s5 hd hc3 hp3 tb3 ew X3 H3 H4 H5
    have hc3 := hc6
    have hp3 := hp6
    have tb3 := tb6
    have X3 := X6
    have ew := ew6
    clear hc6 hp6 tb6 X6 ew6
    revert hc3 hp3 tb3 X3 ew
    generalize H6 = H3
    intro hc3 hp3 tb3 X3 ew
    refine ⟨.ref lw, rfl, .inl ⟨rfl, _, SqL.of ew⟩, tb3, fun H4 x4 tb4 => ?_⟩
    have hc4 := hc3.kt (.ext x4)
    have hp4 : RowAt H4 b p := KeepT.ext x4 _ _ hp3
    have ew4 := x4 _ _ ew (fun ps z => by cases z)
    refine ⟨.int n, rfl, .ref a, rfl, by show 0 ≤ sizeLine; decide, fun le ele => ?_⟩
    have sle := same_upd (o := .lst []) ele
    refine ⟨n, a, le, c, rfl, hc4.same sle, eb, fun d H5 s5' hd => ⟨.str "bad cut", TS.at hd, ?_⟩⟩
    have s5 := sle.trans s5'
    have hc5 := hc4.same s5
    have hp5 := s5 _ _ hp4
    have tb5 := tb4.ext s5
    have ew5 := s5 _ _ ew4
    have X5 : ExtN H H5 := (X3.trans x4).trans (.of s5)
    refine ⟨lw, _, _, rfl, rfl, ew5, by show 3 < sizeLine; decide, ?_⟩
    have ew6 : (upd H5 lw (.lst ([.str "bad cut", .str "bad cut", .str "bad cut"] ++ [.str "bad cut"]))) lw = some (.lst [.str "bad cut", .str "bad cut", .str "bad cut", .str "bad cut"]) := upd_same
    have hc6 := hc5.kt (.put (o := .lst ([.str "bad cut", .str "bad cut", .str "bad cut"] ++ [.str "bad cut"])) ew5)
    have hp6 : RowAt (upd H5 lw (.lst ([.str "bad cut", .str "bad cut", .str "bad cut"] ++ [.str "bad cut"]))) b p := KeepT.put ew5 _ _ hp5
    have tb6 := Tabs.put (o := .lst ([.str "bad cut", .str "bad cut", .str "bad cut"] ++ [.str "bad cut"])) tb5 ew5
    have X6 := ExtN.put (o := .lst ([.str "bad cut", .str "bad cut", .str "bad cut"] ++ [.str "bad cut"])) X5 fr
    generalize (upd H5 lw (.lst ([.str "bad cut", .str "bad cut", .str "bad cut"] ++ [.str "bad cut"]))) = H6 at ew6 hc6 hp6 tb6 X6
    clear hc5 hp5 tb5 ew5 X5 hc4 hp4 ew4 tb4 x4 s5 s5' sle ele hd hc3 hp3 tb3 ew X3 H3 H4 H5
    have hc3 := hc6
    have hp3 := hp6
    have tb3 := tb6
    have X3 := X6
    have ew := ew6
    clear hc6 hp6 tb6 X6 ew6
    revert hc3 hp3 tb3 X3 ew
    generalize H6 = H3
    intro hc3 hp3 tb3 X3 ew
    -- all four
    refine ⟨.ref lw, rfl, by show 1 ≤ sizeLine; decide, fun la ela => ?_⟩
    have sla := same_upd (o := .lst [.str "bad cut"]) ela
    refine ⟨la, 4, _, rfl, rfl, upd_same, by decide, by decide, by show 1 * 4 ≤ sizeLine; decide, fun lb elb => ?_⟩
    have slb := same_upd (o := .lst [.str "bad cut", .str "bad cut", .str "bad cut", .str "bad cut"]) elb
    have ewz := slb _ _ (sla _ _ ew)
    have dpl : ∀ {H : Hp}, DpAll K H [.str "bad cut", .str "bad cut", .str "bad cut", .str "bad cut"] [.str "bad cut", .str "bad cut", .str "bad cut", .str "bad cut"] := .cons (.str _) (.cons (.str _) (.cons (.str _) (.cons (.str _) .nil)))
    refine ⟨.list [.str "bad cut", .str "bad cut", .str "bad cut", .str "bad cut"], .list [.str "bad cut", .str "bad cut", .str "bad cut", .str "bad cut"], .lst (SqL.of ewz) dpl, .lst (SqL.of upd_same) dpl, four_ok _ (by decide +kernel), four_ok _ (by decide +kernel), ?_⟩
    have eq4 : PyData.eqv (.list [.str "bad cut", .str "bad cut", .str "bad cut", .str "bad cut"]) (.list [.str "bad cut", .str "bad cut", .str "bad cut", .str "bad cut"]) = true := by simp [PyData.eqv, PyData.eqvAll]
    rw [eq4]
    exact q _ ((X3.trans (.of sla)).trans (.of slb)) ((tb3.ext sla).ext slb)
end
end Bw
set_option Elab.async false
set_option linter.all false
set_option maxRecDepth 100000
set_option maxHeartbeats 0
namespace Bw
open PySem PySem.Spec PyProof.Rows L2 LamX
theorem Tabs.but {T : List (Addr × Str)} {H H' : Hp} {f l : Addr} (s : SameBut f H H') (hf : FeedAt H f l) (h : Tabs T H) : Tabs T H' := by
  intro p hp
  obtain ⟨ps, h1, h2, h3⟩ := h p hp
  refine ⟨ps, s _ _ (hf.neO h1 (fun xs z => by cases z)) h1, h2, fun pos cv hc => ?_⟩
  obtain ⟨c, e1, e2⟩ := h3 pos cv hc
  exact ⟨c, e1, s _ _ (hf.neO e2 (fun xs z => by cases z)) e2⟩
theorem FeedAt.ext {H H' : Hp} {f l : Addr} (s : ExtN H H') (h : FeedAt H f l) : FeedAt H' f l := by
  obtain ⟨ns, i, n, m, c, a, b, d, r⟩ := h
  exact ⟨ns, i, n, m, c, a, s _ _ b (fun ps z => by cases z), s _ _ d (fun ps z => by cases z), r⟩
/-- one keyword, and two in the other order -/
def backL {α : Type} : List α → List α → List α
  | [], [a] => [a]
  | [], [a, b] => [b, a]
  | _, _ => []
/-! ### alike -/
theorem al_row {H : Hp} {a b : Addr} {r : Ch} (ha : RowAt H a r) (hb : RowAt H b r) (hl : r.length ≤ 1000) : Al 2 H (.ref a) (.ref b) := by
  refine .inr (.inl ⟨a, b, _, _, rfl, rfl, ha, hb, rfl, by rw [List.length_map]; exact hl, fun j u v e1 e2 => ?_⟩)
  rw [e1] at e2
  cases (Option.some.inj e2)
  obtain ⟨i, _, rfl⟩ := int_at e1
  exact .inl ⟨rfl, .inl ⟨i, rfl⟩⟩
theorem al_tab {H : Hp} {a b : Addr} {c : List Ch} (ha : TabAt H a c) (hb : TabAt H b c) (hl : c.length ≤ 1000) (h2 : ∀ p ∈ c, p.length ≤ 1000) : Al 3 H (.ref a) (.ref b) := by
  obtain ⟨as, a1, a2⟩ := ha
  obtain ⟨bs, b1, b2⟩ := hb
  refine .inr (.inl ⟨a, b, _, _, rfl, rfl, a1, b1, by rw [List.length_map, List.length_map, a2.1, b2.1], by rw [List.length_map, a2.1]; exact hl, fun j u v e1 e2 => ?_⟩)
  obtain ⟨x, ex, rfl⟩ := ref_at e1
  obtain ⟨y, ey, rfl⟩ := ref_at e2
  obtain ⟨p, ep, hp⟩ := a2.at ex
  obtain ⟨p', ep', hp'⟩ := b2.at ey
  rw [ep] at ep'
  cases (Option.some.inj ep')
  exact al_row hp hp' (h2 p (List.mem_of_getElem? ep))
theorem al_tabs {H : Hp} {a b : Addr} {as bs : List Addr} {l : List (List Ch)} (a1 : H a = some (.lst (as.map V.ref))) (a2 : TabsAt H as l) (b1 : H b = some (.lst (bs.map V.ref))) (b2 : TabsAt H bs l) (hl : l.length ≤ 1000) (h2 : ∀ c ∈ l, c.length ≤ 1000 ∧ ∀ p ∈ c, p.length ≤ 1000) : Al 4 H (.ref a) (.ref b) := by
  refine .inr (.inr ⟨a, b, _, _, rfl, rfl, a1, b1, by rw [List.length_map, List.length_map, a2.1, b2.1], by rw [List.length_map, a2.1]; exact hl, fun j u v e1 e2 => ?_⟩)
  obtain ⟨x, ex, rfl⟩ := ref_at e1
  obtain ⟨y, ey, rfl⟩ := ref_at e2
  obtain ⟨p, ep, hp⟩ := a2.at ex
  obtain ⟨p', ep', hp'⟩ := b2.at ey
  rw [ep] at ep'
  cases (Option.some.inj ep')
  have := h2 p (List.mem_of_getElem? ep)
  exact al_tab hp hp' this.1 this.2
theorem cuts_al : ∀ n ∈ [4, 5, 6, 7], (cutsW n).length ≤ 1000 := by decide +kernel
theorem bent_len {n : Nat} (hn : n ∈ [4, 5, 6, 7]) {cut : List Ch} (hc : cut ∈ cutsW n) {k oi : Nat} : ∀ bad ∈ bentL n cut k oi, bad.length ≤ 100 := by
  have n7 : 4 ≤ n ∧ n ≤ 7 := by
    simp only [List.mem_cons, List.not_mem_nil, or_false] at hn
    omega
  have lc := (cuts_two n hn cut hc).1
  intro bad hb
  unfold bentL bent1 at hb
  rcases List.mem_append.mp hb with hb | hb
  · rcases List.mem_append.mp hb with hb | hb
    · simp only [List.mem_cons, List.not_mem_nil, or_false] at hb
      rcases hb with rfl | rfl | rfl | rfl
      · rw [List.length_append, List.length_append, List.length_take, List.length_drop]
        show _ + 1 + _ ≤ 100
        omega
      · rw [List.length_append, List.length_take, List.length_drop]
        omega
      · rw [List.length_append]
        show _ + 1 ≤ 100
        omega
      · decide
    · rw [List.mem_singleton.mp hb, List.length_take]
      omega
  · unfold bent2 at hb
    split at hb
    · simp only [List.mem_cons, List.not_mem_nil, or_false] at hb
      rcases hb with rfl | rfl
      · rw [List.length_reverse]
        omega
      · rw [List.length_flatten, List.map_replicate, List.sum_replicate_nat, List.length_take]
        have : cut.length * min 1 cut.length ≤ 4 * 1 := Nat.mul_le_mul (by omega) (Nat.min_le_left _ _)
        show cut.length * min 1 cut.length ≤ 100
        omega
    · cases hb
/-- what stays all along the law -/
structure Wl (f l R a : Addr) (ts : List Addr) (n : Nat) (cut : List Ch) (Ts : List (Addr × Str)) (H : Hp) : Prop where
  feed : FeedAt H f l
  nR : R ≠ f
  due : H R = some (.lst (ts.map V.ref))
  tabs : TabsAt H ts (cutsW n)
  cutA : TabAt H a cut
  tb : Tabs Ts H
section
variable {f l R a : Addr} {ts : List Addr} {n : Nat} {cut : List Ch} {Ts : List (Addr × Str)} {H H' : Hp}
theorem Wl.ext (h : Wl f l R a ts n cut Ts H) (x : ExtN H H') (t : Tabs Ts H') : Wl f l R a ts n cut Ts H' := ⟨h.feed.ext x, h.nR, x _ _ h.due (fun ps z => by cases z), TabsAt.kt (.ext x) h.tabs, h.cutA.kt (.ext x), t⟩
theorem Wl.same (h : Wl f l R a ts n cut Ts H) (s : Same H H') : Wl f l R a ts n cut Ts H' := h.ext (.of s) (h.tb.ext s)
theorem Wl.but (h : Wl f l R a ts n cut Ts H) (s : SameBut f H H') (hf : FeedAt H' f l) : Wl f l R a ts n cut Ts H' := ⟨hf, h.nR, s _ _ h.nR h.due, TabsAt.kt (.but s h.feed) h.tabs, h.cutA.kt (.but s h.feed), Tabs.but s h.feed h.tb⟩
end
section
variable {P : Program} {w : World} {K : PySem.W.Frag} {mg : Str → Option Value} {base : Heap} {CS CB fS : Addr}
abbrev s_law : Stmt := topS 49
abbrev n_law : List Str := ["_law_script", "_law_feed_here", "_law_size", "_law_due", "_law_told", "_law_cut_now", "_law_bad", "_law_far", "_law_strange", "_law_chord"]
theorem sc_law : FnScope n_law ["_law_script"] (defScope s_law) := ⟨rfl, rfl, rfl, by decide +kernel, rfl, by decide +kernel, by decide +kernel⟩
def spLaw (K : PySem.W.Frag) (P1 P2 : Addr) : Sp := fun vs H Q _ => ∃ (a : Addr) (ns : List Int), vs = [.ref a] ∧ SqL K H a (ns.map V.int) ∧ ns.length ≤ 63 ∧ H P1 = some (.tbl #[]) ∧ H P2 = some (.tbl #[]) ∧ ∀ H', Q (.bl true) H'
theorem ok_law {f fC fI gW cc P1 P2 : Addr} {fdC fdI fdW : FuncData} {oc kV doc pm ct : Value} {od an : Option Addr} {osl : Array (Option Value)} (lk : K.lookup f = some ⟨oc, od, .func (PySem.W.fnOf "law" "law" (defArgs s_law) (defBody s_law) (defScope s_law) .none kV doc pm an (.ref cc) ct), osl⟩) (hcd : PySem.W.codeIn K (.ref cc) "law" = true) (T : Tx mg) (TS : ErrC K mg "BadCut" CS fS CB)
    (c_law_feed : Cal P w K mg base CX0 1 "_law_feed" ["_law_script"] (spFeed K)) (c_law_draw : Cal P w K mg base CX0 1 "_law_draw" ["_law_feed_here", "_law_many"] spDraw) (c_law_pick : Cal P w K mg base CX0 2 "_law_pick" ["_law_feed_here", "_law_row"] spPick)
    (c_law_same : Cal P w K mg base CX0 5 "_law_same" ["_law_found", "_law_due"] (spSame 4)) (c_law_cuts : Cal P w K mg base CX0 2 "_law_cuts" ["_law_my_corners"] spLCuts) (c_law_a_cut : Cal P w K mg base CX0 3 "_law_a_cut" ["_law_feed_here", "_law_my_corners"] spACut)
    (c_law_bent_cuts : Cal P w K mg base CX0 3 "_law_bent_cuts" ["_law_feed_here", "_law_my_corners", "_law_my_chords"] spBent) (c_law_across : Cal P w K mg base CX0 2 "_law_across" ["_law_my_corners", "_law_my_chords", "_law_chord"] spAcross)
    (c_law_none_so : Cal P w K mg base CX0 9 "_law_none_so" ["_law_my_corners", "_law_bad", "_law_chord"] (spNone [(P1, qL "law"), (P2, qL "_law_none_so")]))
    (c_is_cut : Cal P w K mg base CX0 3 "is_cut" ["corners", "chords"] spIsCut) (FI : FnOk P w K mg base CX0 3 fI fdI ["corners", "chords"] spIsCut) (gI : mg "is_cut" = some (.ref fI)) (kI : PySem.W.keepIn K (.ref fI) = true) (kbI : KBinds K fdI ["corners", "chords"] ["chords", "corners"] backL backL)
    (c_cuts : CalX P w K mg base 4 "cuts" ["corners"] (spCuts CS)) (FC : FnOk P w K mg base (L2.CX P w) 4 fC fdC ["corners"] (spCuts CS)) (gC : mg "cuts" = some (.ref fC)) (kC : PySem.W.keepIn K (.ref fC) = true) (kbC : KBinds K fdC ["corners"] ["corners"] backL backL)
    (c_flip : CalX P w K mg base 6 "flip" ["corners", "chords", "chord"] (spNo3 CS)) (c_flipped : CalX P w K mg base 5 "flipped" ["corners", "chords", "chord"] (spNo3 CS))
    (WB : WordT K mg base [(P1, qL "law"), (P2, qL "_law_none_so")] gW CB cc P1 (qL "law") fdW) : FnOk P w K mg base CX0 10 f (PySem.W.fnOf "law" "law" (defArgs s_law) (defBody s_law) (defScope s_law) .none kV doc pm an (.ref cc) ct) ["_law_script"] (spLaw K P1 P2) := by
  refine fn_of lk hcd sc_law (fun vs H Q E h => ?_) (fun A outer s H vs Q E hr h => ?_)
  · obtain ⟨a, ns, rfl, _⟩ := h
    rfl
  · obtain ⟨a, ns, rfl, hS, hlen, hP1, hP2, q⟩ := h
    suffices hh : ∃ t, PSs (cxOf CX0 P w K mg base n_law "law" (defScope s_law) f (.ref cc) A outer s H E).nox (defBody s_law) t ∧ t { nx := fun _ H' => Q .non H', rt := Q } (L2.start n_law [.ref a]) H by
      obtain ⟨t, h1, h2⟩ := hh
      exact ⟨t, h1.nox, h2⟩
    have hu := hr.units
    have hu65 : (A.deeper (envOfC "law" (defScope s_law) s.heap.objs.size f (.ref cc))).units + 65 < cLine := by
      have := hr.un
      omega
    have hr1 := hr.mono (show 1 ≤ 9 by decide)
    have hr2 := hr.mono (show 2 ≤ 9 by decide)
    have hr3 := hr.mono (show 3 ≤ 9 by decide)
    have hr4 := hr.mono (show 4 ≤ 9 by decide)
    have hr5 := hr.mono (show 5 ≤ 9 by decide)
    have hr8 := hr.mono (show 8 ≤ 9 by decide)
    refine ⟨_, (pss_cons (ps_set (i := 1) sc_law.nd rfl (.inl rfl) (pe_cal c_law_feed hr1 (by rfl) (pa_cons (pv 0) pa_nil)))
  (pss_cons (ps_set (i := 2) sc_law.nd rfl (.inr rfl) (pe_op op_add pe_int (pe_cal c_law_draw hr1 (by rfl) (pa_cons (pv 1) (pa_cons pe_int pa_nil)))))
  (pss_cons (ps_set (i := 3) sc_law.nd rfl (.inl rfl) (pe_cal c_law_cuts hr2 (by rfl) (pa_cons (pv 2) pa_nil)))
  (pss_cons (ps_set (i := 4) sc_law.nd rfl (.inl rfl) (pe_calX c_cuts hr4 (by rfl) passL (pa_cons (pv 2) pa_nil)))
  (pss_cons (ps_if (PW.pt (pw_or (pt_not (pt_val (pe_cal c_law_same hr5 (by rfl) (pa_cons (pv 4) (pa_cons (pv 3) pa_nil))))) (pw_or1 (pt_cmpR op_ne (pe_callB (c_len (K := K)) (by rfl) T.len PySem.boot_len (pa_cons (pv 3) pa_nil)) (pe_ix (i_list (K := K)) (pe_lst (pa_cons pe_int (pa_cons pe_int (pa_cons pe_int (pa_cons pe_int pa_nil))))) (pe_op op_sub (pv 2) pe_int) (fun _ _ => rfl)) (nomark _)))))
    (pss_one (ps_ret pe_bl))
    pss_nil)
  (pss_cons (ps_expr (pe_bm0 PySem.F.plainAttrs_list PySem.F.slot_list_clear PySem.F.type_list_clear mt_clear (pv 4)))
  (pss_cons (ps_if (pt_not (pt_val (pe_cal c_law_same hr5 (by rfl) (pa_cons (pe_callK0 FC hr4 (by rfl) gC kC kbC passL (pk_cons (pv 2) pk_nil)) (pa_cons (pv 3) pa_nil)))))
    (pss_one (ps_ret pe_bl))
    pss_nil)
  (pss_cons (ps_set (i := 5) sc_law.nd rfl (.inr rfl) (pe_cal c_law_a_cut hr3 (by rfl) (pa_cons (pv 1) (pa_cons (pv 2) pa_nil))))
  (pss_cons (ps_for PassesOwn.never rfl (p_list (K := K) (pe_cal c_law_bent_cuts hr3 (by rfl) (pa_cons (pv 1) (pa_cons (pv 2) (pa_cons (pv 5) pa_nil))))) (pg_name (i := 6) sc_law.nd rfl (.inl rfl))
    (pss_cons (ps_if (pt_not (pt_val (pe_cal c_law_same hr5 (by rfl) (pa_cons (pe_cal c_is_cut hr3 (by rfl) (pa_cons (pv 2) (pa_cons (pv 6) pa_nil))) (pa_cons (pe_cmpR (o_inDL (K := K) hu65) (pv 6) (pv 3) (by rfl)) pa_nil)))))
      (pss_one (ps_ret pe_bl))
      pss_nil)
    (pss_one (ps_if (PW.pt (pw_and (pt_cmpR (o_notInDL (K := K) hu65) (pv 6) (pv 3) (by rfl)) (pw_and1 (pt_not (pt_val (pe_cal c_law_none_so hr (by rfl) (pa_cons (pv 2) (pa_cons (pv 6) (pa_cons (pe_ix (i_tup (K := K)) (pv 5) pe_int (fun _ _ => rfl)) pa_nil)))))))))
      (pss_one (ps_ret pe_bl))
      pss_nil))))
  (pss_cons (ps_set (i := 7) sc_law.nd rfl (.inr rfl) (pe_cal c_law_pick hr2 (by rfl) (pa_cons (pv 1) (pa_cons (pe_lst (pa_cons pe_int (pa_cons pe_int (pa_cons pe_int (pa_cons (pe_un un_neg pe_int) (pa_cons (pe_op op_add pe_int (pe_cal c_law_draw hr1 (by rfl) (pa_cons (pv 1) (pa_cons (pe_op op_pow pe_int pe_int) pa_nil)))) pa_nil)))))) pa_nil))))
  (pss_cons (ps_if (PW.pt (pw_or (pt_not (pt_val (pe_cal c_law_none_so hr (by rfl) (pa_cons (pv 7) (pa_cons (pv 5) (pa_cons (pe_ix (i_tup (K := K)) (pv 5) pe_int (fun _ _ => rfl)) pa_nil)))))) (pw_or1 (pt_cmpR op_ne (pe_wd (k := 6) WB rfl hr8 (by rfl) (lamS_by (sc := defScope s_law) (by decide +kernel)) (fun A outer s H E f c' hr' => pe_calX c_cuts (hr'.mono (by decide)) (by rfl) (passE rfl rfl rfl rfl) (pa_cons (pv 7) pa_nil))) pe_str (nomark _)))))
    (pss_one (ps_ret pe_bl))
    pss_nil)
  (pss_cons (ps_set (i := 8) sc_law.nd rfl (.inl rfl) (pe_lst (pa_cons (pe_cal c_law_across hr2 (by rfl) (pa_cons (pv 2) (pa_cons (pv 5) (pa_cons (pe_ix (i_tup (K := K)) (pv 5) pe_int (fun _ _ => rfl)) pa_nil)))) (pa_cons (pe_tup (pa_cons pe_int (pa_cons pe_int pa_nil))) (pa_cons (pe_tup (pa_cons pe_int (pa_cons (pe_op op_sub (pv 2) pe_int) pa_nil))) pa_nil)))))
  (pss_cons (ps_for PassesOwn.never rfl (p_list (K := K) (pv 8)) (pg_name (i := 9) sc_law.nd rfl (.inr rfl))
    (pss_cons (ps_if (pt_cmpR op_ne (pe_wd (k := 6) WB rfl hr8 (by rfl) (lamS_by (sc := defScope s_law) (by decide +kernel)) (fun A outer s H E f c' hr' => pe_calX c_flipped (hr'.mono (by decide)) (by rfl) (passE rfl rfl rfl rfl) (pa_cons (pv 2) (pa_cons (pv 5) (pa_cons (pv 9) pa_nil))))) pe_str (nomark _))
      (pss_one (ps_ret pe_bl))
      pss_nil)
    (pss_one (ps_if (pt_cmpR op_ne (pe_wd (k := 6) WB rfl hr8 (by rfl) (lamS_by (sc := defScope s_law) (by decide +kernel)) (fun A outer s H E f c' hr' => pe_calX c_flip hr' (by rfl) (passE rfl rfl rfl rfl) (pa_cons (pv 2) (pa_cons (pv 5) (pa_cons (pv 9) pa_nil))))) pe_str (nomark _))
      (pss_one (ps_ret pe_bl))
      pss_nil))))
  (pss_one (ps_ret (pe_and (pe_cmpR op_isBl (pe_cal c_is_cut hr3 (by rfl) (pa_cons (pv 7) (pa_cons (pv 5) pa_nil))) pe_bl (nomark _)) (pe_one (pe_cmpR op_isBl (pe_callK0 FI hr3 (by rfl) gI kI kbI pass0 (pk_cons (pv 5) (pk_cons (pv 2) pk_nil))) pe_bl (nomark _))))))))))))))))))), ?_⟩
    -- feed, size
    refine ⟨.ref a, rfl, a, ns, rfl, hS, fun f l H1 s1 nf hf1 => ?_⟩
    refine ⟨.ref f, rfl, f, l, 4, rfl, hf1, by decide, by decide, fun u H2 u0 u1 sb2 hf2 => ⟨_, _, rfl, rfl, ?_⟩⟩
    obtain ⟨n, en, hn⟩ : ∃ n : Nat, (4 : Int) + u = n ∧ n ∈ [4, 5, 6, 7] := ⟨(4 + u).toNat, by omega, by
      simp only [List.mem_cons, List.not_mem_nil, or_false]
      omega⟩
    have tb1 : Tabs [(P1, qL "law"), (P2, qL "_law_none_so")] H1 := fun p hp => by
      simp only [List.mem_cons, List.not_mem_nil, or_false] at hp
      rcases hp with rfl | rfl
      · exact TabS.nil (s1 _ _ hP1)
      · exact TabS.nil (s1 _ _ hP2)
    have tb2 := Tabs.but sb2 hf1 tb1
    clear hf1 sb2 hS s1 hlen hP1 hP2 tb1
    dsimp only
    rw [en]
    clear en u0 u1
    have n7 : 4 ≤ n ∧ n ≤ 7 := by
      simp only [List.mem_cons, List.not_mem_nil, or_false] at hn
      omega
    have ctwo := cuts_two n hn
    have cal := cuts_al n hn
    have h2k : ∀ c ∈ cutsW n, c.length ≤ 1000 ∧ ∀ p ∈ c, p.length ≤ 1000 := fun c hc => ⟨by have := (ctwo c hc).1; omega, fun p hp => by rw [(ctwo c hc).2.2 p hp]; decide⟩
    -- due, told
    refine ⟨.int n, rfl, n, rfl, hn, fun R ts H3 s3 eR hts => ?_⟩
    refine ⟨.int n, rfl, n, rfl, fun k ek hk R2 ts2 H4 s4 r20 eR2 hts2 => ?_, fun z => absurd z (by rw [show polyB (n : Int) = true from decide_eq_true (by omega)]; decide)⟩
    have ek : n = k := by omega
    subst ek
    have eR4 := s4 _ _ eR
    have hts4 := TabsAt.kt (.of s4) hts
    refine ⟨.ref R2, rfl, .ref R, rfl, _, _, rfl, al_tabs eR2 hts2 eR4 hts4 cal h2k, fun H5 s5 => ⟨true, rfl, iteF ?_⟩⟩
    have eR5 := s5 _ _ eR4
    refine ⟨.ref R, rfl, R, _, rfl, .inl (SqL.of eR5), by show 4 ≤ sizeLine; decide, fun li eli => ?_⟩
    have sli := same_upd (o := .lst [.int 2, .int 5, .int 14, .int 42]) eli
    have e4 : (n : Int) - 4 = ((n - 4 : Nat) : Int) := by omega
    obtain ⟨z, ez, hz⟩ : ∃ z : Int, ([.int 2, .int 5, .int 14, .int 42] : List V)[n - 4]? = some (.int z) ∧ z = ((cutsW n).length : Int) := by
      have := cuts_len n hn
      simp only [List.mem_cons, List.not_mem_nil, or_false] at hn
      rcases hn with rfl | rfl | rfl | rfl
      · exact ⟨2, rfl, by rw [this]; rfl⟩
      · exact ⟨5, rfl, by rw [this]; rfl⟩
      · exact ⟨14, rfl, by rw [this]; rfl⟩
      · exact ⟨42, rfl, by rw [this]; rfl⟩
    refine ⟨.int n, rfl, _, _, rfl, rfl, li, _, _, .int z, rfl, rfl, SqL.of upd_same, by rw [e4]; exact atI_nat ez, rfl, _, rfl, ?_⟩
    rw [List.length_map, hts.1, hz]
    refine ite2 (fun e => absurd e (by simp)) (fun _ => ?_)
    have s46 := s5.trans sli
    have nRR : R ≠ R2 := fun z => by
      rw [z, r20] at eR
      cases eR
    have eR6 := s46 _ _ eR4
    have eR26 := s46 _ _ eR2
    have hts6 := TabsAt.kt (.of s46) hts4
    have s06 := (s3.trans s4).trans s46
    have hf6 := hf2.same s06
    have tb6 := tb2.ext s06
    generalize (upd H5 li (.lst [.int 2, .int 5, .int 14, .int 42])) = H6 at eR6 eR26 hts6 hf6 tb6 s06
    have n2f : R2 ≠ f := fun z => by
      have h3 := hf2.same s3
      obtain ⟨_, _, _, _, _, _, g2, _⟩ := h3
      rw [z, g2] at r20
      cases r20
    have n2l : R2 ≠ l := fun z => by
      have h3 := hf2.same s3
      obtain ⟨_, _, _, _, _, _, _, g3, _⟩ := h3
      rw [z, g3] at r20
      cases r20
    clear s46 sli eli ez hz e4 z eR5 s5 eR4 hts4 s4 r20 eR2 hts2 s3 eR hts H5 H4 H3
    -- told is cleared
    refine ⟨.ref R2, rfl, .inl ⟨rfl, _, SqL.of eR26⟩, R2, _, rfl, rfl, eR26, ?_⟩
    have eR7 : (upd H6 R2 (.lst [])) R = some (.lst (ts.map V.ref)) := by
      rw [upd_ne nRR]
      exact eR6
    have hts7 : TabsAt (upd H6 R2 (.lst [])) ts (cutsW n) := TabsAt.kt (.put eR26) hts6
    have hf7 : FeedAt (upd H6 R2 (.lst [])) f l := hf6.put n2f n2l
    have tb7 := Tabs.put (o := .lst []) tb6 eR26
    generalize (upd H6 R2 (.lst [])) = H7 at eR7 hts7 hf7 tb7
    clear eR6 eR26 hts6 hf6 tb6 s06 n2f n2l nRR hf2 tb2
    -- cuts once more
    refine ⟨.int n, rfl, n, rfl, fun k ek hk R3 ts3 H8 s8 _ eR3 hts3 => ?_, fun z => absurd z (by rw [show polyB (n : Int) = true from decide_eq_true (by omega)]; decide)⟩
    have ek : n = k := by omega
    subst ek
    have eR8 := s8 _ _ eR7
    have hts8 := TabsAt.kt (.of s8) hts7
    refine ⟨.ref R, rfl, _, _, rfl, al_tabs eR3 hts3 eR8 hts8 cal h2k, fun H9 s9 => ⟨true, rfl, iteF ?_⟩⟩
    have s79 := s8.trans s9
    have eR9 := s79 _ _ eR7
    have hts9 := TabsAt.kt (.of s79) hts7
    have hf9 := hf7.same s79
    have tb9 := tb7.ext s79
    clear s79 s9 s8 eR3 hts3 eR8 hts8 eR7 hts7 hf7 tb7
    have nRf : R ≠ f := fun z => by
      obtain ⟨ns', i', a', b', c', g1, g2, g3, _⟩ := hf9
      rw [z, g2] at eR9
      have h0 : 0 < ts.length := by
        have := congrArg List.length (HO.lst.inj (Option.some.inj eR9))
        rw [List.length_map] at this
        show 0 < ts.length
        have e5 : ([V.ref l, V.int i', V.int a', V.int b', V.int c'] : List V).length = 5 := rfl
        omega
      match ts, hts9, eR9, h0 with
      | t :: ts', hts9, eR9, _ =>
        have := HO.lst.inj (Option.some.inj eR9)
        have t1 : l = t := V.ref.inj (List.cons.inj this).1
        match cutsW n, hts9 with
        | c :: cs, hts9 =>
          obtain ⟨as', r1, _⟩ := hts9.tail.1
          rw [← t1, g3] at r1
          cases r1
    -- a cut
    refine ⟨.ref f, rfl, .int n, rfl, f, l, n, rfl, hf9, hn, fun p cut H10 hcut sb10 hf10 hp => ?_⟩
    have W : Wl f l R p ts n cut [(P1, qL "law"), (P2, qL "_law_none_so")] H10 := ⟨hf10, nRf, sb10 _ _ nRf eR9, TabsAt.kt (.but sb10 hf9) hts9, hp, Tabs.but sb10 hf9 tb9⟩
    clear hf9 eR9 hts9 tb9 sb10 hf10 hp
    obtain ⟨lcut, icut, tcut⟩ := ctwo cut hcut
    have c100 : cut.length ≤ 100 := by omega
    have h0c : 0 < cut.length := by omega
    have first : ∀ {G : Hp}, TabAt G p cut → ∃ (as : List Addr) (c0 : Addr), G p = some (.tup (as.map V.ref)) ∧ (as.map V.ref)[0]? = some (.ref c0) ∧ RowAt G c0 (cut.getD 0 []) ∧ (cut.getD 0 []).length = 2 := fun {G} h => by
      obtain ⟨as, g1, g2⟩ := h
      obtain ⟨c0, e1, e2⟩ := g2.2 0 _ (List.getElem?_eq_getElem h0c)
      have ek : cut[0] = cut.getD 0 [] := by
        rw [List.getD_eq_getElem?_getD, List.getElem?_eq_getElem h0c]
        rfl
      have l2 := tcut _ (List.getElem_mem h0c)
      rw [ek] at e2 l2
      exact ⟨as, c0, g1, by rw [List.getElem?_map, e1]; rfl, e2, l2⟩
    -- bent ones
    refine ⟨.ref f, rfl, .int n, rfl, .ref p, rfl, f, l, p, n, cut, rfl, W.feed, hn, hcut, W.cutA, fun Z bs k oi H11 hk ho sb11 hf11 eZ hbs => ⟨Z, rfl, ⟨_, SqL.of eZ⟩, ?_⟩⟩
    have W11 := W.but sb11 hf11
    clear W sb11 hf11
    have good := bent_good hn hcut hk ho
    have blen := bent_len hn hcut (k := k) (oi := oi)
    refine for_list (K := K) (a := Z) (xs := bs.map V.ref) (fun j σ H' => ∃ (y6 : Option V), σ = [some (.ref a), some (.ref f), some (.int n), some (.ref R), some (.ref R2), some (.ref p), y6, none, none, none] ∧ Wl f l R p ts n cut [(P1, qL "law"), (P2, qL "_law_none_so")] H' ∧ H' Z = some (.lst (bs.map V.ref)) ∧ TabsAt H' bs (bentL n cut k oi)) ⟨none, rfl, W11, eZ, hbs⟩ (fun j σ H' _ ⟨_, _, _, e, _⟩ => SqL.of e) ?_ ?_
    · rintro j v σ H12 hv ⟨y6, rfl, W12, eZ12, hbs12⟩
      obtain ⟨t, et, rfl⟩ := ref_at hv
      obtain ⟨bad, eb, ht⟩ := hbs12.at et
      have hbm := List.mem_of_getElem? eb
      obtain ⟨g1, g2⟩ := Bool.and_eq_true_iff.mp (good bad hbm)
      have g1 : isCutB n bad = (cutsW n).contains bad := beq_iff_eq.mp g1
      have g2 : ∀ q ∈ bad, q.length = 2 := fun q hq => of_decide_eq_true (List.all_eq_true.mp g2 q hq)
      have l100 := blen bad hbm
      have eany : ((cutsW n).map tabD).any (fun z => PyData.eqv z (tabD bad)) = isCutB n bad := by
        rw [g1, Bool.eq_iff_iff, any_eqv tabD_eqv, List.contains_iff_mem]
      refine ⟨.int n, rfl, .ref t, rfl, n, t, bad, rfl, ht, g2, l100, fun H13 s13 => ?_⟩
      have W13 := W12.same s13
      have ht13 := ht.kt (.of s13)
      refine ⟨.ref t, rfl, .ref R, rfl, tabD bad, (cutsW n).map tabD, dp_tab ht13, .lst (SqL.of W13.due) (dp_tabs W13.tabs), shaped_tab bad, shaped_tabs _, ?_⟩
      rw [eany]
      refine ⟨_, _, rfl, .inl ⟨rfl, .inr (.inr (.inl ⟨_, rfl⟩))⟩, fun H14 s14 => ⟨true, rfl, iteF ?_⟩⟩
      have W14 := W13.same s14
      have ht14 := ht13.kt (.of s14)
      have s24 := s13.trans s14
      refine ⟨.ref t, rfl, .ref R, rfl, tabD bad, (cutsW n).map tabD, dp_tab ht14, .lst (SqL.of W14.due) (dp_tabs W14.tabs), shaped_tab bad, shaped_tabs _, ?_⟩
      rw [eany]
      cases eb2 : isCutB n bad with
      | true =>
        exact ⟨false, rfl, iteF (iteF ⟨_, rfl, W14, s24 _ _ eZ12, TabsAt.kt (.of s24) hbs12⟩)⟩
      | false =>
        obtain ⟨as, c0, q1, q2, q3, q4⟩ := first W14.cutA
        refine ⟨true, rfl, iteT ?_⟩
        refine ⟨.int n, rfl, .ref t, rfl, .ref p, rfl, p, _, 0, .ref c0, rfl, rfl, SqT.of q1, atI_nat (j := 0) q2, n, t, c0, bad, _, rfl, ⟨ht14, g2, l100⟩, q3, q4, eb2, W14.tb, fun H15 x15 tb15 => ⟨true, rfl, iteF ?_⟩⟩
        exact ⟨_, rfl, W14.ext x15 tb15, x15 _ _ (s24 _ _ eZ12) (fun ps z => by cases z), TabsAt.kt (.ext x15) (TabsAt.kt (.of s24) hbs12)⟩
    rintro σ H12 ⟨y6, rfl, W12, _, _⟩
    clear W11 eZ hbs good blen
    -- far
    refine ⟨.ref f, rfl, 4, rfl, .ref f, rfl, 10, 9, rfl, rfl, ⟨by decide, by decide, by decide⟩, f, l, _, rfl, W12.feed, by decide, by decide, fun v H13 v0 v1 sb13 hf13 => ?_⟩
    have W13 := W12.but sb13 hf13
    clear W12 sb13 hf13
    refine ⟨_, _, rfl, rfl, by show 5 ≤ sizeLine; decide, fun o eo => ?_⟩
    have so := same_upd (o := .lst [.int 3, .int 8, .int 0, .int (-4), .int (8 + v)]) eo
    refine ⟨f, l, o, _, rfl, W13.feed.same so, upd_same, W13.feed.ne eo, by show 0 < 5; decide, by show 5 < 1000; decide, fun v' H14 hv sb14 hf14 => ?_⟩
    obtain ⟨far, rfl, hfar⟩ : ∃ far : Int, v' = .int far ∧ polyB far = false := by
      simp only [List.mem_cons, List.not_mem_nil, or_false] at hv
      rcases hv with rfl | rfl | rfl | rfl | rfl
      · exact ⟨_, rfl, rfl⟩
      · exact ⟨_, rfl, rfl⟩
      · exact ⟨_, rfl, rfl⟩
      · exact ⟨_, rfl, rfl⟩
      · exact ⟨_, rfl, decide_eq_false (by omega)⟩
    have W14 := (W13.same so).but sb14 hf14
    clear W13 so eo sb14 hf14 hv v0 v1
    have ifar : isCutB far cut = false := by
      unfold isCutB
      rw [hfar]
      rfl
    obtain ⟨as, c0, q1, q2, q3, q4⟩ := first W14.cutA
    refine ⟨.int far, rfl, .ref p, rfl, .ref p, rfl, p, _, 0, .ref c0, rfl, rfl, SqT.of q1, atI_nat (j := 0) q2, far, p, c0, cut, _, rfl, ⟨W14.cutA, tcut, c100⟩, q3, q4, ifar, W14.tb, fun H15 x15 tb15 => ⟨true, rfl, iteF ?_⟩⟩
    have W15 := W14.ext x15 tb15
    clear W14 x15 tb15 q1 q2 q3 q4
    refine ⟨W15.tb, fun H16 x16 tb16 => ?_⟩
    have W16 := W15.ext x16 tb16
    clear W15 x16 tb16
    refine ⟨.int far, rfl, far, rfl, fun k ek hk => ?_, fun _ d H17 s17 hd => ⟨.str "bad cut", TS.at hd, rfl, _, rfl, ite2 (fun e => absurd e (by decide)) (fun _ => ?_)⟩⟩
    · have : polyB far = true := by
        rw [ek]
        refine decide_eq_true ?_
        simp only [List.mem_cons, List.not_mem_nil, or_false] at hk
        omega
      rw [hfar] at this
      cases this
    have W17 := W16.same s17
    clear W16 s17 hd
    -- strange ones
    obtain ⟨as, c0, q1, q2, q3, q4⟩ := first W17.cutA
    have hk0 : 0 < n - 3 := by omega
    obtain ⟨lac, _, _⟩ := acr_facts hn hcut hk0
    have nac := acr_new hn hcut
    refine ⟨.int n, rfl, .ref p, rfl, .ref p, rfl, p, _, 0, .ref c0, rfl, rfl, SqT.of q1, atI_nat (j := 0) q2, n, p, c0, cut, _, rfl, n7.2, W17.cutA, q3, q4, fun x H18 s18 hx => ?_⟩
    have hx : RowAt H18 x (acr n cut 0) := hx
    refine ⟨by show 2 ≤ sizeLine; decide, fun t1 e1 => ⟨.int n, rfl, _, _, rfl, rfl, by show 2 ≤ sizeLine; decide, fun t2 e2 => ⟨by show 3 ≤ sizeLine; decide, fun S eS => ?_⟩⟩⟩
    have z1 := same_upd (o := .tup [.int 0, .int 1]) e1
    have z2 := same_upd (o := .tup [.int 0, .int ((n : Int) - 1)]) e2
    have z3 := same_upd (o := .lst [.ref x, .ref t1, .ref t2]) eS
    have W19 := W17.same (s18.trans ((z1.trans z2).trans z3))
    have rows : RowsAt _ [x, t1, t2] [acr n cut 0, [0, 1], [0, (n : Int) - 1]] := .cons (((z1.trans z2).trans z3) _ _ hx) (.cons ((z2.trans z3) _ _ upd_same) (.cons (z3 _ _ upd_same) .nil))
    have eS' : (upd (upd (upd H18 t1 (.tup [.int 0, .int 1])) t2 (.tup [.int 0, .int ((n : Int) - 1)])) S (.lst [.ref x, .ref t1, .ref t2])) S = some (.lst (([x, t1, t2] : List Addr).map V.ref)) := upd_same
    generalize (upd (upd (upd H18 t1 (.tup [.int 0, .int 1])) t2 (.tup [.int 0, .int ((n : Int) - 1)])) S (.lst [.ref x, .ref t1, .ref t2])) = H19 at W19 rows eS'
    clear z1 z2 z3 e1 e2 eS W17 s18 hx q1 q2 q3 q4
    have odd : ∀ c ∈ ([acr n cut 0, [0, 1], [0, (n : Int) - 1]] : List Ch), c.length = 2 ∧ (chordB n c = true → c ∉ cut) := fun c hc => by
      simp only [List.mem_cons, List.not_mem_nil, or_false] at hc
      rcases hc with rfl | rfl | rfl
      · exact ⟨lac, fun _ => nac⟩
      · refine ⟨rfl, fun z => ?_⟩
        have : chordB n [0, 1] = false := by
          unfold chordB sideB
          rw [decide_eq_true (show p1 [0, 1] - p0 [0, 1] = 1 from rfl), Bool.true_or, Bool.not_true, Bool.and_false, Bool.and_false, Bool.and_false]
        rw [this] at z
        cases z
      · refine ⟨rfl, fun z => ?_⟩
        have : chordB n [0, (n : Int) - 1] = false := by
          unfold chordB sideB
          rw [decide_eq_true (show p1 [0, (n : Int) - 1] - p0 [0, (n : Int) - 1] = (n : Int) - 1 from Int.sub_zero _), Bool.or_true, Bool.not_true, Bool.and_false, Bool.and_false, Bool.and_false]
        rw [this] at z
        cases z
    refine ⟨.ref S, rfl, S, rfl, ⟨_, SqL.of eS'⟩, ?_⟩
    refine for_list (K := K) (a := S) (xs := ([x, t1, t2] : List Addr).map V.ref) (fun j σ H' => ∃ (y9 : Option V), σ = [some (.ref a), some (.ref f), some (.int n), some (.ref R), some (.ref R2), some (.ref p), y6, some (.int far), some (.ref S), y9] ∧ Wl f l R p ts n cut [(P1, qL "law"), (P2, qL "_law_none_so")] H' ∧ H' S = some (.lst (([x, t1, t2] : List Addr).map V.ref)) ∧ RowsAt H' [x, t1, t2] [acr n cut 0, [0, 1], [0, (n : Int) - 1]]) ⟨none, rfl, W19, eS', rows⟩ (fun j σ H' _ ⟨_, _, _, e, _⟩ => SqL.of e) ?_ ?_
    · rintro j v σ H20 hv ⟨y9, rfl, W20, eS20, rows20⟩
      obtain ⟨t, et, rfl⟩ := ref_at hv
      obtain ⟨c, ec, ht⟩ := rows20.at et
      obtain ⟨lc, hno⟩ := odd c (List.mem_of_getElem? ec)
      refine ⟨W20.tb, fun H21 x21 tb21 => ?_⟩
      have W21 := W20.ext x21 tb21
      have ht21 : RowAt H21 t c := KeepT.ext x21 _ _ ht
      refine ⟨.int n, rfl, .ref p, rfl, .ref t, rfl, n, p, t, cut, c, rfl, ⟨W21.cutA, tcut, c100⟩, ht21, lc, fun _ z => hno z, fun d H22 s22 hd => ⟨.str "bad cut", TS.at hd, rfl, _, rfl, ite2 (fun e => absurd e (by decide)) (fun _ => ?_)⟩⟩
      have W22 := W21.same s22
      have ht22 := s22 _ _ ht21
      refine ⟨W22.tb, fun H23 x23 tb23 => ?_⟩
      have W23 := W22.ext x23 tb23
      have ht23 : RowAt H23 t c := KeepT.ext x23 _ _ ht22
      refine ⟨.int n, rfl, .ref p, rfl, .ref t, rfl, n, p, t, cut, c, rfl, ⟨W23.cutA, tcut, c100⟩, ht23, lc, fun _ z => hno z, fun d H24 s24 hd => ⟨.str "bad cut", TS.at hd, rfl, _, rfl, ite2 (fun e => absurd e (by decide)) (fun _ => ?_)⟩⟩
      have X24 : ExtN H20 H24 := (x21.trans (.of s22)).trans (x23.trans (.of s24))
      exact ⟨_, rfl, W23.same s24, X24 _ _ eS20 (fun ps z => by cases z), RowsAt.kt (.ext X24) rows20⟩
    rintro σ H20 ⟨y9, rfl, W20, _, _⟩
    refine ⟨.int far, rfl, .ref p, rfl, far, p, cut, rfl, W20.cutA, tcut, c100, fun H21 s21 => ⟨_, _, rfl, rfl, ?_⟩⟩
    rw [ifar]
    refine ⟨true, rfl, ?_⟩
    have W21 := W20.same s21
    refine ⟨.ref p, rfl, .int n, rfl, n, p, cut, rfl, W21.cutA, tcut, c100, fun H22 s22 => ⟨_, _, rfl, rfl, ?_⟩⟩
    rw [icut]
    exact q _

end
end Bw
set_option Elab.async false
set_option linter.all false
set_option maxRecDepth 100000
set_option maxHeartbeats 4000000
namespace Bw
open PySem PySem.Spec PyProof.Rows L2
theorem all_mk {l : PySem.W.OpenLaw} {w : World} {K : PySem.W.Frag} {h : Heap} {mg : Str → Option Value} {fa : Addr} (X : K.In h) (G : h.Ns mainGlobals mg) (hfa : mg "law" = some (.ref fa)) (own : LamX.OwnTab K fa h) (own_law_none_so : ∀ f, mg "_law_none_so" = some (.ref f) → LamX.OwnTab K f h)
    {C_BudError : Addr}
    {C_BadCut : Addr}
    {od_is_number an_is_number : Option Addr} {sl_is_number : Array (Option Value)} {oc_is_number kV_is_number dc_is_number pm_is_number cd_is_number ct_is_number : Value} {f_is_number : Addr}
    {od_is_polygon an_is_polygon : Option Addr} {sl_is_polygon : Array (Option Value)} {oc_is_polygon kV_is_polygon dc_is_polygon pm_is_polygon cd_is_polygon ct_is_polygon : Value} {f_is_polygon : Addr}
    {od_rising_corners an_rising_corners : Option Addr} {sl_rising_corners : Array (Option Value)} {oc_rising_corners kV_rising_corners dc_rising_corners pm_rising_corners cd_rising_corners ct_rising_corners : Value} {f_rising_corners : Addr}
    {od_is_side an_is_side : Option Addr} {sl_is_side : Array (Option Value)} {oc_is_side kV_is_side dc_is_side pm_is_side cd_is_side ct_is_side : Value} {f_is_side : Addr}
    {od_all_chords an_all_chords : Option Addr} {sl_all_chords : Array (Option Value)} {oc_all_chords kV_all_chords dc_all_chords pm_all_chords cd_all_chords ct_all_chords : Value} {f_all_chords : Addr}
    {od_crosses an_crosses : Option Addr} {sl_crosses : Array (Option Value)} {oc_crosses kV_crosses dc_crosses pm_crosses cd_crosses ct_crosses : Value} {f_crosses : Addr}
    {od_fits_behind an_fits_behind : Option Addr} {sl_fits_behind : Array (Option Value)} {oc_fits_behind kV_fits_behind dc_fits_behind pm_fits_behind cd_fits_behind ct_fits_behind : Value} {f_fits_behind : Addr}
    {od_cuts an_cuts : Option Addr} {sl_cuts : Array (Option Value)} {oc_cuts kV_cuts dc_cuts pm_cuts cd_cuts ct_cuts : Value} {f_cuts : Addr}
    {od_is_chord an_is_chord : Option Addr} {sl_is_chord : Array (Option Value)} {oc_is_chord kV_is_chord dc_is_chord pm_is_chord cd_is_chord ct_is_chord : Value} {f_is_chord : Addr}
    {od_is_cut an_is_cut : Option Addr} {sl_is_cut : Array (Option Value)} {oc_is_cut kV_is_cut dc_is_cut pm_is_cut cd_is_cut ct_is_cut : Value} {f_is_cut : Addr}
    {od_check_cut an_check_cut : Option Addr} {sl_check_cut : Array (Option Value)} {oc_check_cut kV_check_cut dc_check_cut pm_check_cut cd_check_cut ct_check_cut : Value} {f_check_cut : Addr}
    {od_cut_table an_cut_table : Option Addr} {sl_cut_table : Array (Option Value)} {oc_cut_table kV_cut_table dc_cut_table pm_cut_table cd_cut_table ct_cut_table : Value} {f_cut_table : Addr}
    {od_flipped an_flipped : Option Addr} {sl_flipped : Array (Option Value)} {oc_flipped kV_flipped dc_flipped pm_flipped cd_flipped ct_flipped : Value} {f_flipped : Addr}
    {od_flip an_flip : Option Addr} {sl_flip : Array (Option Value)} {oc_flip kV_flip dc_flip pm_flip cd_flip ct_flip : Value} {f_flip : Addr}
    {od_lengths an_lengths : Option Addr} {sl_lengths : Array (Option Value)} {oc_lengths kV_lengths dc_lengths pm_lengths cd_lengths ct_lengths : Value} {f_lengths : Addr}
    {od_law_feed an_law_feed : Option Addr} {sl_law_feed : Array (Option Value)} {oc_law_feed kV_law_feed dc_law_feed pm_law_feed cd_law_feed ct_law_feed : Value} {f_law_feed : Addr}
    {od_law_draw an_law_draw : Option Addr} {sl_law_draw : Array (Option Value)} {oc_law_draw kV_law_draw dc_law_draw pm_law_draw cd_law_draw ct_law_draw : Value} {f_law_draw : Addr}
    {od_law_pick an_law_pick : Option Addr} {sl_law_pick : Array (Option Value)} {oc_law_pick kV_law_pick dc_law_pick pm_law_pick cd_law_pick ct_law_pick : Value} {f_law_pick : Addr}
    {od_law_shuffled an_law_shuffled : Option Addr} {sl_law_shuffled : Array (Option Value)} {oc_law_shuffled kV_law_shuffled dc_law_shuffled pm_law_shuffled cd_law_shuffled ct_law_shuffled : Value} {f_law_shuffled : Addr}
    {od_law_same an_law_same : Option Addr} {sl_law_same : Array (Option Value)} {oc_law_same kV_law_same dc_law_same pm_law_same cd_law_same ct_law_same : Value} {f_law_same : Addr}
    {od_law_word an_law_word : Option Addr} {sl_law_word : Array (Option Value)} {oc_law_word kV_law_word dc_law_word pm_law_word cd_law_word ct_law_word : Value} {f_law_word : Addr}
    {od_law_crosses an_law_crosses : Option Addr} {sl_law_crosses : Array (Option Value)} {oc_law_crosses kV_law_crosses dc_law_crosses pm_law_crosses cd_law_crosses ct_law_crosses : Value} {f_law_crosses : Addr}
    {od_law_chords an_law_chords : Option Addr} {sl_law_chords : Array (Option Value)} {oc_law_chords kV_law_chords dc_law_chords pm_law_chords cd_law_chords ct_law_chords : Value} {f_law_chords : Addr}
    {od_law_cuts an_law_cuts : Option Addr} {sl_law_cuts : Array (Option Value)} {oc_law_cuts kV_law_cuts dc_law_cuts pm_law_cuts cd_law_cuts ct_law_cuts : Value} {f_law_cuts : Addr}
    {od_law_a_cut an_law_a_cut : Option Addr} {sl_law_a_cut : Array (Option Value)} {oc_law_a_cut kV_law_a_cut dc_law_a_cut pm_law_a_cut cd_law_a_cut ct_law_a_cut : Value} {f_law_a_cut : Addr}
    {od_law_near an_law_near : Option Addr} {sl_law_near : Array (Option Value)} {oc_law_near kV_law_near dc_law_near pm_law_near cd_law_near ct_law_near : Value} {f_law_near : Addr}
    {od_law_across an_law_across : Option Addr} {sl_law_across : Array (Option Value)} {oc_law_across kV_law_across dc_law_across pm_law_across cd_law_across ct_law_across : Value} {f_law_across : Addr}
    {od_law_none_so an_law_none_so : Option Addr} {sl_law_none_so : Array (Option Value)} {oc_law_none_so kV_law_none_so dc_law_none_so pm_law_none_so ct_law_none_so : Value} {f_law_none_so : Addr}
    {cc_law_none_so Pt_law_none_so : Addr} {oc2_law_none_so : Value} {od2_law_none_so : Option Addr} {vs_law_none_so : Array Value} {sl2_law_none_so : Array (Option Value)}
    {od_law_bent_cuts an_law_bent_cuts : Option Addr} {sl_law_bent_cuts : Array (Option Value)} {oc_law_bent_cuts kV_law_bent_cuts dc_law_bent_cuts pm_law_bent_cuts cd_law_bent_cuts ct_law_bent_cuts : Value} {f_law_bent_cuts : Addr}
    {od_law an_law : Option Addr} {sl_law : Array (Option Value)} {oc_law kV_law dc_law pm_law ct_law : Value} {f_law : Addr}
    {cc_law Pt_law : Addr} {oc2_law : Value} {od2_law : Option Addr} {vs_law : Array Value} {sl2_law : Array (Option Value)}
    {od_bud_init an_bud_init : Option Addr} {sl_bud_init : Array (Option Value)} {oc_bud_init kV_bud_init dc_bud_init pm_bud_init cd_bud_init ct_bud_init : Value} {f_bud_init : Addr}
    {od_bad_init an_bad_init : Option Addr} {sl_bad_init : Array (Option Value)} {oc_bad_init kV_bad_init dc_bad_init pm_bad_init cd_bad_init ct_bad_init : Value} {f_bad_init : Addr}
    {t_LEAST_CORNERS : Tok}
    {t_MOST_CORNERS : Tok}
    {nm q : Str} {N : Addr} {bs : List Value} {sn : List Str} {sub : List Value} {ab : Bool} {col : Option Bool} {dd : Option Addr} {m0 m1 m2 m3 m5 : Option Value}
    (a_BudError : PySem.W.nsIn K mainGlobals "BudError" = some (some (.ref C_BudError)))
    (a_BadCut : PySem.W.nsIn K mainGlobals "BadCut" = some (some (.ref C_BadCut)))
    (a_is_number : PySem.W.nsIn K mainGlobals "is_number" = some (some (.ref f_is_number)))
    (l_is_number : K.lookup f_is_number = some ⟨oc_is_number, od_is_number, .func (PySem.W.fnOf "is_number" "is_number" (defArgs s_is_number) (defBody s_is_number) (defScope s_is_number) .none kV_is_number dc_is_number pm_is_number an_is_number cd_is_number ct_is_number), sl_is_number⟩)
    (c_is_number : PySem.W.codeIn K cd_is_number "is_number" = true)
    (k_is_number : PySem.W.keepIn K (.ref f_is_number) = true)
    (a_is_polygon : PySem.W.nsIn K mainGlobals "is_polygon" = some (some (.ref f_is_polygon)))
    (l_is_polygon : K.lookup f_is_polygon = some ⟨oc_is_polygon, od_is_polygon, .func (PySem.W.fnOf "is_polygon" "is_polygon" (defArgs s_is_polygon) (defBody s_is_polygon) (defScope s_is_polygon) .none kV_is_polygon dc_is_polygon pm_is_polygon an_is_polygon cd_is_polygon ct_is_polygon), sl_is_polygon⟩)
    (c_is_polygon : PySem.W.codeIn K cd_is_polygon "is_polygon" = true)
    (k_is_polygon : PySem.W.keepIn K (.ref f_is_polygon) = true)
    (a_rising_corners : PySem.W.nsIn K mainGlobals "rising_corners" = some (some (.ref f_rising_corners)))
    (l_rising_corners : K.lookup f_rising_corners = some ⟨oc_rising_corners, od_rising_corners, .func (PySem.W.fnOf "rising_corners" "rising_corners" (defArgs s_rising_corners) (defBody s_rising_corners) (defScope s_rising_corners) .none kV_rising_corners dc_rising_corners pm_rising_corners an_rising_corners cd_rising_corners ct_rising_corners), sl_rising_corners⟩)
    (c_rising_corners : PySem.W.codeIn K cd_rising_corners "rising_corners" = true)
    (k_rising_corners : PySem.W.keepIn K (.ref f_rising_corners) = true)
    (a_is_side : PySem.W.nsIn K mainGlobals "is_side" = some (some (.ref f_is_side)))
    (l_is_side : K.lookup f_is_side = some ⟨oc_is_side, od_is_side, .func (PySem.W.fnOf "is_side" "is_side" (defArgs s_is_side) (defBody s_is_side) (defScope s_is_side) .none kV_is_side dc_is_side pm_is_side an_is_side cd_is_side ct_is_side), sl_is_side⟩)
    (c_is_side : PySem.W.codeIn K cd_is_side "is_side" = true)
    (k_is_side : PySem.W.keepIn K (.ref f_is_side) = true)
    (a_all_chords : PySem.W.nsIn K mainGlobals "all_chords" = some (some (.ref f_all_chords)))
    (l_all_chords : K.lookup f_all_chords = some ⟨oc_all_chords, od_all_chords, .func (PySem.W.fnOf "all_chords" "all_chords" (defArgs s_all_chords) (defBody s_all_chords) (defScope s_all_chords) .none kV_all_chords dc_all_chords pm_all_chords an_all_chords cd_all_chords ct_all_chords), sl_all_chords⟩)
    (c_all_chords : PySem.W.codeIn K cd_all_chords "all_chords" = true)
    (k_all_chords : PySem.W.keepIn K (.ref f_all_chords) = true)
    (a_crosses : PySem.W.nsIn K mainGlobals "crosses" = some (some (.ref f_crosses)))
    (l_crosses : K.lookup f_crosses = some ⟨oc_crosses, od_crosses, .func (PySem.W.fnOf "crosses" "crosses" (defArgs s_crosses) (defBody s_crosses) (defScope s_crosses) .none kV_crosses dc_crosses pm_crosses an_crosses cd_crosses ct_crosses), sl_crosses⟩)
    (c_crosses : PySem.W.codeIn K cd_crosses "crosses" = true)
    (k_crosses : PySem.W.keepIn K (.ref f_crosses) = true)
    (a_fits_behind : PySem.W.nsIn K mainGlobals "fits_behind" = some (some (.ref f_fits_behind)))
    (l_fits_behind : K.lookup f_fits_behind = some ⟨oc_fits_behind, od_fits_behind, .func (PySem.W.fnOf "fits_behind" "fits_behind" (defArgs s_fits_behind) (defBody s_fits_behind) (defScope s_fits_behind) .none kV_fits_behind dc_fits_behind pm_fits_behind an_fits_behind cd_fits_behind ct_fits_behind), sl_fits_behind⟩)
    (c_fits_behind : PySem.W.codeIn K cd_fits_behind "fits_behind" = true)
    (k_fits_behind : PySem.W.keepIn K (.ref f_fits_behind) = true)
    (a_cuts : PySem.W.nsIn K mainGlobals "cuts" = some (some (.ref f_cuts)))
    (l_cuts : K.lookup f_cuts = some ⟨oc_cuts, od_cuts, .func (PySem.W.fnOf "cuts" "cuts" (defArgs s_cuts) (defBody s_cuts) (defScope s_cuts) .none kV_cuts dc_cuts pm_cuts an_cuts cd_cuts ct_cuts), sl_cuts⟩)
    (c_cuts : PySem.W.codeIn K cd_cuts "cuts" = true)
    (k_cuts : PySem.W.keepIn K (.ref f_cuts) = true)
    (a_is_chord : PySem.W.nsIn K mainGlobals "is_chord" = some (some (.ref f_is_chord)))
    (l_is_chord : K.lookup f_is_chord = some ⟨oc_is_chord, od_is_chord, .func (PySem.W.fnOf "is_chord" "is_chord" (defArgs s_is_chord) (defBody s_is_chord) (defScope s_is_chord) .none kV_is_chord dc_is_chord pm_is_chord an_is_chord cd_is_chord ct_is_chord), sl_is_chord⟩)
    (c_is_chord : PySem.W.codeIn K cd_is_chord "is_chord" = true)
    (k_is_chord : PySem.W.keepIn K (.ref f_is_chord) = true)
    (a_is_cut : PySem.W.nsIn K mainGlobals "is_cut" = some (some (.ref f_is_cut)))
    (l_is_cut : K.lookup f_is_cut = some ⟨oc_is_cut, od_is_cut, .func (PySem.W.fnOf "is_cut" "is_cut" (defArgs s_is_cut) (defBody s_is_cut) (defScope s_is_cut) .none kV_is_cut dc_is_cut pm_is_cut an_is_cut cd_is_cut ct_is_cut), sl_is_cut⟩)
    (c_is_cut : PySem.W.codeIn K cd_is_cut "is_cut" = true)
    (k_is_cut : PySem.W.keepIn K (.ref f_is_cut) = true)
    (a_check_cut : PySem.W.nsIn K mainGlobals "check_cut" = some (some (.ref f_check_cut)))
    (l_check_cut : K.lookup f_check_cut = some ⟨oc_check_cut, od_check_cut, .func (PySem.W.fnOf "check_cut" "check_cut" (defArgs s_check_cut) (defBody s_check_cut) (defScope s_check_cut) .none kV_check_cut dc_check_cut pm_check_cut an_check_cut cd_check_cut ct_check_cut), sl_check_cut⟩)
    (c_check_cut : PySem.W.codeIn K cd_check_cut "check_cut" = true)
    (k_check_cut : PySem.W.keepIn K (.ref f_check_cut) = true)
    (a_cut_table : PySem.W.nsIn K mainGlobals "cut_table" = some (some (.ref f_cut_table)))
    (l_cut_table : K.lookup f_cut_table = some ⟨oc_cut_table, od_cut_table, .func (PySem.W.fnOf "cut_table" "cut_table" (defArgs s_cut_table) (defBody s_cut_table) (defScope s_cut_table) .none kV_cut_table dc_cut_table pm_cut_table an_cut_table cd_cut_table ct_cut_table), sl_cut_table⟩)
    (c_cut_table : PySem.W.codeIn K cd_cut_table "cut_table" = true)
    (k_cut_table : PySem.W.keepIn K (.ref f_cut_table) = true)
    (a_flipped : PySem.W.nsIn K mainGlobals "flipped" = some (some (.ref f_flipped)))
    (l_flipped : K.lookup f_flipped = some ⟨oc_flipped, od_flipped, .func (PySem.W.fnOf "flipped" "flipped" (defArgs s_flipped) (defBody s_flipped) (defScope s_flipped) .none kV_flipped dc_flipped pm_flipped an_flipped cd_flipped ct_flipped), sl_flipped⟩)
    (c_flipped : PySem.W.codeIn K cd_flipped "flipped" = true)
    (k_flipped : PySem.W.keepIn K (.ref f_flipped) = true)
    (a_flip : PySem.W.nsIn K mainGlobals "flip" = some (some (.ref f_flip)))
    (l_flip : K.lookup f_flip = some ⟨oc_flip, od_flip, .func (PySem.W.fnOf "flip" "flip" (defArgs s_flip) (defBody s_flip) (defScope s_flip) .none kV_flip dc_flip pm_flip an_flip cd_flip ct_flip), sl_flip⟩)
    (c_flip : PySem.W.codeIn K cd_flip "flip" = true)
    (k_flip : PySem.W.keepIn K (.ref f_flip) = true)
    (a_lengths : PySem.W.nsIn K mainGlobals "lengths" = some (some (.ref f_lengths)))
    (l_lengths : K.lookup f_lengths = some ⟨oc_lengths, od_lengths, .func (PySem.W.fnOf "lengths" "lengths" (defArgs s_lengths) (defBody s_lengths) (defScope s_lengths) .none kV_lengths dc_lengths pm_lengths an_lengths cd_lengths ct_lengths), sl_lengths⟩)
    (c_lengths : PySem.W.codeIn K cd_lengths "lengths" = true)
    (k_lengths : PySem.W.keepIn K (.ref f_lengths) = true)
    (a_law_feed : PySem.W.nsIn K mainGlobals "_law_feed" = some (some (.ref f_law_feed)))
    (l_law_feed : K.lookup f_law_feed = some ⟨oc_law_feed, od_law_feed, .func (PySem.W.fnOf "_law_feed" "_law_feed" (defArgs s_law_feed) (defBody s_law_feed) (defScope s_law_feed) .none kV_law_feed dc_law_feed pm_law_feed an_law_feed cd_law_feed ct_law_feed), sl_law_feed⟩)
    (c_law_feed : PySem.W.codeIn K cd_law_feed "_law_feed" = true)
    (k_law_feed : PySem.W.keepIn K (.ref f_law_feed) = true)
    (a_law_draw : PySem.W.nsIn K mainGlobals "_law_draw" = some (some (.ref f_law_draw)))
    (l_law_draw : K.lookup f_law_draw = some ⟨oc_law_draw, od_law_draw, .func (PySem.W.fnOf "_law_draw" "_law_draw" (defArgs s_law_draw) (defBody s_law_draw) (defScope s_law_draw) .none kV_law_draw dc_law_draw pm_law_draw an_law_draw cd_law_draw ct_law_draw), sl_law_draw⟩)
    (c_law_draw : PySem.W.codeIn K cd_law_draw "_law_draw" = true)
    (k_law_draw : PySem.W.keepIn K (.ref f_law_draw) = true)
    (a_law_pick : PySem.W.nsIn K mainGlobals "_law_pick" = some (some (.ref f_law_pick)))
    (l_law_pick : K.lookup f_law_pick = some ⟨oc_law_pick, od_law_pick, .func (PySem.W.fnOf "_law_pick" "_law_pick" (defArgs s_law_pick) (defBody s_law_pick) (defScope s_law_pick) .none kV_law_pick dc_law_pick pm_law_pick an_law_pick cd_law_pick ct_law_pick), sl_law_pick⟩)
    (c_law_pick : PySem.W.codeIn K cd_law_pick "_law_pick" = true)
    (k_law_pick : PySem.W.keepIn K (.ref f_law_pick) = true)
    (a_law_shuffled : PySem.W.nsIn K mainGlobals "_law_shuffled" = some (some (.ref f_law_shuffled)))
    (l_law_shuffled : K.lookup f_law_shuffled = some ⟨oc_law_shuffled, od_law_shuffled, .func (PySem.W.fnOf "_law_shuffled" "_law_shuffled" (defArgs s_law_shuffled) (defBody s_law_shuffled) (defScope s_law_shuffled) .none kV_law_shuffled dc_law_shuffled pm_law_shuffled an_law_shuffled cd_law_shuffled ct_law_shuffled), sl_law_shuffled⟩)
    (c_law_shuffled : PySem.W.codeIn K cd_law_shuffled "_law_shuffled" = true)
    (k_law_shuffled : PySem.W.keepIn K (.ref f_law_shuffled) = true)
    (a_law_same : PySem.W.nsIn K mainGlobals "_law_same" = some (some (.ref f_law_same)))
    (l_law_same : K.lookup f_law_same = some ⟨oc_law_same, od_law_same, .func (PySem.W.fnOf "_law_same" "_law_same" (defArgs s_law_same) (defBody s_law_same) (defScope s_law_same) .none kV_law_same dc_law_same pm_law_same an_law_same cd_law_same ct_law_same), sl_law_same⟩)
    (c_law_same : PySem.W.codeIn K cd_law_same "_law_same" = true)
    (k_law_same : PySem.W.keepIn K (.ref f_law_same) = true)
    (a_law_word : PySem.W.nsIn K mainGlobals "_law_word" = some (some (.ref f_law_word)))
    (l_law_word : K.lookup f_law_word = some ⟨oc_law_word, od_law_word, .func (PySem.W.fnOf "_law_word" "_law_word" (defArgs s_law_word) (defBody s_law_word) (defScope s_law_word) .none kV_law_word dc_law_word pm_law_word an_law_word cd_law_word ct_law_word), sl_law_word⟩)
    (c_law_word : PySem.W.codeIn K cd_law_word "_law_word" = true)
    (k_law_word : PySem.W.keepIn K (.ref f_law_word) = true)
    (a_law_crosses : PySem.W.nsIn K mainGlobals "_law_crosses" = some (some (.ref f_law_crosses)))
    (l_law_crosses : K.lookup f_law_crosses = some ⟨oc_law_crosses, od_law_crosses, .func (PySem.W.fnOf "_law_crosses" "_law_crosses" (defArgs s_law_crosses) (defBody s_law_crosses) (defScope s_law_crosses) .none kV_law_crosses dc_law_crosses pm_law_crosses an_law_crosses cd_law_crosses ct_law_crosses), sl_law_crosses⟩)
    (c_law_crosses : PySem.W.codeIn K cd_law_crosses "_law_crosses" = true)
    (k_law_crosses : PySem.W.keepIn K (.ref f_law_crosses) = true)
    (a_law_chords : PySem.W.nsIn K mainGlobals "_law_chords" = some (some (.ref f_law_chords)))
    (l_law_chords : K.lookup f_law_chords = some ⟨oc_law_chords, od_law_chords, .func (PySem.W.fnOf "_law_chords" "_law_chords" (defArgs s_law_chords) (defBody s_law_chords) (defScope s_law_chords) .none kV_law_chords dc_law_chords pm_law_chords an_law_chords cd_law_chords ct_law_chords), sl_law_chords⟩)
    (c_law_chords : PySem.W.codeIn K cd_law_chords "_law_chords" = true)
    (k_law_chords : PySem.W.keepIn K (.ref f_law_chords) = true)
    (a_law_cuts : PySem.W.nsIn K mainGlobals "_law_cuts" = some (some (.ref f_law_cuts)))
    (l_law_cuts : K.lookup f_law_cuts = some ⟨oc_law_cuts, od_law_cuts, .func (PySem.W.fnOf "_law_cuts" "_law_cuts" (defArgs s_law_cuts) (defBody s_law_cuts) (defScope s_law_cuts) .none kV_law_cuts dc_law_cuts pm_law_cuts an_law_cuts cd_law_cuts ct_law_cuts), sl_law_cuts⟩)
    (c_law_cuts : PySem.W.codeIn K cd_law_cuts "_law_cuts" = true)
    (k_law_cuts : PySem.W.keepIn K (.ref f_law_cuts) = true)
    (a_law_a_cut : PySem.W.nsIn K mainGlobals "_law_a_cut" = some (some (.ref f_law_a_cut)))
    (l_law_a_cut : K.lookup f_law_a_cut = some ⟨oc_law_a_cut, od_law_a_cut, .func (PySem.W.fnOf "_law_a_cut" "_law_a_cut" (defArgs s_law_a_cut) (defBody s_law_a_cut) (defScope s_law_a_cut) .none kV_law_a_cut dc_law_a_cut pm_law_a_cut an_law_a_cut cd_law_a_cut ct_law_a_cut), sl_law_a_cut⟩)
    (c_law_a_cut : PySem.W.codeIn K cd_law_a_cut "_law_a_cut" = true)
    (k_law_a_cut : PySem.W.keepIn K (.ref f_law_a_cut) = true)
    (a_law_near : PySem.W.nsIn K mainGlobals "_law_near" = some (some (.ref f_law_near)))
    (l_law_near : K.lookup f_law_near = some ⟨oc_law_near, od_law_near, .func (PySem.W.fnOf "_law_near" "_law_near" (defArgs s_law_near) (defBody s_law_near) (defScope s_law_near) .none kV_law_near dc_law_near pm_law_near an_law_near cd_law_near ct_law_near), sl_law_near⟩)
    (c_law_near : PySem.W.codeIn K cd_law_near "_law_near" = true)
    (k_law_near : PySem.W.keepIn K (.ref f_law_near) = true)
    (a_law_across : PySem.W.nsIn K mainGlobals "_law_across" = some (some (.ref f_law_across)))
    (l_law_across : K.lookup f_law_across = some ⟨oc_law_across, od_law_across, .func (PySem.W.fnOf "_law_across" "_law_across" (defArgs s_law_across) (defBody s_law_across) (defScope s_law_across) .none kV_law_across dc_law_across pm_law_across an_law_across cd_law_across ct_law_across), sl_law_across⟩)
    (c_law_across : PySem.W.codeIn K cd_law_across "_law_across" = true)
    (k_law_across : PySem.W.keepIn K (.ref f_law_across) = true)
    (a_law_none_so : PySem.W.nsIn K mainGlobals "_law_none_so" = some (some (.ref f_law_none_so)))
    (l_law_none_so : K.lookup f_law_none_so = some ⟨oc_law_none_so, od_law_none_so, .func (PySem.W.fnOf "_law_none_so" "_law_none_so" (defArgs s_law_none_so) (defBody s_law_none_so) (defScope s_law_none_so) .none kV_law_none_so dc_law_none_so pm_law_none_so an_law_none_so (.ref cc_law_none_so) ct_law_none_so), sl_law_none_so⟩)
    (c_law_none_so : PySem.W.codeIn K (.ref cc_law_none_so) "_law_none_so" = true)
    (k_law_none_so : PySem.W.keepIn K (.ref f_law_none_so) = true)
    (a_law_bent_cuts : PySem.W.nsIn K mainGlobals "_law_bent_cuts" = some (some (.ref f_law_bent_cuts)))
    (l_law_bent_cuts : K.lookup f_law_bent_cuts = some ⟨oc_law_bent_cuts, od_law_bent_cuts, .func (PySem.W.fnOf "_law_bent_cuts" "_law_bent_cuts" (defArgs s_law_bent_cuts) (defBody s_law_bent_cuts) (defScope s_law_bent_cuts) .none kV_law_bent_cuts dc_law_bent_cuts pm_law_bent_cuts an_law_bent_cuts cd_law_bent_cuts ct_law_bent_cuts), sl_law_bent_cuts⟩)
    (c_law_bent_cuts : PySem.W.codeIn K cd_law_bent_cuts "_law_bent_cuts" = true)
    (k_law_bent_cuts : PySem.W.keepIn K (.ref f_law_bent_cuts) = true)
    (a_law : PySem.W.nsIn K mainGlobals "law" = some (some (.ref f_law)))
    (l_law : K.lookup f_law = some ⟨oc_law, od_law, .func (PySem.W.fnOf "law" "law" (defArgs s_law) (defBody s_law) (defScope s_law) .none kV_law dc_law pm_law an_law (.ref cc_law) ct_law), sl_law⟩)
    (c_law : PySem.W.codeIn K (.ref cc_law) "law" = true)
    (k_law : PySem.W.keepIn K (.ref f_law) = true)
    (a_bud_init : PySem.W.findIn K (.ref C_BudError) "__init__" = some (some (.ref f_bud_init)))
    (l_bud_init : K.lookup f_bud_init = some ⟨oc_bud_init, od_bud_init, .func (PySem.W.fnOf "__init__" "BudError.__init__" (defArgs s_bud_init) (defBody s_bud_init) (defScope s_bud_init) .none kV_bud_init dc_bud_init pm_bud_init an_bud_init cd_bud_init ct_bud_init), sl_bud_init⟩)
    (c_bud_init : PySem.W.codeIn K cd_bud_init "BudError.__init__" = true)
    (k_bud_init : PySem.W.keepIn K (.ref f_bud_init) = true)
    (a_bad_init : PySem.W.findIn K (.ref C_BadCut) "__init__" = some (some (.ref f_bad_init)))
    (l_bad_init : K.lookup f_bad_init = some ⟨oc_bad_init, od_bad_init, .func (PySem.W.fnOf "__init__" "BadCut.__init__" (defArgs s_bad_init) (defBody s_bad_init) (defScope s_bad_init) .none kV_bad_init dc_bad_init pm_bad_init an_bad_init cd_bad_init ct_bad_init), sl_bad_init⟩)
    (c_bad_init : PySem.W.codeIn K cd_bad_init "BadCut.__init__" = true)
    (k_bad_init : PySem.W.keepIn K (.ref f_bad_init) = true)
    (z_len : PySem.W.nsIn K mainGlobals "len" = some none)
    (z_range : PySem.W.nsIn K mainGlobals "range" = some none)
    (z_zip : PySem.W.nsIn K mainGlobals "zip" = some none)
    (z_enumerate : PySem.W.nsIn K mainGlobals "enumerate" = some none)
    (z_all : PySem.W.nsIn K mainGlobals "all" = some none)
    (z_any : PySem.W.nsIn K mainGlobals "any" = some none)
    (z_max : PySem.W.nsIn K mainGlobals "max" = some none)
    (z_min : PySem.W.nsIn K mainGlobals "min" = some none)
    (z_sorted : PySem.W.nsIn K mainGlobals "sorted" = some none)
    (z_isinstance : PySem.W.nsIn K mainGlobals "isinstance" = some none)
    (z_int : PySem.W.nsIn K mainGlobals "int" = some none)
    (z_bool : PySem.W.nsIn K mainGlobals "bool" = some none)
    (z_tuple : PySem.W.nsIn K mainGlobals "tuple" = some none)
    (z_list : PySem.W.nsIn K mainGlobals "list" = some none)
    (z_dict : PySem.W.nsIn K mainGlobals "dict" = some none)
    (z_str : PySem.W.nsIn K mainGlobals "str" = some none)
    (z_ValueError : PySem.W.nsIn K mainGlobals "ValueError" = some none)
    (i_LEAST_CORNERS : PySem.W.nsIn K mainGlobals "LEAST_CORNERS" = some (some (.int 4 t_LEAST_CORNERS)))
    (i_MOST_CORNERS : PySem.W.nsIn K mainGlobals "MOST_CORNERS" = some (some (.int 7 t_MOST_CORNERS)))
    (sg : PySem.W.specialIn K (.ref C_BudError) "__getattribute__" = some (some (.builtin "type.__getattribute__")))
    (tyB : PySem.W.typeIn K (.ref C_BudError) = some (.type "type"))
    (rdB : PySem.W.readsIn K C_BudError (.type "type") = true)
    (fcB : PySem.W.findCls K (.ref C_BudError) (.type "type") "__init__" = some (.val (.ref f_bud_init)))
    (vv : PySem.W.findCls K (.type "ValueError") (.type "type") "__init__" = some (.val (.builtin "ValueError.__init__")))
    (eB : PySem.W.subIn K (.ref C_BudError) (.type "BaseException") = some true)
    (hB : PySem.W.hasDictIn K C_BudError = true)
    (xL : K.lookup C_BadCut = some (excClassObj nm q C_BadCut N bs [.ref C_BudError, .type "ValueError", .type "Exception", .type "BaseException", .type "object"] true sn sub ab col dd m0 m1 m2 m3 m5 "ValueError.__new__"))
    (saB : PySem.W.findIn K (.ref C_BadCut) "__setattr__" = some (some (.builtin "object.__setattr__")))
    (gaB : PySem.W.findIn K (.ref C_BadCut) "__getattribute__" = some (some (.builtin "BaseException.__getattribute__")))
    (ggB : PySem.W.findIn K (.ref C_BadCut) "__getattr__" = some none)
    (nwB : PySem.W.findIn K (.ref C_BadCut) "word" = some none)
    (tIB : PySem.W.typeIn K (.ref f_bad_init) = some (.type "function"))
    (kCB : PySem.W.keepIn K (.ref C_BadCut) = true)
    (eCB : PySem.W.subIn K (.ref C_BadCut) (.type "BaseException") = some true)
    (tCB : PySem.W.typeIn K (.ref C_BadCut) = some (.type "type"))
    (hCB : PySem.W.hasDictIn K C_BadCut = true)
    (sCB : PySem.W.subIn K (.ref C_BadCut) (.ref C_BudError) = some true)
    (cl_law : K.lookup cc_law = some ⟨oc2_law, od2_law, .fields vs_law, sl2_law⟩)
    (v11_law : vs_law[11]? = some (.ref Pt_law))
    (hd_law : PySem.W.codeHdIn K cc_law Pt_law = true)
    (nP_law : K.lookup Pt_law = none)
    (cl_law_none_so : K.lookup cc_law_none_so = some ⟨oc2_law_none_so, od2_law_none_so, .fields vs_law_none_so, sl2_law_none_so⟩)
    (v11_law_none_so : vs_law_none_so[11]? = some (.ref Pt_law_none_so))
    (hd_law_none_so : PySem.W.codeHdIn K cc_law_none_so Pt_law_none_so = true)
    (nP_law_none_so : K.lookup Pt_law_none_so = none)
    (nPP : Pt_law ≠ Pt_law_none_so)
    : LamX.LawAtS l w K CX0 10 63 "_law_script" mg fa h := by
  have e := hfa.symm.trans (PySem.W.mg_of X G a_law)
  cases e
  have T : Tx mg := { len := PySem.W.mg_none_of X G z_len, range := PySem.W.mg_none_of X G z_range, zip := PySem.W.mg_none_of X G z_zip, enumerate := PySem.W.mg_none_of X G z_enumerate, all := PySem.W.mg_none_of X G z_all, any := PySem.W.mg_none_of X G z_any, max := PySem.W.mg_none_of X G z_max, min := PySem.W.mg_none_of X G z_min, sorted := PySem.W.mg_none_of X G z_sorted, isinstance := PySem.W.mg_none_of X G z_isinstance, int := PySem.W.mg_none_of X G z_int, bool := PySem.W.mg_none_of X G z_bool, tuple := PySem.W.mg_none_of X G z_tuple, list := PySem.W.mg_none_of X G z_list, dict := PySem.W.mg_none_of X G z_dict, str := PySem.W.mg_none_of X G z_str, ValueError := PySem.W.mg_none_of X G z_ValueError, LEAST_CORNERS := ⟨_, PySem.W.mg_of X G i_LEAST_CORNERS⟩, MOST_CORNERS := ⟨_, PySem.W.mg_of X G i_MOST_CORNERS⟩ }
  have F_is_number := fun_mk (st := s_is_number) l_is_number c_is_number k_is_number
  have b_is_number := F_is_number.binds (ps := ["thing"]) fun _ _ _ _ _ _ us hl => match us, hl with | [_], _ => rfl
  have F_is_polygon := fun_mk (st := s_is_polygon) l_is_polygon c_is_polygon k_is_polygon
  have b_is_polygon := F_is_polygon.binds (ps := ["corners"]) fun _ _ _ _ _ _ us hl => match us, hl with | [_], _ => rfl
  have F_rising_corners := fun_mk (st := s_rising_corners) l_rising_corners c_rising_corners k_rising_corners
  have b_rising_corners := F_rising_corners.binds (ps := ["corners", "many"]) fun _ _ _ _ _ _ us hl => match us, hl with | [_, _], _ => rfl
  have F_is_side := fun_mk (st := s_is_side) l_is_side c_is_side k_is_side
  have b_is_side := F_is_side.binds (ps := ["corners", "pair"]) fun _ _ _ _ _ _ us hl => match us, hl with | [_, _], _ => rfl
  have F_all_chords := fun_mk (st := s_all_chords) l_all_chords c_all_chords k_all_chords
  have b_all_chords := F_all_chords.binds (ps := ["corners"]) fun _ _ _ _ _ _ us hl => match us, hl with | [_], _ => rfl
  have F_crosses := fun_mk (st := s_crosses) l_crosses c_crosses k_crosses
  have b_crosses := F_crosses.binds (ps := ["one", "other"]) fun _ _ _ _ _ _ us hl => match us, hl with | [_, _], _ => rfl
  have F_fits_behind := fun_mk (st := s_fits_behind) l_fits_behind c_fits_behind k_fits_behind
  have b_fits_behind := F_fits_behind.binds (ps := ["chord", "row"]) fun _ _ _ _ _ _ us hl => match us, hl with | [_, _], _ => rfl
  have F_cuts := fun_mk (st := s_cuts) l_cuts c_cuts k_cuts
  have b_cuts := F_cuts.binds (ps := ["corners"]) fun _ _ _ _ _ _ us hl => match us, hl with | [_], _ => rfl
  have F_is_chord := fun_mk (st := s_is_chord) l_is_chord c_is_chord k_is_chord
  have b_is_chord := F_is_chord.binds (ps := ["corners", "pair"]) fun _ _ _ _ _ _ us hl => match us, hl with | [_, _], _ => rfl
  have F_is_cut := fun_mk (st := s_is_cut) l_is_cut c_is_cut k_is_cut
  have b_is_cut := F_is_cut.binds (ps := ["corners", "chords"]) fun _ _ _ _ _ _ us hl => match us, hl with | [_, _], _ => rfl
  have F_check_cut := fun_mk (st := s_check_cut) l_check_cut c_check_cut k_check_cut
  have b_check_cut := F_check_cut.binds (ps := ["corners", "chords"]) fun _ _ _ _ _ _ us hl => match us, hl with | [_, _], _ => rfl
  have F_cut_table := fun_mk (st := s_cut_table) l_cut_table c_cut_table k_cut_table
  have b_cut_table := F_cut_table.binds (ps := ["corners", "chords"]) fun _ _ _ _ _ _ us hl => match us, hl with | [_, _], _ => rfl
  have F_flipped := fun_mk (st := s_flipped) l_flipped c_flipped k_flipped
  have b_flipped := F_flipped.binds (ps := ["corners", "chords", "chord"]) fun _ _ _ _ _ _ us hl => match us, hl with | [_, _, _], _ => rfl
  have F_flip := fun_mk (st := s_flip) l_flip c_flip k_flip
  have b_flip := F_flip.binds (ps := ["corners", "chords", "chord"]) fun _ _ _ _ _ _ us hl => match us, hl with | [_, _, _], _ => rfl
  have F_lengths := fun_mk (st := s_lengths) l_lengths c_lengths k_lengths
  have b_lengths := F_lengths.binds (ps := ["corners", "chords", "parts"]) fun _ _ _ _ _ _ us hl => match us, hl with | [_, _, _], _ => rfl
  have F_law_feed := fun_mk (st := s_law_feed) l_law_feed c_law_feed k_law_feed
  have b_law_feed := F_law_feed.binds (ps := ["_law_script"]) fun _ _ _ _ _ _ us hl => match us, hl with | [_], _ => rfl
  have F_law_draw := fun_mk (st := s_law_draw) l_law_draw c_law_draw k_law_draw
  have b_law_draw := F_law_draw.binds (ps := ["_law_feed_here", "_law_many"]) fun _ _ _ _ _ _ us hl => match us, hl with | [_, _], _ => rfl
  have F_law_pick := fun_mk (st := s_law_pick) l_law_pick c_law_pick k_law_pick
  have b_law_pick := F_law_pick.binds (ps := ["_law_feed_here", "_law_row"]) fun _ _ _ _ _ _ us hl => match us, hl with | [_, _], _ => rfl
  have F_law_shuffled := fun_mk (st := s_law_shuffled) l_law_shuffled c_law_shuffled k_law_shuffled
  have b_law_shuffled := F_law_shuffled.binds (ps := ["_law_feed_here", "_law_row"]) fun _ _ _ _ _ _ us hl => match us, hl with | [_, _], _ => rfl
  have F_law_same := fun_mk (st := s_law_same) l_law_same c_law_same k_law_same
  have b_law_same := F_law_same.binds (ps := ["_law_found", "_law_due"]) fun _ _ _ _ _ _ us hl => match us, hl with | [_, _], _ => rfl
  have F_law_word := fun_mk (st := s_law_word) l_law_word c_law_word k_law_word
  have b_law_word := F_law_word.binds (ps := ["_law_asked"]) fun _ _ _ _ _ _ us hl => match us, hl with | [_], _ => rfl
  have F_law_crosses := fun_mk (st := s_law_crosses) l_law_crosses c_law_crosses k_law_crosses
  have b_law_crosses := F_law_crosses.binds (ps := ["_law_one", "_law_other"]) fun _ _ _ _ _ _ us hl => match us, hl with | [_, _], _ => rfl
  have F_law_chords := fun_mk (st := s_law_chords) l_law_chords c_law_chords k_law_chords
  have b_law_chords := F_law_chords.binds (ps := ["_law_my_corners"]) fun _ _ _ _ _ _ us hl => match us, hl with | [_], _ => rfl
  have F_law_cuts := fun_mk (st := s_law_cuts) l_law_cuts c_law_cuts k_law_cuts
  have b_law_cuts := F_law_cuts.binds (ps := ["_law_my_corners"]) fun _ _ _ _ _ _ us hl => match us, hl with | [_], _ => rfl
  have F_law_a_cut := fun_mk (st := s_law_a_cut) l_law_a_cut c_law_a_cut k_law_a_cut
  have b_law_a_cut := F_law_a_cut.binds (ps := ["_law_feed_here", "_law_my_corners"]) fun _ _ _ _ _ _ us hl => match us, hl with | [_, _], _ => rfl
  have F_law_near := fun_mk (st := s_law_near) l_law_near c_law_near k_law_near
  have b_law_near := F_law_near.binds (ps := ["_law_my_corners", "_law_my_chords", "_law_one", "_law_other"]) fun _ _ _ _ _ _ us hl => match us, hl with | [_, _, _, _], _ => rfl
  have F_law_across := fun_mk (st := s_law_across) l_law_across c_law_across k_law_across
  have b_law_across := F_law_across.binds (ps := ["_law_my_corners", "_law_my_chords", "_law_chord"]) fun _ _ _ _ _ _ us hl => match us, hl with | [_, _, _], _ => rfl
  have F_law_none_so := fun_mk (st := s_law_none_so) l_law_none_so c_law_none_so k_law_none_so
  have b_law_none_so := F_law_none_so.binds (ps := ["_law_my_corners", "_law_bad", "_law_chord"]) fun _ _ _ _ _ _ us hl => match us, hl with | [_, _, _], _ => rfl
  have F_law_bent_cuts := fun_mk (st := s_law_bent_cuts) l_law_bent_cuts c_law_bent_cuts k_law_bent_cuts
  have b_law_bent_cuts := F_law_bent_cuts.binds (ps := ["_law_feed_here", "_law_my_corners", "_law_my_chords"]) fun _ _ _ _ _ _ us hl => match us, hl with | [_, _, _], _ => rfl
  have F_law := fun_mk (st := s_law) l_law c_law k_law
  have F_bud_init := fun_mk (st := s_bud_init) l_bud_init c_bud_init k_bud_init
  have b_bud_init := F_bud_init.binds (ps := ["self", "word"]) fun _ _ _ _ _ _ us hl => match us, hl with | [_, _], _ => rfl
  have F_bad_init := fun_mk (st := s_bad_init) l_bad_init c_bad_init k_bad_init
  have b_bad_init := F_bad_init.binds (ps := ["self"]) fun _ _ _ _ _ _ us hl => match us, hl with | [_], _ => rfl
  have g_is_number := PySem.W.mg_of X G a_is_number
  have g_is_polygon := PySem.W.mg_of X G a_is_polygon
  have g_rising_corners := PySem.W.mg_of X G a_rising_corners
  have g_is_side := PySem.W.mg_of X G a_is_side
  have g_all_chords := PySem.W.mg_of X G a_all_chords
  have g_crosses := PySem.W.mg_of X G a_crosses
  have g_fits_behind := PySem.W.mg_of X G a_fits_behind
  have g_cuts := PySem.W.mg_of X G a_cuts
  have g_is_chord := PySem.W.mg_of X G a_is_chord
  have g_is_cut := PySem.W.mg_of X G a_is_cut
  have g_check_cut := PySem.W.mg_of X G a_check_cut
  have g_cut_table := PySem.W.mg_of X G a_cut_table
  have g_flipped := PySem.W.mg_of X G a_flipped
  have g_flip := PySem.W.mg_of X G a_flip
  have g_lengths := PySem.W.mg_of X G a_lengths
  have g_law_feed := PySem.W.mg_of X G a_law_feed
  have g_law_draw := PySem.W.mg_of X G a_law_draw
  have g_law_pick := PySem.W.mg_of X G a_law_pick
  have g_law_shuffled := PySem.W.mg_of X G a_law_shuffled
  have g_law_same := PySem.W.mg_of X G a_law_same
  have g_law_word := PySem.W.mg_of X G a_law_word
  have g_law_crosses := PySem.W.mg_of X G a_law_crosses
  have g_law_chords := PySem.W.mg_of X G a_law_chords
  have g_law_cuts := PySem.W.mg_of X G a_law_cuts
  have g_law_a_cut := PySem.W.mg_of X G a_law_a_cut
  have g_law_near := PySem.W.mg_of X G a_law_near
  have g_law_across := PySem.W.mg_of X G a_law_across
  have g_law_none_so := PySem.W.mg_of X G a_law_none_so
  have g_law_bent_cuts := PySem.W.mg_of X G a_law_bent_cuts
  have g_law := PySem.W.mg_of X G a_law
  have oex : OexC K C_BadCut := ⟨⟨nm, q, N, bs, _, sn, sub, ab, col, dd, m0, m1, m2, m3, m5, xL, rfl⟩, saB, eCB, tCB, kCB⟩
  have TS : ErrC K mg "BadCut" C_BadCut f_bad_init C_BudError := ⟨PySem.W.mg_of X G a_BadCut, oex, a_bad_init, tIB, nwB, ⟨gaB, ggB, eCB, hCB⟩, PySem.W.exm_ref eB hB tyB sCB⟩
  have TB : ClsFn K mg "BudError" "__init__" C_BudError f_bud_init := ⟨PySem.W.mg_of X G a_BudError, sg, tyB, rdB, fcB, k_bud_init⟩
  have kbI : KBinds K (PySem.W.fnOf "is_cut" "is_cut" (defArgs s_is_cut) (defBody s_is_cut) (defScope s_is_cut) .none kV_is_cut dc_is_cut pm_is_cut an_is_cut cd_is_cut ct_is_cut) ["corners", "chords"] ["chords", "corners"] backL backL := by
    refine ⟨fun s us ws _ hl => ?_, fun {vs us zs ws} r1 r2 => ?_⟩
    · match us, ws, hl with
      | [], [_, _], _ => exact .of_eq rfl
    · match vs, us, zs, ws, r1, r2 with
      | _, _, _, _, .nil, .cons a (.cons b .nil) => exact .cons b (.cons a .nil)
      | _, _, _, _, .nil, .nil => exact .nil
      | _, _, _, _, .nil, .cons a .nil => exact .cons a .nil
      | _, _, _, _, .nil, .cons _ (.cons _ (.cons _ _)) => exact .nil
      | _, _, _, _, .cons _ _, _ => exact .nil
  have kbC : KBinds K (PySem.W.fnOf "cuts" "cuts" (defArgs s_cuts) (defBody s_cuts) (defScope s_cuts) .none kV_cuts dc_cuts pm_cuts an_cuts cd_cuts ct_cuts) ["corners"] ["corners"] backL backL := by
    refine ⟨fun s us ws _ hl => ?_, fun {vs us zs ws} r1 r2 => ?_⟩
    · match us, ws, hl with
      | [], [_], _ => exact .of_eq rfl
      | [], [_, _], hl => exact absurd (show (2 : Nat) = 1 from hl) (by decide)
    · match vs, us, zs, ws, r1, r2 with
      | _, _, _, _, .nil, .cons a (.cons b .nil) => exact .cons b (.cons a .nil)
      | _, _, _, _, .nil, .nil => exact .nil
      | _, _, _, _, .nil, .cons a .nil => exact .cons a .nil
      | _, _, _, _, .nil, .cons _ (.cons _ (.cons _ _)) => exact .nil
      | _, _, _, _, .cons _ _, _ => exact .nil
  have hcs : ∀ p ∈ [(cc_law, Pt_law), (cc_law_none_so, Pt_law_none_so)], p = (cc_law, Pt_law) ∨ p = (cc_law_none_so, Pt_law_none_so) := fun p hp => by
    simpa using hp
  refine ⟨PySem.W.fnOf "law" "law" (defArgs s_law) (defBody s_law) (defScope s_law) .none kV_law dc_law pm_law an_law (.ref cc_law) ct_law, [(cc_law, Pt_law), (cc_law_none_so, Pt_law_none_so)], spLaw K Pt_law Pt_law_none_so, fun p hp => ?_, fun p hp => ?_, fun p hp => ?_, fun s v => .of_eq rfl, fun H a ns hl _ hT hS => ⟨a, ns, rfl, hS, hl, hT _ (List.mem_cons_self ..), hT _ (List.mem_cons_of_mem _ (List.mem_singleton.mpr rfl)), fun _ => rfl⟩, fun base _ _ TBs => ?_⟩
  · rcases hcs p hp with e | e
    · rw [e]
      exact own cc_law Pt_law _ _ _ _ _ _ l_law rfl rfl cl_law v11_law
    · rw [e]
      exact own_law_none_so _ g_law_none_so cc_law_none_so Pt_law_none_so _ _ _ _ _ _ l_law_none_so rfl rfl cl_law_none_so v11_law_none_so
  · rcases hcs p hp with e | e
    · rw [e]
      exact nP_law
    · rw [e]
      exact nP_law_none_so
  · rcases hcs p hp with e | e
    · rw [e]
      exact PySem.W.codeHd_of_K X hd_law
    · rw [e]
      exact PySem.W.codeHd_of_K X hd_law_none_so
  have cDraw : Cal l.prog w K mg base CX0 1 "_law_draw" ["_law_feed_here", "_law_many"] spDraw := ⟨_, _, ok_draw F_law_draw T, g_law_draw, k_law_draw, b_law_draw⟩
  have cFeed : Cal l.prog w K mg base CX0 1 "_law_feed" ["_law_script"] (spFeed K) := ⟨_, _, ok_feed F_law_feed T, g_law_feed, k_law_feed, b_law_feed⟩
  have cPick : Cal l.prog w K mg base CX0 2 "_law_pick" ["_law_feed_here", "_law_row"] spPick := ⟨_, _, ok_pick (j := 0) F_law_pick T cDraw, g_law_pick, k_law_pick, b_law_pick⟩
  have cShuf : Cal l.prog w K mg base CX0 2 "_law_shuffled" ["_law_feed_here", "_law_row"] spShuf := ⟨_, _, ok_shuf F_law_shuffled T cDraw, g_law_shuffled, k_law_shuffled, b_law_shuffled⟩
  have cSame : Cal l.prog w K mg base CX0 5 "_law_same" ["_law_found", "_law_due"] (spSame 4) := ⟨_, _, ok_same F_law_same T g_law_same b_law_same 4, g_law_same, k_law_same, b_law_same⟩
  have cNum : Cal l.prog w K mg base CX0 1 "is_number" ["thing"] spIsNum := ⟨_, _, ok_isnum F_is_number T, g_is_number, k_is_number, b_is_number⟩
  have cPoly : Cal l.prog w K mg base CX0 2 "is_polygon" ["corners"] spPoly := ⟨_, _, ok_poly F_is_polygon T cNum, g_is_polygon, k_is_polygon, b_is_polygon⟩
  have cSide : Cal l.prog w K mg base CX0 1 "is_side" ["corners", "pair"] spSide := ⟨_, _, ok_side F_is_side T, g_is_side, k_is_side, b_is_side⟩
  have cCross : Cal l.prog w K mg base CX0 1 "crosses" ["one", "other"] spCross := ⟨_, _, ok_cross F_crosses T, g_crosses, k_crosses, b_crosses⟩
  have cFits : Cal l.prog w K mg base CX0 2 "fits_behind" ["chord", "row"] spFits := ⟨_, _, ok_fits F_fits_behind T cCross, g_fits_behind, k_fits_behind, b_fits_behind⟩
  have cIsCh : Cal l.prog w K mg base CX0 2 "is_chord" ["corners", "pair"] spIsCh := ⟨_, _, ok_isch F_is_chord T cNum cSide, g_is_chord, k_is_chord, b_is_chord⟩
  have FI : FnOk l.prog w K mg base CX0 3 f_is_cut _ ["corners", "chords"] spIsCut := ok_iscut F_is_cut T cPoly cIsCh cFits
  have cIsCut : Cal l.prog w K mg base CX0 3 "is_cut" ["corners", "chords"] spIsCut := ⟨_, _, FI, g_is_cut, k_is_cut, b_is_cut⟩
  have cRise : Cal l.prog w K mg base CX0 1 "rising_corners" ["corners", "many"] spRise := ⟨_, _, ok_rise F_rising_corners T, g_rising_corners, k_rising_corners, b_rising_corners⟩
  have cChords : Cal l.prog w K mg base CX0 2 "all_chords" ["corners"] spChords := ⟨_, _, ok_chords F_all_chords T cRise cSide, g_all_chords, k_all_chords, b_all_chords⟩
  have FBI : FnOk l.prog w K mg base CX0 1 f_bud_init _ ["self", "word"] (spBudInit K) := ok_budinit F_bud_init T vv
  have FS : FnOk l.prog w K mg base CX0 2 f_bad_init _ ["self"] (spErrInit K "bad cut") := ok_badinit F_bad_init T TB FBI b_bud_init
  have FC : FnOk l.prog w K mg base (L2.CX l.prog w) 4 f_cuts _ ["corners"] (spCuts C_BadCut) := ok_cuts F_cuts T cPoly cChords cFits TS FS b_bad_init
  have cCuts : CalX l.prog w K mg base 4 "cuts" ["corners"] (spCuts C_BadCut) := ⟨_, _, FC, g_cuts, k_cuts, b_cuts⟩
  have cCheck : CalX l.prog w K mg base 4 "check_cut" ["corners", "chords"] (spCheck C_BadCut) := ⟨_, _, ok_checkcut F_check_cut T cIsCut TS FS b_bad_init, g_check_cut, k_check_cut, b_check_cut⟩
  have cTable : CalX l.prog w K mg base 5 "cut_table" ["corners", "chords"] (spNo2 C_BadCut) := ⟨_, _, ok_cuttable F_cut_table cCheck, g_cut_table, k_cut_table, b_cut_table⟩
  have cFlipped : CalX l.prog w K mg base 5 "flipped" ["corners", "chords", "chord"] (spNo3 C_BadCut) := ⟨_, _, ok_flipped F_flipped T cCheck cIsCh TS FS b_bad_init, g_flipped, k_flipped, b_flipped⟩
  have cFlip : CalX l.prog w K mg base 6 "flip" ["corners", "chords", "chord"] (spNo3 C_BadCut) := ⟨_, _, ok_flip F_flip cFlipped, g_flip, k_flip, b_flip⟩
  have cLen : CalX l.prog w K mg base 5 "lengths" ["corners", "chords", "parts"] (spNoL C_BadCut) := ⟨_, _, ok_lengths F_lengths cCheck, g_lengths, k_lengths, b_lengths⟩
  have cLCross : Cal l.prog w K mg base CX0 1 "_law_crosses" ["_law_one", "_law_other"] spCross := ⟨_, _, ok_lcross F_law_crosses T, g_law_crosses, k_law_crosses, b_law_crosses⟩
  have cLChords : Cal l.prog w K mg base CX0 1 "_law_chords" ["_law_my_corners"] spChords := ⟨_, _, ok_lchords F_law_chords T, g_law_chords, k_law_chords, b_law_chords⟩
  have cLCuts : Cal l.prog w K mg base CX0 2 "_law_cuts" ["_law_my_corners"] spLCuts := ⟨_, _, ok_lcuts F_law_cuts T cLChords cLCross, g_law_cuts, k_law_cuts, b_law_cuts⟩
  have cACut : Cal l.prog w K mg base CX0 3 "_law_a_cut" ["_law_feed_here", "_law_my_corners"] spACut := ⟨_, _, ok_acut F_law_a_cut T cShuf cLChords cLCross, g_law_a_cut, k_law_a_cut, b_law_a_cut⟩
  have cNear : Cal l.prog w K mg base CX0 1 "_law_near" ["_law_my_corners", "_law_my_chords", "_law_one", "_law_other"] spNear := ⟨_, _, ok_near F_law_near T, g_law_near, k_law_near, b_law_near⟩
  have cAcross : Cal l.prog w K mg base CX0 2 "_law_across" ["_law_my_corners", "_law_my_chords", "_law_chord"] spAcross := ⟨_, _, ok_across F_law_across T cNear, g_law_across, k_law_across, b_law_across⟩
  have cBent : Cal l.prog w K mg base CX0 3 "_law_bent_cuts" ["_law_feed_here", "_law_my_corners", "_law_my_chords"] spBent := ⟨_, _, ok_bent F_law_bent_cuts T cDraw cAcross, g_law_bent_cuts, k_law_bent_cuts, b_law_bent_cuts⟩
  have un1 : ∀ p ∈ [(Pt_law, qL "law"), (Pt_law_none_so, qL "_law_none_so")], p.1 = Pt_law → p.2 = qL "law" := fun p hp e => by
    simp only [List.mem_cons, List.not_mem_nil, or_false] at hp
    rcases hp with rfl | rfl
    · rfl
    · exact absurd e.symm nPP
  have un2 : ∀ p ∈ [(Pt_law, qL "law"), (Pt_law_none_so, qL "_law_none_so")], p.1 = Pt_law_none_so → p.2 = qL "_law_none_so" := fun p hp e => by
    simp only [List.mem_cons, List.not_mem_nil, or_false] at hp
    rcases hp with rfl | rfl
    · exact absurd e nPP
    · rfl
  have gB := PySem.W.mg_of X G a_BudError
  have cNone : Cal l.prog w K mg base CX0 9 "_law_none_so" ["_law_my_corners", "_law_bad", "_law_chord"] (spNone [(Pt_law, qL "law"), (Pt_law_none_so, qL "_law_none_so")]) := ⟨_, _, ok_none l_law_none_so c_law_none_so T TS cTable cFlip cFlipped cLen ⟨F_law_word, g_law_word, b_law_word, gB, TBs _ (List.mem_cons_of_mem _ (List.mem_singleton.mpr rfl)), List.mem_cons_of_mem _ (List.mem_singleton.mpr rfl), un2⟩, g_law_none_so, k_law_none_so, b_law_none_so⟩
  exact ok_law l_law c_law T TS cFeed cDraw cPick cSame cLCuts cACut cBent cAcross cNone cIsCut FI g_is_cut k_is_cut kbI cCuts FC g_cuts k_cuts kbC cFlip cFlipped ⟨F_law_word, g_law_word, b_law_word, gB, TBs _ (List.mem_cons_self ..), List.mem_cons_self .., un1⟩
end Bw
open PySem PySem.W PyProof.Rows
set_option maxRecDepth 100000 in
set_option maxHeartbeats 0 in
theorem PySem.Challenge.cw_budwright_k47_cuts_of_polygons_holds : PySem.Challenge.rw_budwright_k47_cuts_of_polygons.Holds := by
  w_on; o_law; k_head; (case hw => w_witness2)
  k_fill
  refine LamX.walk_ofOwns (l := PySem.Challenge.rw_budwright_k47_cuts_of_polygons) (n := 63) (k := 10) (x := "_law_script") (CX := fun _ => L2.CX0) rfl (by decide) rfl ⟨rfl, by decide, by decide⟩ (fun w h Y => by first | exact PySem.W.km_in_of Y | exact PySem.W.kIn_of Y) ?F (fun _ _ _ _ _ h => h)
  case F =>
    intro w mg fa h YP KX G hmg own
    refine' Bw.all_mk KX G hmg (own "law" _ (by first | rfl | decide +kernel) hmg) (fun f hf => own "_law_none_so" f (by first | rfl | decide +kernel) hf) ?a_BudError ?a_BadCut ?a_is_number ?l_is_number ?c_is_number ?k_is_number ?a_is_polygon ?l_is_polygon ?c_is_polygon ?k_is_polygon ?a_rising_corners ?l_rising_corners ?c_rising_corners ?k_rising_corners ?a_is_side ?l_is_side ?c_is_side ?k_is_side ?a_all_chords ?l_all_chords ?c_all_chords ?k_all_chords ?a_crosses ?l_crosses ?c_crosses ?k_crosses ?a_fits_behind ?l_fits_behind ?c_fits_behind ?k_fits_behind ?a_cuts ?l_cuts ?c_cuts ?k_cuts ?a_is_chord ?l_is_chord ?c_is_chord ?k_is_chord ?a_is_cut ?l_is_cut ?c_is_cut ?k_is_cut ?a_check_cut ?l_check_cut ?c_check_cut ?k_check_cut ?a_cut_table ?l_cut_table ?c_cut_table ?k_cut_table ?a_flipped ?l_flipped ?c_flipped ?k_flipped ?a_flip ?l_flip ?c_flip ?k_flip ?a_lengths ?l_lengths ?c_lengths ?k_lengths ?a_law_feed ?l_law_feed ?c_law_feed ?k_law_feed ?a_law_draw ?l_law_draw ?c_law_draw ?k_law_draw ?a_law_pick ?l_law_pick ?c_law_pick ?k_law_pick ?a_law_shuffled ?l_law_shuffled ?c_law_shuffled ?k_law_shuffled ?a_law_same ?l_law_same ?c_law_same ?k_law_same ?a_law_word ?l_law_word ?c_law_word ?k_law_word ?a_law_crosses ?l_law_crosses ?c_law_crosses ?k_law_crosses ?a_law_chords ?l_law_chords ?c_law_chords ?k_law_chords ?a_law_cuts ?l_law_cuts ?c_law_cuts ?k_law_cuts ?a_law_a_cut ?l_law_a_cut ?c_law_a_cut ?k_law_a_cut ?a_law_near ?l_law_near ?c_law_near ?k_law_near ?a_law_across ?l_law_across ?c_law_across ?k_law_across ?a_law_none_so ?l_law_none_so ?c_law_none_so ?k_law_none_so ?a_law_bent_cuts ?l_law_bent_cuts ?c_law_bent_cuts ?k_law_bent_cuts ?a_law ?l_law ?c_law ?k_law ?a_bud_init ?l_bud_init ?c_bud_init ?k_bud_init ?a_bad_init ?l_bad_init ?c_bad_init ?k_bad_init ?z_len ?z_range ?z_zip ?z_enumerate ?z_all ?z_any ?z_max ?z_min ?z_sorted ?z_isinstance ?z_int ?z_bool ?z_tuple ?z_list ?z_dict ?z_str ?z_ValueError ?i_LEAST_CORNERS ?i_MOST_CORNERS ?sg ?tyB ?rdB ?fcB ?vv ?eB ?hB ?xL ?saB ?gaB ?ggB ?nwB ?tIB ?kCB ?eCB ?tCB ?hCB ?sCB ?cl_law ?v11_law ?hd_law ?nP_law ?cl_law_none_so ?v11_law_none_so ?hd_law_none_so ?nP_law_none_so ?nPP
    (case a_BudError => k_is)
    (case a_BadCut => k_is)
    (case a_is_number => k_is)
    (case l_is_number => k_is)
    (case c_is_number => k_is)
    (case k_is_number => k_is)
    (case a_is_polygon => k_is)
    (case l_is_polygon => k_is)
    (case c_is_polygon => k_is)
    (case k_is_polygon => k_is)
    (case a_rising_corners => k_is)
    (case l_rising_corners => k_is)
    (case c_rising_corners => k_is)
    (case k_rising_corners => k_is)
    (case a_is_side => k_is)
    (case l_is_side => k_is)
    (case c_is_side => k_is)
    (case k_is_side => k_is)
    (case a_all_chords => k_is)
    (case l_all_chords => k_is)
    (case c_all_chords => k_is)
    (case k_all_chords => k_is)
    (case a_crosses => k_is)
    (case l_crosses => k_is)
    (case c_crosses => k_is)
    (case k_crosses => k_is)
    (case a_fits_behind => k_is)
    (case l_fits_behind => k_is)
    (case c_fits_behind => k_is)
    (case k_fits_behind => k_is)
    (case a_cuts => k_is)
    (case l_cuts => k_is)
    (case c_cuts => k_is)
    (case k_cuts => k_is)
    (case a_is_chord => k_is)
    (case l_is_chord => k_is)
    (case c_is_chord => k_is)
    (case k_is_chord => k_is)
    (case a_is_cut => k_is)
    (case l_is_cut => k_is)
    (case c_is_cut => k_is)
    (case k_is_cut => k_is)
    (case a_check_cut => k_is)
    (case l_check_cut => k_is)
    (case c_check_cut => k_is)
    (case k_check_cut => k_is)
    (case a_cut_table => k_is)
    (case l_cut_table => k_is)
    (case c_cut_table => k_is)
    (case k_cut_table => k_is)
    (case a_flipped => k_is)
    (case l_flipped => k_is)
    (case c_flipped => k_is)
    (case k_flipped => k_is)
    (case a_flip => k_is)
    (case l_flip => k_is)
    (case c_flip => k_is)
    (case k_flip => k_is)
    (case a_lengths => k_is)
    (case l_lengths => k_is)
    (case c_lengths => k_is)
    (case k_lengths => k_is)
    (case a_law_feed => k_is)
    (case l_law_feed => k_is)
    (case c_law_feed => k_is)
    (case k_law_feed => k_is)
    (case a_law_draw => k_is)
    (case l_law_draw => k_is)
    (case c_law_draw => k_is)
    (case k_law_draw => k_is)
    (case a_law_pick => k_is)
    (case l_law_pick => k_is)
    (case c_law_pick => k_is)
    (case k_law_pick => k_is)
    (case a_law_shuffled => k_is)
    (case l_law_shuffled => k_is)
    (case c_law_shuffled => k_is)
    (case k_law_shuffled => k_is)
    (case a_law_same => k_is)
    (case l_law_same => k_is)
    (case c_law_same => k_is)
    (case k_law_same => k_is)
    (case a_law_word => k_is)
    (case l_law_word => k_is)
    (case c_law_word => k_is)
    (case k_law_word => k_is)
    (case a_law_crosses => k_is)
    (case l_law_crosses => k_is)
    (case c_law_crosses => k_is)
    (case k_law_crosses => k_is)
    (case a_law_chords => k_is)
    (case l_law_chords => k_is)
    (case c_law_chords => k_is)
    (case k_law_chords => k_is)
    (case a_law_cuts => k_is)
    (case l_law_cuts => k_is)
    (case c_law_cuts => k_is)
    (case k_law_cuts => k_is)
    (case a_law_a_cut => k_is)
    (case l_law_a_cut => k_is)
    (case c_law_a_cut => k_is)
    (case k_law_a_cut => k_is)
    (case a_law_near => k_is)
    (case l_law_near => k_is)
    (case c_law_near => k_is)
    (case k_law_near => k_is)
    (case a_law_across => k_is)
    (case l_law_across => k_is)
    (case c_law_across => k_is)
    (case k_law_across => k_is)
    (case a_law_none_so => k_is)
    (case l_law_none_so => k_is)
    (case c_law_none_so => k_is)
    (case k_law_none_so => k_is)
    (case a_law_bent_cuts => k_is)
    (case l_law_bent_cuts => k_is)
    (case c_law_bent_cuts => k_is)
    (case k_law_bent_cuts => k_is)
    (case a_law => k_is)
    (case l_law => k_is)
    (case c_law => k_is)
    (case k_law => k_is)
    (case a_bud_init => k_is)
    (case l_bud_init => k_is)
    (case c_bud_init => k_is)
    (case k_bud_init => k_is)
    (case a_bad_init => k_is)
    (case l_bad_init => k_is)
    (case c_bad_init => k_is)
    (case k_bad_init => k_is)
    (case z_len => k_is)
    (case z_range => k_is)
    (case z_zip => k_is)
    (case z_enumerate => k_is)
    (case z_all => k_is)
    (case z_any => k_is)
    (case z_max => k_is)
    (case z_min => k_is)
    (case z_sorted => k_is)
    (case z_isinstance => k_is)
    (case z_int => k_is)
    (case z_bool => k_is)
    (case z_tuple => k_is)
    (case z_list => k_is)
    (case z_dict => k_is)
    (case z_str => k_is)
    (case z_ValueError => k_is)
    (case i_LEAST_CORNERS => k_is)
    (case i_MOST_CORNERS => k_is)
    (case sg => k_is)
    (case tyB => k_is)
    (case rdB => k_is)
    (case fcB => k_is)
    (case vv => k_is)
    (case eB => k_is)
    (case hB => k_is)
    (case xL => k_is)
    (case saB => k_is)
    (case gaB => k_is)
    (case ggB => k_is)
    (case nwB => k_is)
    (case tIB => k_is)
    (case kCB => k_is)
    (case eCB => k_is)
    (case tCB => k_is)
    (case hCB => k_is)
    (case sCB => first | rfl | k_is)
    (case cl_law => k_is)
    (case v11_law => rfl)
    (case hd_law => first | k_is | rfl | decide +kernel)
    (case nP_law => first | rfl | k_is | decide +kernel)
    (case cl_law_none_so => k_is)
    (case v11_law_none_so => rfl)
    (case hd_law_none_so => first | k_is | rfl | decide +kernel)
    (case nP_law_none_so => first | rfl | k_is | decide +kernel)
    (case nPP => first | decide | decide +kernel)
