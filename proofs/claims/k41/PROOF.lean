import PyProof.Rows.All
import Wide.All
import OpenK.AllK
import Wide.FinOn
import HandS.ForMost
import HandS.ForExc
import HandS.Codes
import HandS.IsInst
import HandS.Zip
import HandS.Walk
import HandS.TupAny
import HandS.TupMul
import HandS.Conv
import HandS.Flow
import HandS.ExcInit
import HandS.SortOrd
import HandS.SortRule
import HandS.SortKw
import HandS.NamedTupSort
import KE.KDictPairs
import HandS.OwnEq
import HandS.Style
import PyProof.InstEq
import HandS.ExcField
import HandS.CallSlots
import HandS.More
import HandS.Wide
import HandS.ExcIs
import PySem.Challenge.RW_budwright_k41_endless_papers_judged
set_option Elab.async false
set_option linter.all false
set_option maxRecDepth 100000
namespace Bw
open PySem PySem.Spec PyProof.Rows L2
/-! ### a def that may be called, by its name -/
structure Cal (P : Program) (w : World) (K : PySem.W.Frag) (mg : Str → Option Value) (base : Heap) (CX : CXT) (k : Nat) (x : Str) (ps : List Str) (sp : Sp) : Prop where
  ex : ∃ (f : Addr) (fd : FuncData), FnOk P w K mg base CX k f fd ps sp ∧ mg x = some (.ref f) ∧ PySem.W.keepIn K (.ref f) = true ∧ Binds K fd ps []
section
variable {X : Cx} {x : Str} {ps : List Str} {sp : Sp} {k : Nat} {e : Expr} {es : List Expr} {p pos : Pos} {t : TA}
theorem pe_cal (C : Cal X.prog X.w X.K X.mg X.base CX0 k x ps sp) (hr : Room k X.A) (hg : Gl X x) (ha : PA X (e :: es) t) (hdb : (x == ("__debug__" : Str)) = false := by decide) (he : starEach (e :: es) X.env = (false, eval e X.env) :: starEach es X.env := by rfl)
    (hpl : (backTo pos (starEach es X.env)).any (·.1) = false := by rfl) : PE X (.Call (.Name x p) (e :: es) [] pos) (tCall sp [] E0 t) := by
  obtain ⟨f, fd, F, hm, hk, hb⟩ := C.ex
  exact pe_call F hr hg hm hk hb .nil pass0 ha hdb he hpl
end
/-! ### the rules with the written part named: within comprehensions the reading must not hang on the block -/
section
variable {X : Cx} {K : PySem.W.Frag}
def rTupOf (K : PySem.W.Frag) : List V → Hp → VK → Prop := fun xs H Q => ∃ p ys, xs = [V.ref p] ∧ ((SqL K H p ys ∧ ∀ l, H l = none → Q (.ref l) (upd H l (.tup ys))) ∨ (SqT K H p ys ∧ Q (.ref p) H))
def rLstOf (K : PySem.W.Frag) : List V → Hp → VK → Prop := fun xs H Q => ∃ p ys, xs = [V.ref p] ∧ (SqL K H p ys ∨ SqT K H p ys) ∧ ∀ l, H l = none → Q (.ref l) (upd H l (.lst ys))
def rLenOf (K : PySem.W.Frag) : List V → Hp → VK → Prop := fun xs H Q => ∃ p ys, xs = [V.ref p] ∧ (SqL K H p ys ∨ SqT K H p ys) ∧ Q (.int ys.length) H
theorem c_tup (h : X.K = K := by rfl) : CallR X (.type "tuple") (rTupOf K) := by
  subst h
  exact call_tuple_of
theorem c_lst (h : X.K = K := by rfl) : CallR X (.type "list") (rLstOf K) := by
  subst h
  exact call_list_of
theorem c_len (h : X.K = K := by rfl) : CallR X (.builtin "len") (rLenOf K) := by
  subst h
  exact call_len_seq
theorem c_isi (h : X.K = K := by rfl) : CallR X (.builtin "isinstance") (rIsi K) := by
  subst h
  exact call_isi
theorem c_isiT (h : X.K = K := by rfl) : CallR X (.builtin "isinstance") (rIsiT K) := by
  subst h
  exact call_isiT
theorem c_all (hc : X.calm = true) (h : X.K = K := by rfl) : CallR X (.builtin "all") (rAll K) := by
  subst h
  exact cr_all hc
theorem c_any (hc : X.calm = true) (h : X.K = K := by rfl) : CallR X (.builtin "any") (rAny K) := by
  subst h
  exact cr_any hc
theorem i_list (h : X.K = K := by rfl) : IxR X (rIxL K) := by
  subst h
  exact ix_list
theorem i_tup (h : X.K = K := by rfl) : IxR X (rIxT K) := by
  subst h
  exact ix_tup
theorem l_list (h : X.K = K := by rfl) : SlR X (rSlL K) := by
  subst h
  exact sl_list
theorem l_tup (h : X.K = K := by rfl) : SlR X (rSlA K) := by
  subst h
  exact sl_tupA
theorem o_cat (h : X.K = K := by rfl) : OpR X (binaryOp .Add) (rCatA K) := by
  subst h
  exact op_catA
theorem o_in (h : X.K = K := by rfl) : OpR X (compareOp .In) (rIn K false) := by
  subst h
  exact op_in_seq
theorem o_notin (h : X.K = K := by rfl) : OpR X (compareOp .NotIn) (rIn K true) := by
  subst h
  exact op_notIn_seq
theorem p_list {tg l : Expr} {tl : TE} (hl : PE X l tl) (h : X.K = K := by rfl) : PI X tg l (iList K tl) := by
  subst h
  exact pi_list hl
theorem p_tup {tg l : Expr} {tl : TE} (hl : PE X l tl) (h : X.K = K := by rfl) : PI X tg l (iTup K tl) := by
  subst h
  exact pi_tup hl
theorem g_tup {es : List Expr} {k : Nat} {t : TGs} {n : Nat} {pos : Pos} (hc : X.calm = true) (h : PGs X es t) (hn : (assignEach es X.env).length = n := by rfl) (hst : (assignEach es X.env).findIdx? (·.1) = none := by rfl) (hK : X.K = K := by rfl) : PG X (.Tuple es k pos) (gTup K n t) := by
  subst hK
  exact pg_tup hc h hn hst
theorem pe_gint {x : Str} {pos : Pos} {i : Int} (hg : Gl X x) (hm : ∃ t, X.mg x = some (.int i t)) (hdb : (x == ("__debug__" : Str)) = false := by decide) : PE X (.Name x pos) (tC (.int i)) := by
  obtain ⟨t, hm⟩ := hm
  exact pe_glob hg hm ⟨t, rfl⟩ (hd := hdb)
end
/-! ### heaps -/
theorem same_upd {H : Hp} {p : Addr} {o : HO} (h : H p = none) : Same H (upd H p o) := fun b x e => by
  rw [upd_ne (ne_of_none e h)]
  exact e
/-- all but what stands at f is as it was -/
def SameBut (f : Addr) (H H' : Hp) : Prop := ∀ b o, b ≠ f → H b = some o → H' b = some o
theorem SameBut.refl (f : Addr) (H : Hp) : SameBut f H H := fun _ _ _ h => h
theorem SameBut.trans {f : Addr} {H H1 H2 : Hp} (a : SameBut f H H1) (b : SameBut f H1 H2) : SameBut f H H2 := fun c o n h => b c o n (a c o n h)
theorem SameBut.upd {f : Addr} {H H1 : Hp} {o : HO} (a : SameBut f H H1) : SameBut f H (upd H1 f o) := fun c o n h => by
  rw [upd_ne n]
  exact a c o n h
theorem SameBut.new {f p : Addr} {H H1 : Hp} {o : HO} (a : SameBut f H H1) (h : H1 p = none) : SameBut f H (L2.upd H1 p o) := fun c o n q => by
  have z := a c o n q
  rw [upd_ne (ne_of_none z h)]
  exact z
theorem _root_.L2.Same.but {f : Addr} {H H1 : Hp} (a : Same H H1) : SameBut f H H1 := fun c o _ h => a c o h
theorem SameBut.same {f : Addr} {H0 H H1 : Hp} (a : SameBut f H H1) (h : H0 f = none) (s : Same H0 H) : Same H0 H1 := fun c o q => a c o (ne_of_none q h) (s c o q)
/-! ### what the law draws from -/
def FeedAt (H : Hp) (f l : Addr) : Prop := ∃ (ns : List Int) (i : Nat) (n m c : Int), l ≠ f ∧ H f = some (.lst [.ref l, .int i, .int n, .int m, .int c]) ∧ H l = some (.lst (ns.map V.int)) ∧ i ≤ ns.length ∧ 0 ≤ n ∧ 0 ≤ m ∧ m < 2147483647
theorem FeedAt.same {H H' : Hp} {f l : Addr} (s : Same H H') (h : FeedAt H f l) : FeedAt H' f l := by
  obtain ⟨ns, i, n, m, c, a, b, d, r⟩ := h
  exact ⟨ns, i, n, m, c, a, s _ _ b, s _ _ d, r⟩
theorem FeedAt.put {H : Hp} {f l b : Addr} {o : HO} (h : FeedAt H f l) (n1 : b ≠ f) (n2 : b ≠ l) : FeedAt (upd H b o) f l := by
  obtain ⟨ns, i, n, m, c, a, b', d, r⟩ := h
  exact ⟨ns, i, n, m, c, a, by rw [upd_ne (Ne.symm n1)]; exact b', by rw [upd_ne (Ne.symm n2)]; exact d, r⟩
theorem FeedAt.ne {H : Hp} {f l p : Addr} (h : FeedAt H f l) (n : H p = none) : p ≠ f := by
  obtain ⟨_, _, _, _, _, _, b, _⟩ := h
  exact Ne.symm (ne_of_none b n)
theorem FeedAt.ne2 {H : Hp} {f l p : Addr} (h : FeedAt H f l) (n : H p = none) : p ≠ l := by
  obtain ⟨_, _, _, _, _, _, _, d, _⟩ := h
  exact Ne.symm (ne_of_none d n)
theorem FeedAt.tup {H : Hp} {f l p : Addr} {xs : List V} (h : FeedAt H f l) (n : H p = some (.tup xs)) : p ≠ f := by
  obtain ⟨_, _, _, _, _, _, b, _⟩ := h
  exact ne_of n b (by intro z; cases z)
theorem SameBut.updN {f b : Addr} {H H1 : Hp} {o : HO} (a : SameBut f H H1) (h : H b = none) : SameBut f H (L2.upd H1 b o) := fun c o n q => by
  rw [upd_ne (ne_of_none q h)]
  exact a c o n q
theorem int_at {ns : List Int} {i : Nat} {y : V} (h : (ns.map V.int)[i]? = some y) : ∃ u, ns[i]? = some u ∧ y = .int u := by
  rw [List.getElem?_map] at h
  cases e : ns[i]? with
  | none =>
    rw [e] at h
    cases h
  | some u =>
    rw [e] at h
    exact ⟨u, rfl, (Option.some.inj h).symm⟩
end Bw
set_option Elab.async false
set_option linter.all false
set_option maxRecDepth 100000
set_option maxHeartbeats 4000000
namespace Bw
open PySem PySem.Spec PyProof.Rows L2
theorem tuple_mul1 (l : Addr) (items : Array Value) (n : Nat) (dd : Option Addr) (sl : Array (Option Value)) (u : Tok) :
    Meets (Builtin.«tuple.__mul__» ⟨[.ref l, .int 1 u], []⟩) (fun _ R s => s.heap.get? l = some { cls := .type "tuple", dict := dd, data := .seq items n, slots := sl } ∧ R (.ok (.ret (Value.ref l))) s) :=
  .of_wp fun prog w A R s h => by
    obtain ⟨hp, g, d, tk, os⟩ := s
    obtain ⟨hl, h⟩ := h
    have f1 := AutoSeq1.idx_int
    have c1 : (items.isEmpty || (1 : Int) == 1) = true := by simp
    wp_walk using wpAny_loadPart' hl
    repeat (first
      | (refine wpAny_ite_true (decide_eq_true c1) ?_; wp_walk using wpAny_loadPart' hl)
      | (refine wpAny_ite_false (by decide) ?_; wp_walk using wpAny_loadPart' hl))
    exact ⟨_, rfl, h⟩
/-- t * k, k from 1 on -/
def rRep1 (K : PySem.W.Frag) : R2 := fun x y H Q => ∃ l k xs, x = .ref l ∧ y = .int k ∧ SqT K H l xs ∧ xs ≠ [] ∧ 1 ≤ k ∧ k ≤ 1000 ∧ xs.length ≤ 1000 ∧ (k = 1 → Q (.ref l) H) ∧ (2 ≤ k → ∀ p, H p = none → Q (.ref p) (upd H p (.tup (List.replicate k.toNat xs).flatten)))
theorem o_rep {X : Cx} {K : PySem.W.Frag} (hK : X.K = K := by rfl) : OpR X (binaryOp .Mult) (rRep1 K) := by
  subst hK
  intro pins s σ H x y v u Q I rx ry h
  obtain ⟨l, k, xs, rfl, rfl, hT, hne, h1, h2, hz, q1, q2⟩ := h
  by_cases hk : k = 1
  · subst hk
    cases rx
    obtain ⟨t, rfl⟩ := ry
    obtain ⟨its, r, ⟨⟨cls, dd, data, sl⟩, ho, hc, n, hd⟩, hs⟩ := I.tuple hT
    simp only at hc hd
    subst hc hd
    refine wpAny_binaryOp_repeat_ref (T := "tuple") (U := "int") (by decide) ⟨_, ho, rfl⟩ (fun s' => typeIs_int s' 1 t) noFill_tuple_mul F.fills_int_mul F.slot_int_rmul repeat_tuple F.slot_int_index.lookup
      (call_meets F.slot_int_rmul (typeIs_int s 1 t) F.entry_int_rmul (F.args_int_rmul_2 _ _) (int_rmul_tuple 1 t l its.toArray n dd sl)
        ⟨ho, rfl, ⟨_, ho, rfl⟩, call_meets F.slot_tuple_mul ⟨_, ho, rfl⟩ F.entry_tuple_mul (F.args_tuple_mul_2 _ _) (tuple_mul1 l its.toArray n dd sl t) ⟨ho, ?_⟩⟩)
    exact ⟨.ref l, H, I, rfl, q1 rfl⟩
  · exact op_repT pins s σ H _ _ v u Q I rx ry ⟨l, k, xs, rfl, rfl, hT, hne, by omega, h2, hz, q2 (by omega)⟩
end Bw
set_option Elab.async false
set_option linter.all false
set_option maxRecDepth 100000
set_option maxHeartbeats 4000000
namespace Bw
open PySem PySem.Spec PyProof.Rows L2
/-! ### tuples of ints in order -/
def IsTupI (h : Heap) (v : Value) (p : List Int) : Prop := ∃ a o its n, v = .ref a ∧ h.get? a = some o ∧ o.cls = .type "tuple" ∧ o.data = .seq its n ∧ IntsAre its.toList p
theorem IsTupI.keeps {h h' : Heap} {v : Value} {p : List Int} (x : IsTupI h v p) (k : ∀ b o, h.get? b = some o → o.cls = .type "tuple" → h'.get? b = some o) : IsTupI h' v p := by
  obtain ⟨a, o, its, n, e, ho, hc, hd, hi⟩ := x
  exact ⟨a, o, its, n, e, k _ _ ho hc, hc, hd, hi⟩
section
variable {prog : Program} {w : World} {A : Around} {s : Shared}
theorem kat_ints {b : Bool} {Q : Bool → Shared → Prop} : ∀ {ps : List Value} {p : List Int}, IntsAre ps p → ∀ {qs : List Value} {q : List Int}, IntsAre qs q → ∀ (i : Nat) (fin : Bool), fin = decide (ps.length < qs.length) → Q (HT.lexLt p q) s → PySem.W.KatLex prog w A b fin Q (ps.zip qs) i s
  | _, _, .nil, _, _, .nil, i, fin, hf, hq => by
    subst hf
    exact PySem.W.kat_nil hq
  | _, _, .nil, _, _, .cons _ _ _, i, fin, hf, hq => by
    have e : fin = true := by
      rw [hf]
      exact decide_eq_true (by rw [List.length_cons]; exact Nat.succ_pos _)
    subst e
    exact PySem.W.kat_nil hq
  | _, _, .cons _ _ _, _, _, .nil, i, fin, hf, hq => by
    have e : fin = false := by
      rw [hf]
      exact decide_eq_false (by rw [List.length_nil]; omega)
    subst e
    exact PySem.W.kat_nil hq
  | _, _, .cons x t r, _, _, .cons y u r', i, fin, hf, hq => by
    rw [List.zip_cons_cons]
    refine PySem.W.kat_cons (SeqAt.EqAt.int_int _ _ _ _ prog w _ _ ?_)
    rw [HT.lexLt_cons] at hq
    refine PySem.W.kat_go (fun e1 => ?_) (fun e1 => ?_)
    · have ex : x = y := by simpa using e1
      rw [if_pos ex] at hq
      exact PySem.W.kat_yes (kat_ints r r' (i + 1) fin (by rw [hf, List.length_cons, List.length_cons]; congr 1; simp) hq)
    · have ex : ¬ x = y := by simpa using e1
      rw [if_neg ex] at hq
      exact PySem.W.kat_no (TS.oneLt_ints _ hq)
theorem tup_cmp {vs : List Value} {k : Value → List Int} (hp : ∀ v ∈ vs, IsTupI s.heap v (k v)) : SrtO.Cmp prog w A s (tuples' true) (fun p => p.1 ∈ vs) (SrtO.lt2 fun v u => HT.lexLt (k v) (k u)) := by
  intro p q hm hm'
  obtain ⟨a, o, its, n, e, ho, hc, hd, hi⟩ := hp _ hm
  obtain ⟨a', o', its', n', e', ho', hc', hd', hi'⟩ := hp _ hm'
  show wpAny (model prog w) A (keyLt' (tuples' true) p.1 q.1) (fun r s' => s' = s ∧ r = HT.lexLt (k p.1) (k q.1)) (fun _ _ => False) s
  generalize k p.1 = x at hi ⊢
  generalize k q.1 = y at hi' ⊢
  rw [e, e']
  exact PySem.W.kat_lt ho hd ho' hd' (kat_ints hi hi' 0 _ (by rw [Array.length_toList, Array.length_toList]) ⟨rfl, rfl⟩)
theorem firsts_tup {h : Heap} : ∀ {vs : List Value}, (∀ v ∈ vs, ∃ x p, IsTupI h v (x :: p)) → ∃ fs : List Value, PySem.W.KatTups h vs fs ∧ fs.length = vs.length ∧ ∀ f ∈ fs, ∃ x t, f = Value.int x t
  | [], _ => ⟨[], PySem.W.KatTups.nil, rfl, fun _ hm => by simp at hm⟩
  | v :: vs, hp => by
    obtain ⟨fs, h1, h2, h3⟩ := firsts_tup (vs := vs) fun v' hm => hp v' (List.mem_cons_of_mem _ hm)
    obtain ⟨x, p, a, o, its, n, e, ho, hc, hd, hi⟩ := hp v (List.mem_cons_self ..)
    subst e
    cases hl : its.toList with
    | nil =>
      rw [hl] at hi
      cases hi
    | cons f r =>
      rw [hl] at hi
      cases hi with
      | cons _ t hr =>
        refine ⟨.int x t :: fs, PySem.W.KatTups.cons ho hc hd (by rw [← Array.getElem?_toList, hl]; rfl) h1, by rw [List.length_cons, List.length_cons, h2], fun g hg => ?_⟩
        rcases List.mem_cons.mp hg with rfl | hg
        · exact ⟨x, t, rfl⟩
        · exact h3 g hg
theorem tups_sortable {a : Addr} {vs : List Value} {k : Value → List Int} (h0 : 0 < vs.length) (hp : ∀ v ∈ vs, IsTupI s.heap v (k v)) (hne : ∀ v ∈ vs, k v ≠ []) (ha : ∀ o, s.heap.get? a = some o → o.cls ≠ .type "tuple") : SrtO.SortableO prog w A s a vs fun v u => HT.lexLt (k v) (k u) := by
  intro h' keep
  have hp' : ∀ v ∈ vs, IsTupI h' v (k v) := fun v hm => (hp v hm).keeps fun b o e c => keep b o (fun z => by subst z; exact ha o e c) e
  obtain ⟨fs, h1, h2, h3⟩ := firsts_tup fun v hm => by
    have x := hp' v hm
    cases e : k v with
    | nil => exact absurd e (hne v hm)
    | cons y p =>
      rw [e] at x
      exact ⟨y, p, x⟩
  refine ⟨tuples' true, fun Q E hq => ?_, tup_cmp hp'⟩
  have e0 : (Value.type "int" != Value.type "tuple") = true := by decide +kernel
  refine PySem.W.kat_kind (T := .type "int") h1 (by rw [h2]; exact h0) (fun g hg => ?_) rfl (by rw [e0]; exact hq)
  obtain ⟨x, t, rfl⟩ := h3 g hg
  exact PySem.W.Looks.now
end
/-! ### as rules of the layer -/
def unInt : V → Int
  | .int i => i
  | _ => 0
def unRef : Value → Addr
  | .ref a => a
  | _ => 0
/-- the ints of the tuple at b -/
def keyOf (H : Hp) (b : Addr) : List Int := match H b with
  | some (.tup xs) => xs.map unInt
  | _ => []
theorem keyOf_at {H : Hp} {b : Addr} {q : List Int} (h : H b = some (.tup (q.map V.int))) : keyOf H b = q := by
  unfold keyOf
  rw [h]
  show (q.map V.int).map unInt = q
  rw [List.map_map]
  have e : unInt ∘ V.int = id := rfl
  rw [e, List.map_id]
theorem unRef_map : ∀ {us : List Value} {ts : List Addr}, us = ts.map Value.ref → us.map unRef = ts
  | _, ts, rfl => by
    rw [List.map_map]
    have e : unRef ∘ Value.ref = id := rfl
    rw [e, List.map_id]
theorem ref_map : ∀ {us : List Value} {ts : List Addr}, (∀ u ∈ us, u ∈ ts.map Value.ref) → us = (us.map unRef).map Value.ref
  | [], _, _ => rfl
  | u :: us, ts, h => by
    obtain ⟨t, _, e⟩ := List.mem_map.mp (h u (List.mem_cons_self ..))
    subst e
    show _ = Value.ref t :: (us.map unRef).map Value.ref
    rw [← ref_map (ts := ts) fun v hv => h v (List.mem_cons_of_mem _ hv)]
section
variable {X : Cx}
theorem tupI_of {pins : List (Addr × Obj)} {s : Shared} {σ : L2.St} {H : Hp} (I : L2.Inv X pins σ H s) {t : Addr} {q : List Int} (ht : H t = some (.tup (q.map V.int))) : IsTupI s.heap (.ref t) (keyOf H t) := by
  rw [keyOf_at ht]
  obtain ⟨_, its2, r2, o, ho, hc, n, hd⟩ := I.hok _ _ ht
  exact ⟨t, o, _, n, rfl, ho, hc, hd, r2.ints⟩
/-- sorted(xs), a list of tuples of ints: rising -/
def rSortTI (K : PySem.W.Frag) : List V → Hp → VK → Prop := fun vs H Q => ∃ (a : Addr) (ts : List Addr), vs = [V.ref a] ∧ SqL K H a (ts.map V.ref) ∧ (∀ t ∈ ts, ∃ q : List Int, H t = some (.tup (q.map V.int))) ∧ (2 ≤ ts.length → ∀ t ∈ ts, keyOf H t ≠ []) ∧
  ∀ (ts' : List Addr) (p : Addr), ts'.Perm ts → ts'.Pairwise (fun x y => HT.lexLt (keyOf H y) (keyOf H x) = false) → H p = none → Q (.ref p) (upd H p (.lst (ts'.map V.ref)))
theorem cr_sortTI {K : PySem.W.Frag} (hK : X.K = K := by rfl) : CallR X (.builtin "sorted") (rSortTI K) := by
  subst hK
  intro pins s σ H vs us Q I r h
  obtain ⟨a, ts, rfl, hs, hx, hne, q⟩ := h
  obtain ⟨its, rv, hl, hz⟩ := I.list hs
  obtain ⟨u, rfl, ru⟩ := vals1 r
  obtain rfl : u = Value.ref a := ru
  have ei := refs_at rv
  have lz : its.length ≤ sizeLine := by
    rw [← rv.length]
    exact hz
  have hk : ∀ (h₁ : Heap), (∀ b o, s.heap.get? b = some o → h₁.get? b = some o) → ∀ v ∈ its, IsTupI h₁ v (keyOf H (unRef v)) := fun h₁ kk v hv => by
    rw [ei] at hv
    obtain ⟨t, ht, rfl⟩ := List.mem_map.mp hv
    obtain ⟨q', hq'⟩ := hx t ht
    exact (tupI_of I hq').keeps fun b o e _ => kk b o e
  refine SrtO.sorted_ord (NtL.swo_lexL fun v => keyOf H (unRef v)) hl.isList lz (fun h2 h₁ a' ha kk => ?_) fun out hs hb => ?_
  · refine tups_sortable (s := { s with heap := h₁ }) (by omega) (hk h₁ fun b o e => (kk b o e).2) (fun v hv => ?_) fun o e => ?_
    · rw [ei] at hv h2
      obtain ⟨t, ht, rfl⟩ := List.mem_map.mp hv
      rw [List.length_map] at h2
      exact hne h2 t ht
    · have e' : some o = some (seqObj "list" its.toArray 0) := e.symm.trans ha
      cases e'
      intro c
      exact absurd (Value.type.inj c) (by decide)
  · have hm : ∀ u ∈ out, u ∈ ts.map Value.ref := fun u hu => by
      rw [← ei]
      exact hb.perm.mem_iff.mp hu
    have eo := ref_map hm
    have hp : (out.map unRef).Perm ts := by
      have z := hb.perm.map unRef
      rw [unRef_map ei] at z
      exact z
    obtain ⟨n, hn⟩ := PyProof.Rows.sortedAll_at s.heap its out.toArray
    refine ⟨.ref (s.heap.objs.size + 1), upd H (s.heap.objs.size + 1) (.lst ((out.map unRef).map V.ref)), I.laid (t' := s.toks) (fun b o e => PyProof.Rows.sortedAll_old e) (Nat.le_succ _) ⟨?_, out, n, ?_, hn⟩, rfl, q _ _ hp (List.pairwise_map.mpr hs) (I.hok.fresh (Nat.le_succ _))⟩
    · rw [List.length_map, hp.length_eq, ← List.length_map (f := V.ref)]
      exact hz
    · have z := vals_refs (out.map unRef)
      rw [← eo] at z
      exact z
/-- the key tuples of a dict, as they are collected -/
theorem acc_keys {P : Program} {w : World} {es : Array DictEntry} {ks : List (List Key × Addr × Value)} {acc : Array Value} (he : es.toList = ks.map (entryOfKey (tupleKind (mixKind P w)))) (it : ItemsOf (fun i v => ∃ en : DictEntry, es[i]? = some en ∧ v = en.key) acc es.size) :
    acc.toList = (ks.map fun x => x.2.1).map Value.ref := by
  have l1 : es.size = ks.length := size_of_entries he
  apply List.ext_getElem?
  intro j
  rw [List.getElem?_map, List.getElem?_map]
  cases hj : acc.toList[j]? with
  | none =>
    have h1 := List.getElem?_eq_none_iff.mp hj
    rw [Array.length_toList, it.1] at h1
    rw [List.getElem?_eq_none (show ks.length ≤ j by omega)]
    rfl
  | some v =>
    obtain ⟨en, hen, hv⟩ := it.2 j v (by rw [← Array.getElem?_toList]; exact hj)
    have qe := entry_at he j
    rw [hen] at qe
    cases hb : ks[j]? with
    | none =>
      rw [hb] at qe
      cases qe
    | some b =>
      rw [hb] at qe
      have e2 := Option.some.inj qe
      rw [hv, e2]
      rfl
/-- the keys of a dict, tuples of ints -/
def KeysI (kvs : List (List Key × V)) (ps : List (List Int)) : Prop := kvs.map (·.1) = ps.map (List.map Sum.inl)
/-- sorted(d, reverse=True), a dict whose keys are tuples of ints: falling -/
def rSortDT : List V → List V → Hp → VK → Prop := fun vs zs H Q => ∃ (d : Addr) (kvs : List (List Key × V)) (ps : List (List Int)), vs = [V.ref d] ∧ zs = [.bl true] ∧ Rd H d (.dT kvs) ∧ KeysI kvs ps ∧ (2 ≤ ps.length → ∀ q ∈ ps, q ≠ []) ∧
  ∀ (bs : List Addr) (p : Addr), (∀ b ∈ bs, ∃ q : List Int, H b = some (.tup (q.map V.int))) → (bs.map (keyOf H)).Perm ps → bs.Pairwise (fun x y => HT.lexLt (keyOf H x) (keyOf H y) = false) → H p = none → Q (.ref p) (upd H p (.lst (bs.map V.ref)))
theorem keys_kt {H : Hp} : ∀ {kvs : List (List Key × V)} {ks : List (List Key × Addr × Value)} {ps : List (List Int)}, KT H kvs ks → KeysI kvs ps → (∀ b ∈ ks.map (fun x => x.2.1), ∃ q : List Int, H b = some (.tup (q.map V.int))) ∧ (ks.map fun x => x.2.1).map (keyOf H) = ps
  | _, _, ps, .nil, h => by
    cases ps with
    | nil => exact ⟨fun b hb => by simp at hb, rfl⟩
    | cons q ps => cases h
  | _, _, ps, .cons (a := kv) (b := x) hx t, h => by
    cases ps with
    | nil => cases h
    | cons q ps =>
      have h' : kv.1 :: _ = q.map Sum.inl :: ps.map (List.map Sum.inl) := h
      obtain ⟨e1, e2⟩ := List.cons.inj h'
      obtain ⟨i1, i2⟩ := keys_kt t e2
      have hq : H x.2.1 = some (.tup (q.map V.int)) := by
        rw [hx.2.1, e1, List.map_map]
        rfl
      refine ⟨fun b hb => ?_, ?_⟩
      · rcases List.mem_cons.mp hb with rfl | hb
        · exact ⟨q, hq⟩
        · exact i1 b hb
      · show keyOf H x.2.1 :: _ = q :: ps
        rw [keyOf_at hq, i2]
theorem cr_sortDT (hc : X.calm = true) : CallRK X (.builtin "sorted") [Str.ofString "reverse"] rSortDT := by
  intro pins s σ H vs zs us ws Q I r rz h
  obtain ⟨d, kvs, ps, rfl, rfl, hd, hK, hne, q⟩ := h
  obtain rfl := Vals.ref1 r
  obtain ⟨w1, rfl, e1⟩ := vals1 rz
  obtain rfl : w1 = Value.bool true := e1
  obtain ⟨z, hs, ks, pr, o, es, ep, ho, hx, hdt, he, hn⟩ := (show ObjOk X.prog X.w H s.heap d (.dT kvs) from hd.ok I.hok)
  have l1 : es.size = ks.length := size_of_entries he
  have l2 : kvs.length = ks.length := Paired.length pr
  obtain ⟨k1, k2⟩ := keys_kt pr hK
  have l3 : ks.length = ps.length := by
    rw [← k2, List.length_map, List.length_map]
  show wpAny (model X.prog X.w) X.A (call (.builtin "sorted") [.ref d] [(Str.ofString "reverse", .bool true)]) _ _ _
  refine PyProof.Rows.call_function_entry_kw PyProof.Rows.kind_sorted PyProof.Rows.plain_sorted PyProof.Rows.entry_sorted (PyProof.Rows.args_sorted_rev _ _) ?_
  unfold Builtin.«sorted»
  refine wpAny_bind (m := checkCount "sorted" 1 1 _) (wpAny_pure ?_)
  refine wpAny_bind (PySem.W.kdu_collect (A := X.A.in1) (kdl_raw hs hx hdt) (I.ok.hd hc) ho (by omega) fun h' tk acc hk hacc => ?_)
  have ea := acc_keys he hacc
  generalize (ks.map fun x => x.2.1) = ts at ea k1 k2
  have I1 : Inv X pins σ H { s with heap := h', toks := tk } := I.kept hk
  have lts : ts.length = ps.length := by
    rw [← k2, List.length_map]
  have lz : acc.toList.length ≤ sizeLine := by
    rw [ea, List.length_map]
    omega
  refine wpAny_bind (wpAny_newList ?_ lz)
  have hoL : (h'.push (seqObj "list" acc.toList.toArray 0)).get? h'.objs.size = some (seqObj "list" acc.toList.toArray 0) := Heap.get?_push_size _ rfl
  show wpAny _ _ _ _ _ { s with heap := h'.push (seqObj "list" acc.toList.toArray 0), toks := tk }
  have kp : ∀ b o, h'.get? b = some o → b ≠ h'.objs.size ∧ (h'.push (seqObj "list" acc.toList.toArray 0)).get? b = some o := fun b o e => ⟨Nat.ne_of_lt (Heap.lt_size e), Heap.get?_push_of_some _ e⟩
  refine wpAny_bind (wpAny_holding (wpAny_call_entry_kw PyProof.Rows.slot_list_sort ⟨_, hoL, rfl⟩ PyProof.Rows.entry_list_sort (SrtR.list_sort_ordR (b := true) (s := { s with heap := h'.push (seqObj "list" acc.toList.toArray 0), toks := tk }) (NtL.swo_lexL fun v => keyOf H (unRef v)) hoL lz (fun h2 => ?_) fun out g1 g2 => ⟨_, rfl, ?_⟩) (PyProof.Rows.args_list_sort_rev _ _)))
  · refine tups_sortable (s := { s with heap := h'.push (seqObj "list" acc.toList.toArray 0), toks := tk }) (by omega) (fun v hv => ?_) (fun v hv => ?_) fun o e => ?_
    · rw [ea] at hv
      obtain ⟨t, ht, rfl⟩ := List.mem_map.mp hv
      obtain ⟨q', hq'⟩ := k1 t ht
      exact (tupI_of I1 hq').keeps fun b o e _ => (kp b o e).2
    · rw [ea] at hv
      obtain ⟨t, ht, rfl⟩ := List.mem_map.mp hv
      rw [ea, List.length_map, lts] at h2
      refine hne h2 _ ?_
      rw [← k2]
      exact List.mem_map.mpr ⟨t, ht, rfl⟩
    · have e' : some o = some (seqObj "list" acc.toList.toArray 0) := e.symm.trans hoL
      cases e'
      intro c
      exact absurd (Value.type.inj c) (by decide)
  · rw [if_pos rfl] at g2
    have hm : ∀ u ∈ out, u ∈ ts.map Value.ref := fun u hu => by
      rw [← ea]
      exact List.mem_reverse.mp (g2.perm.mem_iff.mp hu)
    have eo := ref_map hm
    have hp : (out.map unRef).Perm ts := by
      have z := (g2.perm.trans (List.reverse_perm _)).map unRef
      rw [unRef_map ea] at z
      exact z
    obtain ⟨n, hn'⟩ := PyProof.Rows.sortedHeap_at (vs := acc.toList) (out := out.toArray.reverse) hoL
    have er : (out.toArray.reverse) = (out.reverse).toArray := by simp
    refine wpAny_pure ⟨_, rfl, .ref h'.objs.size, upd H h'.objs.size (.lst ((out.map unRef).reverse.map V.ref)), I1.laid (t' := tk) (fun b u e => ?_) (Nat.le_refl _) ⟨?_, out.reverse, n, ?_, ?_⟩, rfl, q _ _ (fun b hb => k1 b (hp.mem_iff.mp (List.mem_reverse.mp hb))) ?_ ?_ (I1.hok.fresh (Nat.le_refl _))⟩
    · have hb : b < h'.objs.size := Heap.lt_size e
      rw [if_pos rfl, PyProof.Rows.sortedHeap_old (Nat.ne_of_lt hb) (by rw [size_push']; exact Nat.lt_succ_of_lt hb)]
      exact Heap.get?_push_of_some _ e
    · rw [List.length_map, List.length_reverse, hp.length_eq]
      omega
    · have z := vals_refs (out.map unRef).reverse
      rw [List.map_reverse, List.map_reverse, ← eo] at z
      rw [List.map_reverse]
      exact z
    · rw [if_pos rfl, ← er]
      exact hn'
    · rw [← k2]
      exact ((List.reverse_perm _).trans hp).map (keyOf H)
    · rw [List.pairwise_reverse]
      exact List.pairwise_map.mpr g1
end
end Bw
set_option Elab.async false
set_option linter.all false
set_option maxRecDepth 100000
set_option maxHeartbeats 4000000
namespace Bw
open PySem PySem.Spec PyProof.Rows L2
def mergeT (kvs more : List (List Key × V)) : List (List Key × V) := more.foldl (fun acc kv => putK acc kv.1 kv.2) kvs
/-- dict(xs), a list of pairs (key, value), the keys tuples: later ones win, at the first one's place -/
def rDictPT (K : PySem.W.Frag) : List V → Hp → VK → Prop := fun vs H Q => ∃ (a : Addr) (ts : List Addr) (its : List (List Key × Addr × V)), vs = [V.ref a] ∧ SqL K H a (ts.map V.ref) ∧
  Paired (fun t (x : List Key × Addr × V) => H t = some (.tup [.ref x.2.1, x.2.2]) ∧ H x.2.1 = some (.tup (x.1.map kV))) ts its ∧ ∀ p, H p = none → Q (.ref p) (upd H p (.dT (mergeT [] (its.map fun x => (x.1, x.2.2)))))
section
variable {X : Cx} {pins : List (Addr × Obj)} {s : Shared} {σ : L2.St} {H : Hp}
theorem pairsT_of (I : L2.Inv X pins σ H s) : ∀ {ts : List Addr} {its : List (List Key × Addr × V)}, Paired (fun t (x : List Key × Addr × V) => H t = some (.tup [.ref x.2.1, x.2.2]) ∧ H x.2.1 = some (.tup (x.1.map kV))) ts its →
    ∃ ps : List (List Key × Addr × Value), Paired (fun (x : List Key × Addr × V) (q : List Key × Addr × Value) => x.1 = q.1 ∧ H q.2.1 = some (.tup (q.1.map kV)) ∧ RelV x.2.2 q.2.2) its ps ∧ ps.length = ts.length ∧
      ∀ (j : Nat) (q : List Key × Addr × Value), ps[j]? = some q → ∃ t, ts[j]? = some t ∧ s.heap.IsTuple t #[.ref q.2.1, q.2.2]
  | _, _, .nil => ⟨[], .nil, rfl, fun j q e => by simp at e⟩
  | _, _, .cons (a := t) (b := x) h r => by
    obtain ⟨ps, r1, hl, hp⟩ := pairsT_of I r
    obtain ⟨_, us, rv, hT⟩ := I.hok _ _ h.1
    obtain ⟨u1, u2, rfl, e1, e2⟩ := vals2 rv
    obtain rfl : u1 = Value.ref x.2.1 := e1
    refine ⟨(x.1, x.2.1, u2) :: ps, .cons ⟨rfl, h.2, e2⟩ r1, by rw [List.length_cons, List.length_cons, hl], fun j q e => ?_⟩
    cases j with
    | zero =>
      cases (Option.some.inj e)
      exact ⟨t, rfl, hT⟩
    | succ j => exact hp j q e
theorem kt_merge {H' : Hp} : ∀ {its : List (List Key × Addr × V)} {ps : List (List Key × Addr × Value)} {kvs : List (List Key × V)} {xs : List (List Key × Addr × Value)}, Paired (fun (x : List Key × Addr × V) (q : List Key × Addr × Value) => x.1 = q.1 ∧ H' q.2.1 = some (.tup (q.1.map kV)) ∧ RelV x.2.2 q.2.2) its ps → KT H' kvs xs →
    KT H' (mergeT kvs (its.map fun x => (x.1, x.2.2))) (storedAllH xs ps)
  | _, _, _, _, .nil, k => k
  | _, _, kvs, xs, .cons (a := x) (b := q) h r, k => by
    have z := KT.put k q.1 h.2.1 h.2.2
    rw [← h.1] at z
    have z2 := kt_merge (kvs := putK kvs x.1 x.2.2) (xs := storedH xs x.1 q.2.1 q.2.2) r z
    show KT H' (mergeT (putK kvs x.1 x.2.2) _) (storedAllH (storedH xs q.1 q.2.1 q.2.2) _)
    rw [← h.1]
    exact z2
theorem putT_len (kvs : List (List Key × V)) (k : List Key) (v : V) : (putK kvs k v).length ≤ kvs.length + 1 := length_putK kvs k v
theorem mergeT_len : ∀ (more kvs : List (List Key × V)), (mergeT kvs more).length ≤ kvs.length + more.length
  | [], kvs => Nat.le_refl _
  | m :: more, kvs => by
    show (mergeT (putK kvs m.1 m.2) more).length ≤ _
    have h1 := mergeT_len more (putK kvs m.1 m.2)
    have h2 := putT_len kvs m.1 m.2
    rw [List.length_cons]
    omega
end
theorem cr_dictPT {X : Cx} {K : PySem.W.Frag} (hc : X.calm = true) (hu : X.A.units + 64 < cLine) (hK : X.K = K := by rfl) : CallR X (.type "dict") (rDictPT K) := by
  subst hK
  intro pins s σ H vs us Q I r h
  obtain ⟨a, ts, its, rfl, hs, hp, q⟩ := h
  obtain ⟨vs, rv, hl, hz⟩ := I.list hs
  obtain ⟨u, rfl, ru⟩ := vals1 r
  obtain rfl : u = Value.ref a := ru
  have ei := refs_at rv
  obtain ⟨o, n, ho, hcl, hd, hdat⟩ := hl
  obtain ⟨ps, r1, lp, hpt⟩ := pairsT_of I hp
  have lts : ts.length ≤ sizeLine := by
    rw [List.length_map] at hz
    exact hz
  let vps : List (Value × Value) := ps.map fun q => (Value.ref q.2.1, q.2.2)
  have lv : vps.length = ts.length := by
    show (ps.map _).length = _
    rw [List.length_map, lp]
  have hkey : ∀ x ∈ ps, H x.2.1 = some (.tup (x.1.map kV)) := by
    clear hpt lp lv vps hp q
    induction r1 with
    | nil => intro x hx; simp at hx
    | cons h t ih =>
      intro x hx
      rcases List.mem_cons.mp hx with rfl | hx
      · exact h.2.1
      · exact ih x hx
  refine call_dict_pairsH (knd := tupleKind (mixKind X.prog X.w)) (ps := ps) (PairArg.list a vs.toArray (fun j => (ts[j]?).getD 0) vps) (I.ok.hd hc) (show (X.A.in1.in1).units < cLine from ?_) ⟨⟨o, n, ho, hcl, hd, hdat⟩, ?_, fun j k v e => ?_⟩ ⟨by rw [lv, lp], fun i key v e => ?_⟩ (fun h' hk x hx => ?_) (by rw [lv]; exact lts) fun h' tk hd' hk => ?_
  · show X.A.units + 1 + 1 < cLine
    omega
  · rw [List.size_toArray, ei, List.length_map, lv]
  · obtain ⟨x, ex, e2⟩ : ∃ x, ps[j]? = some x ∧ (Value.ref x.2.1, x.2.2) = (k, v) := by
      have e' : (ps.map fun q => (Value.ref q.2.1, q.2.2))[j]? = some (k, v) := e
      rw [List.getElem?_map] at e'
      cases hx : ps[j]? with
      | none =>
        rw [hx] at e'
        cases e'
      | some x =>
        rw [hx] at e'
        exact ⟨x, rfl, Option.some.inj e'⟩
    cases e2
    obtain ⟨t, et, hT⟩ := hpt j x ex
    have eg : (ts[j]?).getD 0 = t := by
      rw [et]
      rfl
    refine ⟨?_, .inl ?_⟩
    · show vs.toArray[j]? = some (Value.ref ((ts[j]?).getD 0))
      rw [eg, ei, List.getElem?_toArray, List.getElem?_map, et]
      rfl
    · show s.heap.IsTuple ((ts[j]?).getD 0) _
      rw [eg]
      exact hT
  · have e' : (ps.map fun q => (Value.ref q.2.1, q.2.2))[i]? = some (key, v) := e
    rw [List.getElem?_map] at e'
    cases hx : ps[i]? with
    | none =>
      rw [hx] at e'
      cases e'
    | some x =>
      rw [hx] at e'
      cases (Option.some.inj e')
      exact ⟨x.1, x.2.1, rfl, rfl⟩
  · have hb := key_of I.hok (hkey x hx)
    obtain ⟨ob, items, m, h1, h2, h3, h4⟩ := hb
    exact ⟨ob, items, m, hk _ _ (Nat.ne_of_lt (Heap.lt_size h1)) (by simp) h1, h2, h3, h4⟩
  · have hm : (s.heap.objs.size == sysModules) = false := beq_eq_false_iff_ne.mpr (Nat.ne_of_gt I.big)
    obtain ⟨q', es, ep, hq, h2, h3, h4, _, h5⟩ := hd'
    have hlen : (mergeT [] (its.map fun x => (x.1, x.2.2))).length ≤ sizeLine := by
      have z := mergeT_len (its.map fun x => (x.1, x.2.2)) []
      rw [List.length_map, List.length_nil, ← Paired.length hp] at z
      omega
    have hf : H s.heap.objs.size = none := I.hok.fresh (Nat.le_refl _)
    refine ⟨.ref s.heap.objs.size, upd H s.heap.objs.size (.dT (mergeT [] (its.map fun x => (x.1, x.2.2)))), I.laid (t' := tk) (fun b o e => hk b o (by simp) e) (Nat.le_refl _) ⟨hlen, hm, storedAllH [] ps, (kt_merge r1 .nil).keeps fun b ys hb => ?_, q', es, ep, hq, h2, h3, h4, h5⟩, rfl, q _ hf⟩
    rw [upd_ne (ne_of_none hb hf)]
    exact hb
end Bw
set_option Elab.async false
set_option linter.all false
set_option maxRecDepth 100000
set_option maxHeartbeats 4000000
namespace Bw
open PySem PySem.Spec PyProof.Rows L2
/-! ### t * k, k from 0 on -/
theorem tuple_mul0 (l : Addr) (items : Array Value) (n : Nat) (dd : Option Addr) (sl : Array (Option Value)) (u : Tok) (hne : items.isEmpty = false) :
    Meets (Builtin.«tuple.__mul__» ⟨[.ref l, .int 0 u], []⟩) (fun _ R s => s.heap.get? l = some { cls := .type "tuple", dict := dd, data := .seq items n, slots := sl } ∧ R (.ok (.ret (Value.ref s.heap.objs.size))) { s with heap := s.heap.push { cls := Value.type "tuple", data := Data.seq #[] }, toks := s.toks }) :=
  .of_wp fun prog w A R s h => by
    obtain ⟨hp, g, d, tk, os⟩ := s
    obtain ⟨hl, h⟩ := h
    have f1 := AutoSeq1.idx_int
    have c1 : (items.isEmpty || (0 : Int) == 1) = false := by rw [hne]; rfl
    have c2 : (decide ((0 : Int) ≤ 0) || items.isEmpty) = true := by simp
    wp_walk using wpAny_loadPart' hl
    repeat (first
      | (refine wpAny_ite_true (decide_eq_true c2) ?_; wp_walk using wpAny_loadPart' hl)
      | (refine wpAny_ite_false (by decide) ?_; wp_walk using wpAny_loadPart' hl)
      | (refine wpAny_ite_false (decide_eq_false (by rw [c1]; exact Bool.false_ne_true)) ?_; wp_walk using wpAny_loadPart' hl))
    exact ⟨_, rfl, h⟩
def rRepZ (K : PySem.W.Frag) : R2 := fun x y H Q => ∃ l k xs, x = .ref l ∧ y = .int k ∧ SqT K H l xs ∧ xs ≠ [] ∧ 0 ≤ k ∧ k ≤ 1000 ∧ xs.length ≤ 1000 ∧ (k = 0 → ∀ p, H p = none → Q (.ref p) (upd H p (.tup []))) ∧ (k = 1 → Q (.ref l) H) ∧ (2 ≤ k → ∀ p, H p = none → Q (.ref p) (upd H p (.tup (List.replicate k.toNat xs).flatten)))
theorem o_repZ {X : Cx} {K : PySem.W.Frag} (hK : X.K = K := by rfl) : OpR X (binaryOp .Mult) (rRepZ K) := by
  subst hK
  intro pins s σ H x y v u Q I rx ry h
  obtain ⟨l, k, xs, rfl, rfl, hT, hne, h1, h2, hz, q0, q1, q2⟩ := h
  by_cases hk : k = 0
  · subst hk
    cases rx
    obtain ⟨t, rfl⟩ := ry
    obtain ⟨its, r, ⟨⟨cls, dd, data, sl⟩, ho, hc, n, hd⟩, hs⟩ := I.tuple hT
    simp only at hc hd
    subst hc hd
    have hi : its.toArray.isEmpty = false := by
      cases its with
      | nil =>
        cases r
        exact absurd rfl hne
      | cons a b => rfl
    refine wpAny_binaryOp_repeat_ref (T := "tuple") (U := "int") (by decide) ⟨_, ho, rfl⟩ (fun s' => typeIs_int s' 0 t) noFill_tuple_mul F.fills_int_mul F.slot_int_rmul repeat_tuple F.slot_int_index.lookup
      (call_meets F.slot_int_rmul (typeIs_int s 0 t) F.entry_int_rmul (F.args_int_rmul_2 _ _) (int_rmul_tuple 0 t l its.toArray n dd sl)
        ⟨ho, rfl, ⟨_, ho, rfl⟩, call_meets F.slot_tuple_mul ⟨_, ho, rfl⟩ F.entry_tuple_mul (F.args_tuple_mul_2 _ _) (tuple_mul0 l its.toArray n dd sl t hi) ⟨ho, ?_⟩⟩)
    exact ⟨.ref s.heap.objs.size, _, I.laid (t' := s.toks) (o := .tup []) (fun b ob z => Heap.get?_push_of_some _ z) (Nat.le_refl _) ⟨Nat.zero_le _, [], .nil, IsTup.new _ _⟩, rfl, q0 rfl _ (I.hok.fresh (Nat.le_refl _))⟩
  · exact o_rep (X := X) rfl pins s σ H _ _ v u Q I rx ry ⟨l, k, xs, rfl, rfl, hT, hne, by omega, h2, hz, q1, q2⟩
/-! ### len(x), x == y, x != y of own instances -/
section
variable {X : Cx} {CX : CXT} {C f : Addr} {fd : FuncData} {ps : List Str} {sp : Sp} {n : Nat} {E : XK}
def rLenOwn (C : Addr) (sp : Sp) (E : XK) : List V → Hp → VK → Prop := fun xs H Q => ∃ a dx fs, xs = [V.ref a] ∧ H a = some (.ins C dx fs) ∧ sp [.ref a] H (fun z H' => ∃ i : Int, z = .int i ∧ 0 ≤ i ∧ i < 2 ^ 63 ∧ Q (.int i) H') E
theorem c_lenOwn (hs : PySem.W.findIn X.K (.ref C) "__len__" = some (some (.ref f))) (hf : PySem.W.isFn X.K (.ref f) = true) (F : FnOk X.prog X.w X.K X.mg X.base CX n f fd ps sp) (hr : Room (n + 1) X.A) (hb : Binds X.K fd ps []) (hx : Passes CX X E) : CallR X (.builtin "len") (rLenOwn C sp E) := by
  intro pins s σ H xs us Q I r h
  obtain ⟨a, dx, fs, rfl, ha, q⟩ := h
  obtain ⟨u, rfl, ru⟩ := vals1 r
  obtain rfl : u = Value.ref a := ru
  obtain ⟨mA, J, _⟩ := ins_get I.hok ha
  obtain ⟨od, J, _⟩ := J.look
  obtain ⟨m, hF⟩ := I.fr
  refine PySem.W.len_K hF I.ok.mod.kin J hs hf ?_
  have hl := F.len _ _ _ _ q
  refine wpAny_call (codeAny_mono (F.run X.A.in1 X.stack s H ⟨[.ref a], []⟩ [.ref a] [.ref a] _ E hr.in1 I.env0.in1 (by
    have z := hb s [.ref a] I.kIn (by simpa using hl)
    simpa using z) (.cons rfl .nil) q) fun r s' hq => ?_)
  cases r with
  | error e => exact hx pins σ H s e s' I hq
  | ok fl =>
    cases fl with
    | ret w =>
      obtain ⟨z, H', I', rz, i, ei, i0, i1, qz⟩ := I.after hq
      subst ei
      obtain ⟨t, rfl⟩ := (show ∃ t, w = Value.int i t from rz)
      exact ⟨⟨i0, i1⟩, .int i, H', I'.tok _, ⟨_, rfl⟩, qz⟩
    | next => exact False.elim hq
    | brk => exact False.elim hq
    | cont => exact False.elim hq
def rEqOwn (C : Addr) (sp : Sp) (E : XK) (neg : Bool) : R2 := fun x y H Q => ∃ a dx fs b dy gs, x = .ref a ∧ y = .ref b ∧ H a = some (.ins C dx fs) ∧ H b = some (.ins C dy gs) ∧ sp [.ref a, .ref b] H (fun z H' => ∃ c : Bool, z = .bl c ∧ Q (.bl (if neg then !c else c)) H') E
theorem own_run (F : FnOk X.prog X.w X.K X.mg X.base CX n f fd ps sp) {A : Around} (hr : Room n A) (hfr : A.frames = X.A.frames) (hb : Binds X.K fd ps []) (hx : Passes CX X E) {pins : List (Addr × Obj)} {s : Shared} {σ : L2.St} {H : Hp} {a b : Addr} {Q : Bool → Hp → Prop} (I : L2.Inv X pins σ H s)
    (q : sp [.ref a, .ref b] H (fun z H' => ∃ c : Bool, z = .bl c ∧ Q c H') E) : wpAny (model X.prog X.w) A (call (.ref f) [.ref a, .ref b]) (fun v s' => ∃ (c : Bool) (H' : Hp), v = .bool c ∧ L2.Inv X pins σ H' s' ∧ Q c H') X.xe s := by
  have hl := F.len _ _ _ _ q
  have e0 : Env0 X.prog X.w X.K X.mg X.base A X.stack s H := by
    have e := I.env0
    exact ⟨by rw [hfr]; exact e.frames, e.mod, e.bs, e.bsz, e.funs, e.frf, e.hok, e.bare⟩
  refine wpAny_call (codeAny_mono (F.run A X.stack s H ⟨[.ref a, .ref b], []⟩ [.ref a, .ref b] [.ref a, .ref b] _ E hr e0 (by
    have z := hb s [.ref a, .ref b] I.kIn (by simpa using hl)
    simpa using z) (.cons rfl (.cons rfl .nil)) q) fun r s' hq => ?_)
  cases r with
  | error e => exact hx pins σ H s e s' I hq
  | ok fl =>
    cases fl with
    | ret w =>
      obtain ⟨z, H', I', rz, c, ec, qc⟩ := I.after hq
      subst ec
      obtain rfl : w = Value.bool c := rz
      exact ⟨c, H', rfl, I', qc⟩
    | next => exact False.elim hq
    | brk => exact False.elim hq
    | cont => exact False.elim hq
theorem o_eqOwn (hs : PySem.W.findIn X.K (.ref C) "__eq__" = some (some (.ref f))) (hf : PySem.W.isFn X.K (.ref f) = true) (F : FnOk X.prog X.w X.K X.mg X.base CX n f fd ps sp) (hr : Room n X.A) (hb : Binds X.K fd ps []) (hx : Passes CX X E) : OpR X (compareOp .Eq) (rEqOwn C sp E false) := by
  intro pins s σ H x y v u Q I rx ry h
  obtain ⟨a, dx, fs, b, dy, gs, rfl, rfl, ha, hb', q⟩ := h
  cases rx
  cases ry
  obtain ⟨mA, J, _⟩ := ins_get I.hok ha
  obtain ⟨mB, J', _⟩ := ins_get I.hok hb'
  obtain ⟨od, J, _⟩ := J.look
  obtain ⟨od', J', _⟩ := J'.look
  obtain ⟨m, hF⟩ := I.fr
  show wpAny _ _ (richCompare .Eq (.ref a) (.ref b)) _ _ _
  refine PySem.W.cmp_K (op := .Eq) (tb := .ref C) hr.units0 hF I.ok.mod.kin J J'.type (by simp [PySem.W.notFirst]) hs hf ?_
  refine wpAny_mono (own_run F hr rfl hb hx I q) (fun v s' z => ?_) fun _ _ z => z
  obtain ⟨c, H', rfl, I', qc⟩ := z
  exact ⟨.bl c, H', I', rfl, qc⟩
end
end Bw
set_option Elab.async false
set_option linter.all false
set_option maxRecDepth 100000
set_option maxHeartbeats 4000000
namespace Bw
open PySem PySem.Spec PyProof.Rows L2
section
variable {prog : Program} {w : World} {A : Around} {E : Value → Shared → Prop} {s : Shared} {K : PySem.W.Frag} {x C f : Addr} {ox : Obj} {od : Option Obj} {b : Value}
theorem ifBound_ne {Q : Option Value → Shared → Prop} (X : K.In s.heap) (I : PySem.W.InstAt s.heap x ox C od) (hs : PySem.W.findIn K (.ref C) "__ne__" = some (some (.builtin "object.__ne__")))
    (h : wpAny (model prog w) A (call (.builtin "object.__ne__") [.ref x, b]) (fun v => Q (some v)) E s) : wpAny (model prog w) A (callSpecialIfBound? (.ref x) "__ne__" [b]) Q E s := by
  have S := F.cmp_object.ne
  simp only [callSpecialIfBound?, bindSpecialIfBound?]
  refine wpAny_holding (wpAny_bind (wpAny_bind (wpAny_bind (I.type.here ((PySem.W.looks_findIn X hs).here ?_)))))
  simp only [S.bind]
  refine wpAny_bind (wpAny_askSetting (wpAny_ite ?_))
  have fin : wpAny (model prog w) A (call (.builtin "object.__ne__") ([.ref x] ++ [b]) >>= fun v => pure (some v)) Q E s := wpAny_bind (wpAny_mono h (fun _ _ z => wpAny_pure z) fun _ _ z => z)
  split
  · exact wpAny_bind (wpAny_pure (wpAny_pure fin))
  · exact wpAny_tryCatch (wpAny_bind (wpAny_pure (wpAny_pure fin)))
theorem call_ne {Q : Value → Shared → Prop} (hu : A.units + 1 < cLine) (X : K.In s.heap) (I : PySem.W.InstAt s.heap x ox C od) (hob : PySem.W.mroIn K C (.type "object") = some true) (hs : PySem.W.findIn K (.ref C) "__eq__" = some (some (.ref f))) (hf : PySem.W.isFn K (.ref f) = true)
    (h : wpAny (model prog w) A.in1 (call (.ref f) [.ref x, b]) (fun v s' => ∃ c, v = .bool c ∧ Q (.bool !c) s') E s) : wpAny (model prog w) A (call (.builtin "object.__ne__") [.ref x, b]) Q E s := by
  have sub : PySem.W.Looks (model prog w) s.heap (isInstance (.ref x) (.type "object")) true := I.type.andThen (PySem.W.looks_mroIn X hob)
  refine wpAny_call (codeAny_call_builtin F.cmp_object.ne.plain F.cmpEntry_ne (PySem.W.check_slot F.cmpKind_ne F.cmpSplit_ne sub (F.cmpArgs_ne _ _) ?_))
  unfold Builtin.«object.__ne__»
  have one : wpAny (model prog w) A.in1 (callSpecialIfBound? (.ref x) "__eq__" [b]) (fun r s' => ∃ c, r = some (.bool c) ∧ Q (.bool !c) s') E s := PySem.W.ifBound_K X I hs hf (wpAny_mono h (fun v s' z => by
    obtain ⟨c, rfl, q⟩ := z
    exact ⟨c, rfl, q⟩) fun _ _ z => z)
  repeat (first | with_reducible refine wpAny_cRoomFor hu ?_ | (with_reducible refine wpAny_mono one (fun r s' z => ?_) (fun _ _ e => e); obtain ⟨c, rfl, q⟩ := z) | wp_step)
  exact q
theorem rich_ne {Q : Value → Shared → Prop} (hu : A.units + 1 < cLine) (X : K.In s.heap) (I : PySem.W.InstAt s.heap x ox C od) (hb : PySem.W.Looks (model prog w) s.heap (typeOf b) (.ref C)) (hob : PySem.W.mroIn K C (.type "object") = some true)
    (hn : PySem.W.findIn K (.ref C) "__ne__" = some (some (.builtin "object.__ne__"))) (hs : PySem.W.findIn K (.ref C) "__eq__" = some (some (.ref f))) (hf : PySem.W.isFn K (.ref f) = true)
    (h : wpAny (model prog w) A.in1 (call (.ref f) [.ref x, b]) (fun v s' => ∃ c, v = .bool c ∧ Q (.bool !c) s') E s) : wpAny (model prog w) A (richCompare .NotEq (.ref x) b) Q E s := by
  have one : wpAny (model prog w) A (tryCompare (.ref x) (cmpInfo .NotEq).2.1 b) (fun r s' => ∃ c : Bool, r = some (.bool !c) ∧ Q (.bool !c) s') E s := by
    unfold tryCompare
    have two : wpAny (model prog w) A (call (.builtin "object.__ne__") [.ref x, b]) (fun v s' => ∃ c : Bool, v = .bool !c ∧ Q (.bool !c) s') E s := by
      refine call_ne hu X I hob hs hf (wpAny_mono h (fun v s' z => ?_) fun _ _ z => z)
      obtain ⟨c, e, q⟩ := z
      exact ⟨c, e, c, rfl, q⟩
    refine wpAny_bind (ifBound_ne X I hn (wpAny_mono two (fun v s' y => ?_) fun _ _ y => y))
    obtain ⟨c, rfl, q⟩ := y
    exact wpAny_pure ⟨c, rfl, q⟩
  unfold richCompare
  simp only [oneThing_ref]
  refine wpAny_holding (wpAny_bind (wpAny_cRoomFor (by omega) ?_))
  refine wpAny_bind (I.type.here (wpAny_bind (hb.here ?_)))
  split
  · rename_i q
    simp at q
  · refine wpAny_bind (wpAny_pure ?_)
    simp only [Bool.false_eq_true, if_false]
    refine wpAny_bind (wpAny_mono one (fun r s' z => ?_) fun _ _ e => e)
    obtain ⟨c, rfl, hq⟩ := z
    exact wpAny_pure hq
end
section
variable {X : Cx} {CX : CXT} {C f : Addr} {fd : FuncData} {ps : List Str} {sp : Sp} {n : Nat} {E : XK}
theorem o_neOwn (hob : PySem.W.mroIn X.K C (.type "object") = some true) (hn : PySem.W.findIn X.K (.ref C) "__ne__" = some (some (.builtin "object.__ne__"))) (hs : PySem.W.findIn X.K (.ref C) "__eq__" = some (some (.ref f))) (hf : PySem.W.isFn X.K (.ref f) = true)
    (F : FnOk X.prog X.w X.K X.mg X.base CX n f fd ps sp) (hr : Room (n + 1) X.A) (hb : Binds X.K fd ps []) (hx : Passes CX X E) : OpR X (compareOp .NotEq) (rEqOwn C sp E true) := by
  intro pins s σ H x y v u Q I rx ry h
  obtain ⟨a, dx, fs, b, dy, gs, rfl, rfl, ha, hb', q⟩ := h
  cases rx
  cases ry
  obtain ⟨mA, J, _⟩ := ins_get I.hok ha
  obtain ⟨mB, J', _⟩ := ins_get I.hok hb'
  obtain ⟨od, J, _⟩ := J.look
  obtain ⟨od', J', _⟩ := J'.look
  show wpAny _ _ (richCompare .NotEq (.ref a) (.ref b)) _ _ _
  have hu : X.A.units + 1 < cLine := by
    have z := hr.un
    omega
  refine rich_ne hu I.kIn J J'.type hob hn hs hf (wpAny_mono (own_run F hr.in1 rfl hb hx I q) (fun v s' z => ?_) fun _ _ z => z)
  obtain ⟨c, H', rfl, I', qc⟩ := z
  exact ⟨c, rfl, .bl !c, H', I', rfl, qc⟩
end
end Bw
set_option Elab.async false
set_option linter.all false
set_option maxRecDepth 100000
set_option maxHeartbeats 4000000
namespace Bw
open PySem PySem.Spec PyProof.Rows L2
/-! ### zip of a list and a tuple, either way about: by what is asked of one side -/
structure Src (P : Program) (w : World) (i l : Addr) (St : Nat → Heap → Prop) (Sq : Array Value → Heap → Prop) : Prop where
  obj : ∀ k h, St k h → ∃ o, h.get? i = some o ∧ ∀ v, o.data ≠ .cell v
  keep : ∀ k h h', St k h → (∀ o, h.get? i = some o → h'.get? i = some o) → St k h'
  keepS : ∀ xs h h', Sq xs h → (∀ o, h.get? l = some o → h'.get? l = some o) → Sq xs h'
  item : ∀ (A : Around) (E : Value → Shared → Prop) (s : Shared) (k : Nat) (xs : Array Value) (x : Value) (Q : Value → Shared → Prop), St k s.heap → Sq xs s.heap → xs[k]? = some x →
    (∀ h', St (k + 1) h' → Heap.SameBut i s.heap h' → Q x { s with heap := h' }) → wpAny (model P w) A (Builtin.SmallTypes.nextOf (.ref i)) Q E s
  fin : ∀ (A : Around) (E : Value → Shared → Prop) (s : Shared) (k : Nat) (xs : Array Value) (Q : Value → Shared → Prop), A.handled = none → St k s.heap → Sq xs s.heap → xs[k]? = none →
    (∀ h' e, Heap.ExtBut i s.heap h' → (∃ o, h'.get? e = some o ∧ o.cls = .type "StopIteration") → E (.ref e) { s with heap := h' }) → wpAny (model P w) A (Builtin.SmallTypes.nextOf (.ref i)) Q E s
theorem src_list {P : Program} {w : World} {i l : Addr} : Src P w i l (fun k h => h.IsListIter i l k) (fun xs h => h.IsList l xs) where
  obj := fun k h st => by
    obtain ⟨o, e, _, d⟩ := st
    exact ⟨o, e, fun v q => by rw [d] at q; cases q⟩
  keep := fun k h h' st kp => st.at kp
  keepS := fun xs h h' st kp => st.at kp
  item := fun A E s k xs x Q st sq hx q => wpAny_nextOf_list_item st sq hx q
  fin := fun A E s k xs Q hh st sq hx q => wpAny_nextOf_list_end hh st sq hx q
theorem src_tup {P : Program} {w : World} {i l : Addr} : Src P w i l (fun k h => h.IsTupleIter i l k) (fun xs h => h.IsTuple l xs) where
  obj := fun k h st => by
    obtain ⟨o, e, _, d⟩ := st
    exact ⟨o, e, fun v q => by rw [d] at q; cases q⟩
  keep := fun k h h' st kp => st.at kp
  keepS := fun xs h h' st kp => by
    obtain ⟨o, e, z⟩ := st
    exact ⟨o, kp o e, z⟩
  item := fun A E s k xs x Q st sq hx q => RZ.nextOf_tuple_item st sq hx q
  fin := fun A E s k xs Q hh st sq hx q => RZ.nextOf_tuple_end hh st sq hx q
section
variable {P : Program} {w : World} {A : Around} {E : Value → Shared → Prop} {s : Shared} {z TI TO i1 i2 l1 l2 : Addr} {U1 U2 : Nat → Heap → Prop} {Z1 Z2 : Array Value → Heap → Prop}
theorem zipG_item {k : Nat} {xs ys : Array Value} {x y a b : Value} {Q : Value → Shared → Prop} (S1 : Src P w i1 l1 U1 Z1) (S2 : Src P w i2 l2 U2 Z2) (D : ZipApart z TI TO i1 i2 l1 l2)
    (hz : IsZip s.heap z TI TO .none) (hTI : IsPair s.heap TI (.ref i1) (.ref i2)) (hTO : IsPair s.heap TO a b) (h1 : U1 k s.heap) (h2 : U2 k s.heap) (hl1 : Z1 xs s.heap) (hl2 : Z2 ys s.heap) (hx : xs[k]? = some x) (hy : ys[k]? = some y)
    (hQ : ∀ h', IsZip h' z TI TO (rawInt s.heap.objs.size) → IsPair h' TO x y → U1 (k + 1) h' → U2 (k + 1) h' → IsPair h' s.heap.objs.size x y →
      (∀ c o, c ≠ z → c ≠ TO → c ≠ i1 → c ≠ i2 → s.heap.get? c = some o → h'.get? c = some o) → Q (.ref s.heap.objs.size) { s with heap := h' }) :
    wpAny (model P w) A (Builtin.«zip.__next__» ⟨[.ref z], []⟩) (fun fin s' => ∃ v, fin = .done (.ret v) ∧ Q v s') E s := by
  show wpAny _ _ (field (Value.ref z) 2 >>= _) _ _ _
  refine wpAny_bind (wpAny_field hz (rfl) (x := .bool false) rfl ?_); show wpAny _ _ (field (Value.ref z) 3 >>= _) _ _ _
  refine wpAny_bind (wpAny_field hz (rfl) (x := .ref TI) rfl ?_); refine wpAny_bind (wpAny_seqItems hTI (rfl) ?_)
  show wpAny _ _ (Builtin.SmallTypes.ownedTupleIsFree (Value.ref z) >>= _) _ _ _
  refine wpAny_bind ?_; unfold Builtin.SmallTypes.ownedTupleIsFree
  refine wpAny_bind (wpAny_field hz (rfl) (x := .none) rfl (wpAny_pure ?_)); simp only [if_true]
  refine wpAny_bind (wpAny_rule ?_); refine wpAny_bind (wpAny_field hz (rfl) (x := .ref TO) rfl ?_)
  refine wpAny_bind (wpAny_setField_rec hz (by simp) fun g1 z1 b1 => ?_); replace z1 : IsZip g1 z TI TO .ellipsis := z1
  refine wpAny_bind ?_; simp only [List.zipIdx_cons, List.zipIdx_nil, List.forIn_cons, List.forIn_nil]
  refine wpAny_bind (wpAny_bind (wpAny_onRaise ?_)); show wpAny _ _ (Builtin.SmallTypes.nextOf (Value.ref i1) >>= _) _ _ _
  refine wpAny_bind (S1.item _ _ _ k xs x _ (S1.keep _ _ _ h1 fun o e => b1.extBut _ _ D.i1z e) (S1.keepS _ _ _ hl1 fun o e => b1.extBut _ _ D.l1z e) hx fun g2 u1 b2 => wpAny_pure ?_)
  have p2 : IsPair g2 TO a b := b2.extBut _ _ D.TOi1 (b1.extBut _ _ D.TOz hTO)
  refine wpAny_bind (wpAny_seqItems p2 (rfl) ?_); refine wpAny_bind (wpAny_updateSeq_pair p2 fun g3 p3 b3 => ?_); replace p3 : IsPair g3 TO x b := p3
  refine wpAny_bind (wpAny_letGo (wpAny_pure ?_)); refine wpAny_bind (wpAny_bind (wpAny_onRaise ?_)); show wpAny _ _ (Builtin.SmallTypes.nextOf (Value.ref i2) >>= _) _ _ _
  refine wpAny_bind (S2.item _ _ _ k ys y _ (S2.keep _ _ _ h2 fun o e => b3.extBut _ _ D.TOi2.symm (b2.extBut _ _ D.i12.symm (b1.extBut _ _ D.i2z e)))
    (S2.keepS _ _ _ hl2 fun o e => b3.extBut _ _ D.l2TO (b2.extBut _ _ D.l2i1 (b1.extBut _ _ D.l2z e))) hy fun g4 u2 b4 => wpAny_pure ?_)
  have p4 : IsPair g4 TO x b := b4.extBut _ _ D.TOi2 p3
  refine wpAny_bind (wpAny_seqItems p4 (rfl) ?_); refine wpAny_bind (wpAny_updateSeq_pair p4 fun g5 p5 b5 => ?_); replace p5 : IsPair g5 TO x y := p5
  refine wpAny_bind (wpAny_letGo (wpAny_pure (wpAny_pure ?_))); refine wpAny_bind (wpAny_seqItems p5 (rfl) ?_); refine wpAny_bind (wpAny_newTuple ?_)
  have sz : g5.objs.size = s.heap.objs.size := by rw [b5.1, b4.1, b3.1, b2.1, b1.1]
  have z5 : IsZip g5 z TI TO .ellipsis := b5.extBut _ _ D.TOz.symm (b4.extBut _ _ D.i2z.symm (b3.extBut _ _ D.TOz.symm (b2.extBut _ _ D.i1z.symm z1)))
  have k5 : ∀ c o, c ≠ z → c ≠ TO → c ≠ i1 → c ≠ i2 → s.heap.get? c = some o → g5.get? c = some o := fun c o c1 c2 c3 c4 e => b5.extBut _ _ c2 (b4.extBut _ _ c4 (b3.extBut _ _ c2 (b2.extBut _ _ c3 (b1.extBut _ _ c1 e))))
  have v1 : U1 (k + 1) g5 := S1.keep _ _ _ u1 fun o e => b5.extBut _ _ D.TOi1.symm (b4.extBut _ _ D.i12 (b3.extBut _ _ D.TOi1.symm e))
  have v2 : U2 (k + 1) g5 := S2.keep _ _ _ u2 fun o e => b5.extBut _ _ D.TOi2.symm e
  have zl : z < g5.objs.size := Heap.lt_size z5
  show wpAny _ _ (Builtin.SmallTypes.ownedTupleHandOut (Value.ref z) (.ref g5.objs.size) >>= _) _ _ _
  refine wpAny_bind ?_; unfold Builtin.SmallTypes.ownedTupleHandOut
  have z6 : IsZip (g5.push { cls := .type "tuple", data := .seq #[x, y] }) z TI TO .ellipsis := Heap.get?_push_of_some _ z5
  refine wpAny_bind (wpAny_setField_rec z6 (by simp) fun g7 z7 b7 => ?_); replace z7 : IsZip g7 z TI TO (rawInt g5.objs.size) := z7
  refine wpAny_setField_rec z7 (by simp) fun g8 z8 b8 => ?_; replace z8 : IsZip g8 z TI TO (rawInt g5.objs.size) := z8
  have up : ∀ c o, c ≠ z → g5.get? c = some o → g8.get? c = some o := fun c o c1 e => b8.extBut _ _ c1 (b7.extBut _ _ c1 (Heap.get?_push_of_some _ e))
  have p8 : IsPair g8 g5.objs.size x y := b8.extBut _ _ (Nat.ne_of_gt zl) (b7.extBut _ _ (Nat.ne_of_gt zl) (Heap.get?_push_size _ rfl))
  rw [sz] at z8 p8
  refine wpAny_pure ⟨_, rfl, ?_⟩; show Q (.ref g5.objs.size) _; rw [sz]
  exact hQ g8 z8 (up _ _ D.TOz p5) (S1.keep _ _ _ v1 fun o e => up _ o D.i1z e) (S2.keep _ _ _ v2 fun o e => up _ o D.i2z e) p8 fun c o c1 c2 c3 c4 e => up c o c1 (k5 c o c1 c2 c3 c4 e)
theorem zipG_end {k : Nat} {xs ys : Array Value} {a b : Value} {Q : PySem.Fin → Shared → Prop} (S1 : Src P w i1 l1 U1 Z1) (S2 : Src P w i2 l2 U2 Z2) (hh : A.handled = none) (D : ZipApart z TI TO i1 i2 l1 l2)
    (hz : IsZip s.heap z TI TO .none) (hTI : IsPair s.heap TI (.ref i1) (.ref i2)) (hTO : IsPair s.heap TO a b) (h1 : U1 k s.heap) (h2 : U2 k s.heap) (hl1 : Z1 xs s.heap) (hl2 : Z2 ys s.heap) (hend : xs[k]? = none ∨ ys[k]? = none)
    (hE : ∀ h' e, (∀ c o, c ≠ z → c ≠ TO → c ≠ i1 → c ≠ i2 → s.heap.get? c = some o → h'.get? c = some o) → (∃ o, h'.get? e = some o ∧ o.cls = .type "StopIteration") → E (.ref e) { s with heap := h' }) :
    wpAny (model P w) A (Builtin.«zip.__next__» ⟨[.ref z], []⟩) Q E s := by
  show wpAny _ _ (field (Value.ref z) 2 >>= _) _ _ _
  refine wpAny_bind (wpAny_field hz (rfl) (x := .bool false) rfl ?_); show wpAny _ _ (field (Value.ref z) 3 >>= _) _ _ _
  refine wpAny_bind (wpAny_field hz (rfl) (x := .ref TI) rfl ?_); refine wpAny_bind (wpAny_seqItems hTI (rfl) ?_)
  show wpAny _ _ (Builtin.SmallTypes.ownedTupleIsFree (Value.ref z) >>= _) _ _ _
  refine wpAny_bind ?_; unfold Builtin.SmallTypes.ownedTupleIsFree
  refine wpAny_bind (wpAny_field hz (rfl) (x := .none) rfl (wpAny_pure ?_)); simp only [if_true]
  refine wpAny_bind (wpAny_rule ?_); refine wpAny_bind (wpAny_field hz (rfl) (x := .ref TO) rfl ?_)
  refine wpAny_bind (wpAny_setField_rec hz (by simp) fun g1 z1 b1 => ?_); replace z1 : IsZip g1 z TI TO .ellipsis := z1
  refine wpAny_bind ?_; simp only [List.zipIdx_cons, List.zipIdx_nil, List.forIn_cons, List.forIn_nil]
  refine wpAny_bind (wpAny_bind (wpAny_onRaise ?_)); show wpAny _ _ (Builtin.SmallTypes.nextOf (Value.ref i1) >>= _) _ _ _
  have j1 : U1 k g1 := S1.keep _ _ _ h1 fun o e => b1.extBut _ _ D.i1z e
  have m1 : Z1 xs g1 := S1.keepS _ _ _ hl1 fun o e => b1.extBut _ _ D.l1z e
  cases hx : xs[k]? with
  | none =>
    refine wpAny_bind (S1.fin _ _ _ k xs _ hh j1 m1 hx fun g2 e b2 he => ?_); obtain ⟨oe, hoe, hce⟩ := he
    have z2 : IsZip g2 z TI TO .ellipsis := b2 _ _ D.i1z.symm z1
    have ez : e ≠ z := fun q => by subst q; rw [z2] at hoe; cases hoe; simp at hce
    refine wpAny_setField_rec z2 (by simp) fun g3 _ b3 => hE g3 e (fun c o c1 _ c3 _ q => b3.extBut _ _ c1 (b2 _ _ c3 (b1.extBut _ _ c1 q))) ⟨oe, b3.extBut _ _ ez hoe, hce⟩
  | some x =>
    have hy : ys[k]? = none := by
      rcases hend with h | h
      · rw [hx] at h; cases h
      · exact h
    refine wpAny_bind (S1.item _ _ _ k xs x _ j1 m1 hx fun g2 u1 b2 => wpAny_pure ?_)
    have p2 : IsPair g2 TO a b := b2.extBut _ _ D.TOi1 (b1.extBut _ _ D.TOz hTO)
    refine wpAny_bind (wpAny_seqItems p2 (rfl) ?_); refine wpAny_bind (wpAny_updateSeq_pair p2 fun g3 p3 b3 => ?_)
    refine wpAny_bind (wpAny_letGo (wpAny_pure ?_)); refine wpAny_bind (wpAny_bind (wpAny_onRaise ?_)); show wpAny _ _ (Builtin.SmallTypes.nextOf (Value.ref i2) >>= _) _ _ _
    refine wpAny_bind (S2.fin _ _ _ k ys _ hh (S2.keep _ _ _ h2 fun o e => b3.extBut _ _ D.TOi2.symm (b2.extBut _ _ D.i12.symm (b1.extBut _ _ D.i2z e)))
      (S2.keepS _ _ _ hl2 fun o e => b3.extBut _ _ D.l2TO (b2.extBut _ _ D.l2i1 (b1.extBut _ _ D.l2z e))) hy fun g4 e b4 he => ?_)
    obtain ⟨oe, hoe, hce⟩ := he
    have z4 : IsZip g4 z TI TO .ellipsis := b4 _ _ D.i2z.symm (b3.extBut _ _ D.TOz.symm (b2.extBut _ _ D.i1z.symm z1))
    have ez : e ≠ z := fun q => by subst q; rw [z4] at hoe; cases hoe; simp at hce
    refine wpAny_setField_rec z4 (by simp) fun g5 _ b5 => hE g5 e (fun c o c1 c2 c3 c4 q => b5.extBut _ _ c1 (b4 _ _ c4 (b3.extBut _ _ c2 (b2.extBut _ _ c3 (b1.extBut _ _ c1 q))))) ⟨oe, b5.extBut _ _ ez hoe, hce⟩
end
/-! ### the step of the hand layer -/
/-- how a side is read off the hand layer's heap -/
structure Side (l : Addr) (K : PySem.W.Frag) (R : Hp → List V → Prop) (Sq : Array Value → Heap → Prop) : Prop where
  get : ∀ (X : Cx) (pins : List (Addr × Obj)) (σ : L2.St) (H : Hp) (s : Shared) (xs : List V), X.K = K → L2.Inv X pins σ H s → R H xs → ∃ its : List Value, Vals xs its ∧ Sq its.toArray s.heap ∧ l < s.heap.objs.size
  inj : ∀ (X : Cx) (pins : List (Addr × Obj)) (σ : L2.St) (H : Hp) (s : Shared) (xs ys : List V), X.K = K → L2.Inv X pins σ H s → R H xs → R H ys → xs = ys
theorem side_list {K : PySem.W.Frag} {a : Addr} : Side a K (fun H xs => SqL K H a xs) (fun arr h => h.IsList a arr) where
  get := fun X pins σ H s xs hK I r => by
    subst hK
    obtain ⟨its, rv, p, _⟩ := I.list r
    exact ⟨its, rv, p.isList, p.lt⟩
  inj := fun X pins σ H s xs ys hK I r r' => by
    subst hK
    exact I.list_inj r r'
theorem side_tup {K : PySem.W.Frag} {a : Addr} : Side a K (fun H xs => SqT K H a xs) (fun arr h => h.IsTuple a arr) where
  get := fun X pins σ H s xs hK I r => by
    subst hK
    obtain ⟨its, rv, p, _⟩ := I.tuple r
    obtain ⟨o, ho, _⟩ := id p
    exact ⟨its, rv, p, Heap.lt_size ho⟩
  inj := fun X pins σ H s xs ys hK I r r' => by
    subst hK
    exact I.tuple_inj r r'
def ItzG (R1 R2 : Hp → List V → Prop) : It :=
  ⟨fun i H => ∃ (xs ys : List V) (x y : V), R1 H xs ∧ R2 H ys ∧ xs[i]? = some x ∧ ys[i]? = some y,
    fun i H v H' => ∃ T x y, v = .ref T ∧ H T = none ∧ H' = upd H T (.tup [x, y]) ∧ (∀ xs, R1 H xs → xs[i]? = some x) ∧ ∀ ys, R2 H ys → ys[i]? = some y,
    fun i H => ∃ xs ys : List V, R1 H xs ∧ R2 H ys ∧ (xs.length ≤ i ∨ ys.length ≤ i)⟩
theorem turn_zipG {P : Program} {w : World} {K : PySem.W.Frag} {elts : List Expr} {kk : Nat} {tpos : Pos} {a b z TI TO i1 i2 : Addr} {R1 R2 : Hp → List V → Prop} {U1 U2 : Nat → Heap → Prop} {Z1 Z2 : Array Value → Heap → Prop}
    (S1 : Src P w i1 a U1 Z1) (S2 : Src P w i2 b U2 Z2) (L1 : Side a K R1 Z1) (L2' : Side b K R2 Z2) (D : ZipApart z TI TO i1 i2 a b) :
    Turn P w K (.Tuple elts kk tpos) (ItzG R1 R2) [z, TI, TO, i1, i2] z (fun i h => IsZip h z TI TO .none ∧ IsPair h TI (.ref i1) (.ref i2) ∧ (∃ x y, IsPair h TO x y) ∧ U1 i h ∧ U2 i h) where
  mem := by simp
  obj := fun i h st c hc => by
    obtain ⟨hz, hTI, ⟨x, y, hTO⟩, e1, e2⟩ := st
    have e' : c = z ∨ c = TI ∨ c = TO ∨ c = i1 ∨ c = i2 := by simpa using hc
    rcases e' with rfl | rfl | rfl | rfl | rfl
    · exact ⟨_, hz, fun v q => nomatch q⟩
    · exact ⟨_, hTI, fun v q => nomatch q⟩
    · exact ⟨_, hTO, fun v q => nomatch q⟩
    · exact S1.obj _ _ e1
    · exact S2.obj _ _ e2
  keep := fun i h h' st k => by
    obtain ⟨hz, hTI, ⟨x, y, hTO⟩, h1, h2⟩ := st
    exact ⟨k z (by simp) _ hz, k TI (by simp) _ hTI, ⟨x, y, k TO (by simp) _ hTO⟩, S1.keep _ _ _ h1 (k i1 (by simp)), S2.keep _ _ _ h2 (k i2 (by simp))⟩
  item := by
    intro X hP hw hK hc i pins s σ H E I hf st hg
    obtain ⟨hz, hTI, ⟨x0, y0, hTO⟩, h1, h2⟩ := st
    obtain ⟨xs, ys, x, y, hqx, hqy, hx, hy⟩ := hg
    obtain ⟨its, rv, p, _⟩ := L1.get X pins σ H s xs hK I hqx
    obtain ⟨its2, rv2, p2, _⟩ := L2'.get X pins σ H s ys hK I hqy
    obtain ⟨u, hu, ru⟩ := rv.get hx
    obtain ⟨u2, hu2, ru2⟩ := rv2.get hy
    have hzl : z < s.heap.objs.size := Heap.lt_size hz
    have hT : s.TypeIs (.ref z) "zip" := ⟨_, hz, rfl⟩
    unfold pyNext
    refine wpAny_bind (wpAny_attempt (wpAny_callSpecial?_slot (name := Str.ofString "__next__") hT F.slot_zip_next (wpAny_call_entry F.slot_zip_next hT F.entry_zip_next
      (zipG_item S1 S2 D hz hTI hTO h1 h2 p p2 (x := u) (y := u2) (by simpa using hu) (by simpa using hu2) fun h' z' TO' h1' h2' hT' hk => wpAny_pure ?_) (F.args_zip_next_1 _))))
    refine ⟨_, rfl, wpAny_letOwnedTupleGo_zip (s := { s with heap := h' }) z' fun h'' z'' sb => ?_⟩
    have hT2 : h''.get? s.heap.objs.size = some { cls := .type "tuple", data := .seq #[u, u2] } := ((sb.2 _ (Nat.ne_of_gt hzl)).trans hT')
    subst hP hw hK
    have new : ObjOk X.prog X.w (upd H s.heap.objs.size (.tup [x, y])) h'' s.heap.objs.size (.tup [x, y]) := ⟨by show 2 ≤ sizeLine; decide, [u, u2], .cons ru (.cons ru2 .nil), ⟨_, hT2, rfl, _, rfl⟩⟩
    have kk' : ∀ (c : Addr) (o : Obj), c ∉ [z, TI, TO, i1, i2] → s.heap.get? c = some o → h''.get? c = some o := fun c o hb q => (sb.2 c (fun q' => hb (by simp [q']))).trans (hk c o (fun q' => hb (by simp [q'])) (fun q' => hb (by simp [q'])) (fun q' => hb (by simp [q'])) (fun q' => hb (by simp [q'])) q)
    have I1 : L2.Inv X pins σ (upd H s.heap.objs.size (.tup [x, y])) { s with heap := h'' } := I.turnedNew (t' := s.toks) (ch := [z, TI, TO, i1, i2]) kk' hf (Nat.le_refl _) new
    refine ⟨.ref s.heap.objs.size, _, I1, rfl, ⟨_, x, y, rfl, I.hok.fresh (Nat.le_refl _), rfl, fun l hl => ?_, fun l hl => ?_⟩, ⟨z'', ?_, ⟨u, u2, ?_⟩, ?_, ?_⟩, fun c hcm => ?_⟩
    · rw [L1.inj X pins σ H s l xs rfl I hl hqx]
      exact hx
    · rw [L2'.inj X pins σ H s l ys rfl I hl hqy]
      exact hy
    · exact (sb.2 _ D.TIz).trans ((hk _ _ D.TIz D.TITO D.TIi1 D.TIi2 hTI))
    · exact (sb.2 _ D.TOz).trans TO'
    · exact S1.keep _ _ _ h1' fun o q => (sb.2 _ D.i1z).trans q
    · exact S2.keep _ _ _ h2' fun o q => (sb.2 _ D.i2z).trans q
    · have hlt : c < s.heap.objs.size := by
        have e' : c = z ∨ c = TI ∨ c = TO ∨ c = i1 ∨ c = i2 := by simpa using hcm
        rcases e' with rfl | rfl | rfl | rfl | rfl
        · exact hzl
        · exact Heap.lt_size hTI
        · exact Heap.lt_size hTO
        · obtain ⟨_, e1, _⟩ := S1.obj _ _ h1; exact Heap.lt_size e1
        · obtain ⟨_, e2, _⟩ := S2.obj _ _ h2; exact Heap.lt_size e2
      rw [upd_ne (Nat.ne_of_lt hlt)]
      exact (hf c hcm).1
  done := by
    intro X hP hw hK hc i pins s σ H E I hf st hg
    obtain ⟨hz, hTI, ⟨x0, y0, hTO⟩, h1, h2⟩ := st
    obtain ⟨xs, ys, hqx, hqy, hend⟩ := hg
    obtain ⟨its, rv, p, _⟩ := L1.get X pins σ H s xs hK I hqx
    obtain ⟨its2, rv2, p2, _⟩ := L2'.get X pins σ H s ys hK I hqy
    have l1 := rv.length
    have l2 := rv2.length
    have he : its.toArray[i]? = none ∨ its2.toArray[i]? = none := by
      rcases hend with q | q
      · exact .inl (by simp; omega)
      · exact .inr (by simp; omega)
    have hT : s.TypeIs (.ref z) "zip" := ⟨_, hz, rfl⟩
    unfold pyNext
    refine wpAny_bind (wpAny_attempt (wpAny_callSpecial?_slot (name := Str.ofString "__next__") hT F.slot_zip_next
      (wpAny_call_entry F.slot_zip_next hT F.entry_zip_next (zipG_end S1 S2 (I.ok.hd hc) D hz hTI hTO h1 h2 p p2 he fun h' e hk he => ?_) (F.args_zip_next_1 _))))
    obtain ⟨o, ho, hc'⟩ := he
    refine wpAny_bind (wpAny_isInstance (T := "StopIteration") (b := true) ⟨o, ho, hc'⟩ isSubtype_stop ?_)
    refine wpAny_pure ⟨rfl, I.turnedL (t' := s.toks) (ch := [z, TI, TO, i1, i2]) (fun c o hb q => hk c o (fun q' => hb (by simp [q'])) (fun q' => hb (by simp [q'])) (fun q' => hb (by simp [q'])) (fun q' => hb (by simp [q'])) q) hf⟩
  self := fun A i s Q E st h => wpAny_pyIter_zip st.1 h
/-! ### zip of a tuple and a list made -/
abbrev zTL1 (h : Heap) (l1 : Addr) : Heap := h.push { cls := .type "tuple_iterator", data := .fields #[.ref l1, .int 0 0] }
abbrev zTL2 (h : Heap) (l1 l2 : Addr) : Heap := (zTL1 h l1).push { cls := .type "list_iterator", data := .fields #[.ref l2, .int 0 0] }
abbrev zTL3 (h : Heap) (l1 l2 : Addr) : Heap := (zTL2 h l1 l2).push { cls := .type "tuple", data := .seq #[.ref h.objs.size, .ref (zTL1 h l1).objs.size] }
abbrev zTL4 (h : Heap) (l1 l2 : Addr) : Heap := (zTL3 h l1 l2).push { cls := .type "tuple", data := .seq #[.none, .none] }
abbrev zTL5 (h : Heap) (l1 l2 : Addr) : Heap := (zTL4 h l1 l2).push { cls := .type "zip", data := .fields #[.none, .bool false, .bool false, .ref (zTL2 h l1 l2).objs.size, .ref (zTL3 h l1 l2).objs.size] }
abbrev zLT1 (h : Heap) (l1 : Addr) : Heap := h.push { cls := .type "list_iterator", data := .fields #[.ref l1, .int 0 0] }
abbrev zLT2 (h : Heap) (l1 l2 : Addr) : Heap := (zLT1 h l1).push { cls := .type "tuple_iterator", data := .fields #[.ref l2, .int 0 0] }
abbrev zLT3 (h : Heap) (l1 l2 : Addr) : Heap := (zLT2 h l1 l2).push { cls := .type "tuple", data := .seq #[.ref h.objs.size, .ref (zLT1 h l1).objs.size] }
abbrev zLT4 (h : Heap) (l1 l2 : Addr) : Heap := (zLT3 h l1 l2).push { cls := .type "tuple", data := .seq #[.none, .none] }
abbrev zLT5 (h : Heap) (l1 l2 : Addr) : Heap := (zLT4 h l1 l2).push { cls := .type "zip", data := .fields #[.none, .bool false, .bool false, .ref (zLT2 h l1 l2).objs.size, .ref (zLT3 h l1 l2).objs.size] }
theorem new_zTL (l1 l2 : Addr) (xs ys : Array Value) : Meets (Builtin.«zip.__new__» ⟨[.type "zip", .ref l1, .ref l2], []⟩) (fun _ R s => s.heap.IsTuple l1 xs ∧ s.heap.IsList l2 ys ∧ R (.ok (.ret (.ref (zTL4 s.heap l1 l2).objs.size))) { s with heap := zTL5 s.heap l1 l2 }) :=
  .of_wp fun prog w A R s h => by
    obtain ⟨hp, g, d, tk, os⟩ := s
    obtain ⟨k1, k2, h⟩ := h
    have hsub := sub_zip
    have e1 : Heap.IsTuple (Shared.heap ⟨hp, g, d, tk, os⟩) l1 xs := k1
    have e2 : Heap.IsList (Shared.heap ⟨hp.push { cls := .type "tuple_iterator", data := .fields #[.ref l1, .int 0 0] }, g, d, tk, os⟩) l2 ys := Heap.IsList.push k2 _
    wp_walk using wpAny_pyIter_tuple e1, wpAny_pyIter_list e2
    exact ⟨_, rfl, h⟩
theorem new_zLT (l1 l2 : Addr) (xs ys : Array Value) : Meets (Builtin.«zip.__new__» ⟨[.type "zip", .ref l1, .ref l2], []⟩) (fun _ R s => s.heap.IsList l1 xs ∧ s.heap.IsTuple l2 ys ∧ R (.ok (.ret (.ref (zLT4 s.heap l1 l2).objs.size))) { s with heap := zLT5 s.heap l1 l2 }) :=
  .of_wp fun prog w A R s h => by
    obtain ⟨hp, g, d, tk, os⟩ := s
    obtain ⟨k1, k2, h⟩ := h
    have hsub := sub_zip
    have e1 : Heap.IsList (Shared.heap ⟨hp, g, d, tk, os⟩) l1 xs := k1
    have e2 : Heap.IsTuple (Shared.heap ⟨hp.push { cls := .type "list_iterator", data := .fields #[.ref l1, .int 0 0] }, g, d, tk, os⟩) l2 ys := Heap.IsTuple.push k2 _
    wp_walk using wpAny_pyIter_list e1, wpAny_pyIter_tuple e2
    exact ⟨_, rfl, h⟩
section
variable {P : Program} {w : World} {A : Around} {E : Value → Shared → Prop} {s : Shared}
theorem call_zTL {l1 l2 : Addr} {xs ys : Array Value} {Q : Value → Shared → Prop} (k1 : s.heap.IsTuple l1 xs) (k2 : s.heap.IsList l2 ys)
    (h : ∀ h', IsZip h' (s.heap.objs.size + 4) (s.heap.objs.size + 2) (s.heap.objs.size + 3) .none → IsPair h' (s.heap.objs.size + 2) (.ref s.heap.objs.size) (.ref (s.heap.objs.size + 1)) → IsPair h' (s.heap.objs.size + 3) .none .none →
      h'.IsTupleIter s.heap.objs.size l1 0 → h'.IsListIter (s.heap.objs.size + 1) l2 0 → (∀ c o, s.heap.get? c = some o → h'.get? c = some o) → Q (.ref (s.heap.objs.size + 4)) { s with heap := h' }) :
    wpAny (model P w) A (call (.type "zip") [.ref l1, .ref l2]) Q E s := by
  refine callType_new F.called_zip (by decide) (F.typeCall_zip_2 _ _) (F.newCall_zip_2 _ _) (fun obj => F.args_object_init_3 obj _ _) F.entry_zip_new (new_zTL l1 l2 xs ys) ⟨k1, k2, ?_⟩
  have z1 : (zTL1 s.heap l1).objs.size = s.heap.objs.size + 1 := Heap.size_push ..
  have z2 : (zTL2 s.heap l1 l2).objs.size = s.heap.objs.size + 2 := by rw [Heap.size_push, z1]
  have z3 : (zTL3 s.heap l1 l2).objs.size = s.heap.objs.size + 3 := by rw [Heap.size_push, z2]
  have z4 : (zTL4 s.heap l1 l2).objs.size = s.heap.objs.size + 4 := by rw [Heap.size_push, z3]
  have g5 : (zTL5 s.heap l1 l2).get? (zTL4 s.heap l1 l2).objs.size = some _ := Heap.get?_push_size _ rfl
  have g4 : (zTL5 s.heap l1 l2).get? (zTL3 s.heap l1 l2).objs.size = some _ := Heap.get?_push_of_some _ (Heap.get?_push_size _ rfl)
  have g3 : (zTL5 s.heap l1 l2).get? (zTL2 s.heap l1 l2).objs.size = some _ := Heap.get?_push_of_some _ (Heap.get?_push_of_some _ (Heap.get?_push_size _ rfl))
  have g2 : (zTL5 s.heap l1 l2).get? (zTL1 s.heap l1).objs.size = some _ := Heap.get?_push_of_some _ (Heap.get?_push_of_some _ (Heap.get?_push_of_some _ (Heap.get?_push_size _ rfl)))
  have g1 : (zTL5 s.heap l1 l2).get? s.heap.objs.size = some _ := Heap.get?_push_of_some _ (Heap.get?_push_of_some _ (Heap.get?_push_of_some _ (Heap.get?_push_of_some _ (Heap.get?_push_size _ rfl))))
  show _ ∧ _
  rw [z2, z3, z4] at g5; rw [z1, z2] at g3; rw [z3] at g4; rw [z1] at g2; rw [z4]
  exact ⟨⟨_, g5, rfl⟩, h _ g5 g3 g4 ⟨_, g1, rfl, rfl⟩ ⟨_, g2, rfl, rfl⟩ fun c o x => Heap.get?_push_of_some _ (Heap.get?_push_of_some _ (Heap.get?_push_of_some _ (Heap.get?_push_of_some _ (Heap.get?_push_of_some _ x))))⟩
theorem call_zLT {l1 l2 : Addr} {xs ys : Array Value} {Q : Value → Shared → Prop} (k1 : s.heap.IsList l1 xs) (k2 : s.heap.IsTuple l2 ys)
    (h : ∀ h', IsZip h' (s.heap.objs.size + 4) (s.heap.objs.size + 2) (s.heap.objs.size + 3) .none → IsPair h' (s.heap.objs.size + 2) (.ref s.heap.objs.size) (.ref (s.heap.objs.size + 1)) → IsPair h' (s.heap.objs.size + 3) .none .none →
      h'.IsListIter s.heap.objs.size l1 0 → h'.IsTupleIter (s.heap.objs.size + 1) l2 0 → (∀ c o, s.heap.get? c = some o → h'.get? c = some o) → Q (.ref (s.heap.objs.size + 4)) { s with heap := h' }) :
    wpAny (model P w) A (call (.type "zip") [.ref l1, .ref l2]) Q E s := by
  refine callType_new F.called_zip (by decide) (F.typeCall_zip_2 _ _) (F.newCall_zip_2 _ _) (fun obj => F.args_object_init_3 obj _ _) F.entry_zip_new (new_zLT l1 l2 xs ys) ⟨k1, k2, ?_⟩
  have z1 : (zLT1 s.heap l1).objs.size = s.heap.objs.size + 1 := Heap.size_push ..
  have z2 : (zLT2 s.heap l1 l2).objs.size = s.heap.objs.size + 2 := by rw [Heap.size_push, z1]
  have z3 : (zLT3 s.heap l1 l2).objs.size = s.heap.objs.size + 3 := by rw [Heap.size_push, z2]
  have z4 : (zLT4 s.heap l1 l2).objs.size = s.heap.objs.size + 4 := by rw [Heap.size_push, z3]
  have g5 : (zLT5 s.heap l1 l2).get? (zLT4 s.heap l1 l2).objs.size = some _ := Heap.get?_push_size _ rfl
  have g4 : (zLT5 s.heap l1 l2).get? (zLT3 s.heap l1 l2).objs.size = some _ := Heap.get?_push_of_some _ (Heap.get?_push_size _ rfl)
  have g3 : (zLT5 s.heap l1 l2).get? (zLT2 s.heap l1 l2).objs.size = some _ := Heap.get?_push_of_some _ (Heap.get?_push_of_some _ (Heap.get?_push_size _ rfl))
  have g2 : (zLT5 s.heap l1 l2).get? (zLT1 s.heap l1).objs.size = some _ := Heap.get?_push_of_some _ (Heap.get?_push_of_some _ (Heap.get?_push_of_some _ (Heap.get?_push_size _ rfl)))
  have g1 : (zLT5 s.heap l1 l2).get? s.heap.objs.size = some _ := Heap.get?_push_of_some _ (Heap.get?_push_of_some _ (Heap.get?_push_of_some _ (Heap.get?_push_of_some _ (Heap.get?_push_size _ rfl))))
  show _ ∧ _
  rw [z2, z3, z4] at g5; rw [z1, z2] at g3; rw [z3] at g4; rw [z1] at g2; rw [z4]
  exact ⟨⟨_, g5, rfl⟩, h _ g5 g3 g4 ⟨_, g1, rfl, rfl⟩ ⟨_, g2, rfl, rfl⟩ fun c o x => Heap.get?_push_of_some _ (Heap.get?_push_of_some _ (Heap.get?_push_of_some _ (Heap.get?_push_of_some _ (Heap.get?_push_of_some _ x))))⟩
end
def iZipM (K : PySem.W.Frag) (ta : TA) : TI := fun σ H R => ta σ H fun vs H1 => ∃ a b xs ys, vs = [.ref a, .ref b] ∧
  ((SqT K H1 a xs ∧ SqL K H1 b ys ∧ R (ItzG (fun H xs => SqT K H a xs) (fun H xs => SqL K H b xs)) H1) ∨ (SqL K H1 a xs ∧ SqT K H1 b ys ∧ R (ItzG (fun H xs => SqL K H a xs) (fun H xs => SqT K H b xs)) H1))
theorem p_zipM {X : Cx} {K : PySem.W.Frag} {e e2 : Expr} {ta : TA} {p pos tpos : Pos} {elts : List Expr} {kk : Nat} (hg : Gl X "zip") (hm : X.mg "zip" = none) (ha : PA X [e, e2] ta) (hK : X.K = K := by rfl)
    (hs : starEach [e, e2] X.env = (false, eval e X.env) :: starEach [e2] X.env := by rfl) (hpl : (backTo pos (starEach [e2] X.env)).any (·.1) = false := by rfl) : PI X (.Tuple elts kk tpos) (.Call (.Name "zip" p) [e, e2] [] pos) (iZipM K ta) := by
  subst hK
  refine ⟨fun pins s σ H R I h => ?_⟩
  refine Call_ (ld_blt I hg hm PyProof.Rows.boot_zip (PyProof.Rows.callWith_type1 (thn (ha.run pos pins s σ H _ I h) fun us s1 ⟨vs, H1, I1, r1, q1⟩ => ?_) hs hpl))
  obtain ⟨a, b, xs, ys, rfl, q1⟩ := q1
  obtain ⟨u, u', rfl, ru, ru'⟩ : ∃ u u', us = [u, u'] ∧ RelV (.ref a) u ∧ RelV (.ref b) u' := by
    cases r1 with
    | cons r rr =>
      cases rr with
      | cons r' rr =>
        cases rr
        exact ⟨_, _, rfl, r, r'⟩
  cases ru
  cases ru'
  have fresh5 : ∀ c, c ∈ [s1.heap.objs.size + 4, s1.heap.objs.size + 2, s1.heap.objs.size + 3, s1.heap.objs.size, s1.heap.objs.size + 1] → FpOk X pins H1 c := fun c hcm => by
    have hle : s1.heap.objs.size ≤ c := by
      simp only [List.mem_cons, List.not_mem_nil, or_false] at hcm
      omega
    exact I1.fpOk hle (I1.hok.fresh hle)
  rcases q1 with ⟨hqx, hqy, q⟩ | ⟨hqx, hqy, q⟩
  · obtain ⟨its, rv, p1, la⟩ := (side_tup (a := a)).get X pins σ H1 s1 xs rfl I1 hqx
    obtain ⟨its2, rv2, p2, lb⟩ := (side_list (a := b)).get X pins σ H1 s1 ys rfl I1 hqy
    refine call_zTL p1 p2 fun h' hz hTI hTO h1 h2 hk => wpAny_pyIter_zip hz ?_
    have I2 : L2.Inv X pins σ H1 { s1 with heap := h' } := I1.kept (t' := s1.toks) hk
    exact ⟨s1.heap.objs.size + 4, [s1.heap.objs.size + 4, s1.heap.objs.size + 2, s1.heap.objs.size + 3, s1.heap.objs.size, s1.heap.objs.size + 1], _, _, H1, rfl, I2, turn_zipG src_tup src_list side_tup side_list (PySem.W.ktu_apart s1.heap.objs.size a b la lb), ⟨hz, hTI, ⟨_, _, hTO⟩, h1, h2⟩, fresh5, q⟩
  · obtain ⟨its, rv, p1, la⟩ := (side_list (a := a)).get X pins σ H1 s1 xs rfl I1 hqx
    obtain ⟨its2, rv2, p2, lb⟩ := (side_tup (a := b)).get X pins σ H1 s1 ys rfl I1 hqy
    refine call_zLT p1 p2 fun h' hz hTI hTO h1 h2 hk => wpAny_pyIter_zip hz ?_
    have I2 : L2.Inv X pins σ H1 { s1 with heap := h' } := I1.kept (t' := s1.toks) hk
    exact ⟨s1.heap.objs.size + 4, [s1.heap.objs.size + 4, s1.heap.objs.size + 2, s1.heap.objs.size + 3, s1.heap.objs.size, s1.heap.objs.size + 1], _, _, H1, rfl, I2, turn_zipG src_list src_tup side_list side_tup (PySem.W.ktu_apart s1.heap.objs.size a b la lb), ⟨hz, hTI, ⟨_, _, hTO⟩, h1, h2⟩, fresh5, q⟩
theorem walk_zipG {R1 R2 : Hp → List V → Prop} {xs ys : List V} {n : Nat} (hn : n = min xs.length ys.length) : Walk (ItzG R1 R2) n (fun H => R1 H xs ∧ R2 H ys) (YPair (fun i => xs[i]?) (fun i => ys[i]?)) := by
  subst hn
  refine ⟨fun i _ hi q => ?_, fun _ q => ⟨xs, ys, q.1, q.2, by omega⟩, fun i H v H' _ q y => ?_⟩
  · have k1 : i < xs.length := by omega
    have k2 : i < ys.length := by omega
    exact ⟨xs, ys, xs[i], ys[i], q.1, q.2, by simp [k1], by simp [k2]⟩
  · obtain ⟨T, x, u, k1, k2, k3, k4, k5⟩ := y
    exact ⟨T, x, u, k1, k2, k3, k4 xs q.1, k5 ys q.2⟩
end Bw
set_option Elab.async false
set_option linter.all false
set_option maxRecDepth 100000
set_option maxHeartbeats 4000000
namespace Bw
open PySem PySem.Spec PyProof.Rows L2
section
variable {X : Cx} {K : PySem.W.Frag}
theorem p_bm {o e : Expr} {es : List Expr} {to : TE} {t : TA} {name : Str} {apos cpos : Pos} {T id : String} {r : V → List V → Hp → VK → Prop} (pa : PlainAttrs T) (slot : Slot T name id) (hty : typeOf (.builtin id) = pure (.type "method_descriptor")) (hm : MtM X id r) (ho : PE X o to) (ha : PA X (e :: es) t) (hK : X.K = K := by rfl)
    (hbase : attributeBase o name X.env (eval o X.env) = eval o X.env := by rfl)
    (hfew : ((backTo cpos (starEach (e :: es) X.env)).all (fun x => !x.1) && (backToKw cpos (keywordEach [] X.env)).all (fun x => x.1.isSome) && decide ((e :: es).length + ([] : List Keyword).length + (if ([] : List Keyword).isEmpty then 0 else 1) < 30)) = true := by rfl)
    (hline : (apos.endLine == cpos.line) = true := by rfl) (hs : starEach (e :: es) X.env = (false, eval e X.env) :: starEach es X.env := by rfl) (hplain : (backTo cpos (starEach es X.env)).any (·.1) = false := by rfl) :
    PE X (.Call (.Attribute o name apos) (e :: es) [] cpos) (tBM K T r to t) := by
  subst hK
  exact pe_bm pa slot hty hm ho ha hbase hfew hline hs hplain
theorem p_zipA {e e2 : Expr} {ta : TA} {p pos tpos : Pos} {elts : List Expr} {kk : Nat} (hg : Gl X "zip") (hm : X.mg "zip" = none) (ha : PA X [e, e2] ta) (hK : X.K = K := by rfl)
    (hs : starEach [e, e2] X.env = (false, eval e X.env) :: starEach [e2] X.env := by rfl) (hpl : (backTo pos (starEach [e2] X.env)).any (·.1) = false := by rfl) : PI X (.Tuple elts kk tpos) (.Call (.Name "zip" p) [e, e2] [] pos) (RZ.iZipA K ta) := by
  subst hK
  exact RZ.pi_zipA hg hm ha hs hpl
/-! ### a walk over a list or a tuple -/
def SqS (K : PySem.W.Frag) (b : Bool) (H : Hp) (a : Addr) (xs : List V) : Prop := if b then SqL K H a xs else SqT K H a xs
def ItS (K : PySem.W.Frag) (b : Bool) (a : Addr) : It := if b then Itl K a else Itt K a
def oS (b : Bool) (xs : List V) : HO := if b then .lst xs else .tup xs
theorem SqS.of {K : PySem.W.Frag} {b : Bool} {H : Hp} {a : Addr} {xs : List V} (h : H a = some (oS b xs)) : SqS K b H a xs := by
  cases b
  · exact SqT.of h
  · exact SqL.of h
theorem SqS.or {K : PySem.W.Frag} {b : Bool} {H : Hp} {a : Addr} {xs : List V} (h : SqS K b H a xs) : SqL K H a xs ∨ SqT K H a xs := by
  cases b
  · exact .inr h
  · exact .inl h
theorem walk_seq {b : Bool} {a : Addr} {xs : List V} : Walk (ItS K b a) xs.length (fun H => SqS K b H a xs) (YAt xs) := by
  cases b
  · exact walk_tup
  · exact walk_list
def iSeq (K : PySem.W.Frag) (tl : TE) : TI := fun σ H R => tl σ H fun v H1 => ∃ (a : Addr) (xs : List V) (b : Bool), v = .ref a ∧ SqS K b H1 a xs ∧ R (ItS K b a) H1
theorem p_seq {tg l : Expr} {tl : TE} (hl : PE X l tl) (hK : X.K = K := by rfl) : PI X tg l (iSeq K tl) := by
  subst hK
  refine ⟨fun pins s σ H R I h => thn (hl.run pins s σ H _ I h) fun v s1 ⟨x, H1, I1, r1, q1⟩ => ?_⟩
  obtain ⟨a, xs, b, rfl, hq, q⟩ := q1
  cases r1
  have hf : ∀ c ∈ [s1.heap.objs.size], FpOk X pins H1 c := fun c hc => by
    rw [List.mem_singleton.mp hc]
    exact I1.fpOk (Nat.le_refl _) (I1.hok.fresh (Nat.le_refl _))
  cases b
  · obtain ⟨its, rv, p, hz⟩ := I1.tuple hq
    exact wpAny_pyIter_tuple (show s1.heap.IsTuple a its.toArray from p) ⟨s1.heap.objs.size, [s1.heap.objs.size], _, _, H1, rfl, I1.kept (t' := s1.toks) fun b o e => Heap.get?_push_of_some _ e, turn_tuple a _, ⟨_, Heap.get?_push_size _ rfl, rfl, rfl⟩, hf, q⟩
  · obtain ⟨its, rv, p, hz⟩ := I1.list hq
    exact wpAny_pyIter_list p.isList ⟨s1.heap.objs.size, [s1.heap.objs.size], _, _, H1, rfl, I1.kept (t' := s1.toks) fun b o e => Heap.get?_push_of_some _ e, turn_list a _, ⟨_, Heap.get?_push_size _ rfl, rfl, rfl⟩, hf, q⟩
end
end Bw
set_option Elab.async false
set_option linter.all false
set_option maxRecDepth 100000
set_option maxHeartbeats 4000000
namespace Bw
open PySem PySem.Spec PyProof.Rows L2
/-- a def read off its class, by the class's name -/
structure ClsFn (K : PySem.W.Frag) (mg : Str → Option Value) (x m : Str) (C f : Addr) : Prop where
  g : mg x = some (.ref C)
  sg : PySem.W.specialIn K (.ref C) "__getattribute__" = some (some (.builtin "type.__getattribute__"))
  ty : PySem.W.typeIn K (.ref C) = some (.type "type")
  rd : PySem.W.readsIn K C (.type "type") = true
  fc : PySem.W.findCls K (.ref C) (.type "type") m = some (.val (.ref f))
  kf : PySem.W.keepIn K (.ref f) = true
theorem pe_cfun {X : Cx} {x m : Str} {C f : Addr} {CX : CXT} {k : Nat} {fd : FuncData} {ps : List Str} {sp : Sp} {E : XK} {e : Expr} {es : List Expr} {t : TA} {np apos pos : Pos} {pl : Sem Bool} (T : ClsFn X.K X.mg x m C f) (F : FnOk X.prog X.w X.K X.mg X.base CX k f fd ps sp) (hr : Room k X.A) (hg : Gl X x)
    (hb : Binds X.K fd ps []) (hx : Passes CX X E) (ha : PA X (e :: es) t) (hdb : (x == ("__debug__" : Str)) = false := by decide)
    (ht : eval (.Call (.Attribute (.Name x np) m apos) (e :: es) [] pos) X.env = (do
      let ov ← eval (.Name x np) X.env
      standAt apos.atName
      let (f, first) ← holding [ov] (getMethod ov m pl)
      callWith pos f first (backTo pos (starEach (e :: es) X.env)) (backToKw pos (keywordEach [] X.env))) := by rfl)
    (he : starEach (e :: es) X.env = (false, eval e X.env) :: starEach es X.env := by rfl) (hpl : (backTo pos (starEach es X.env)).any (·.1) = false := by rfl) :
    PE X (.Call (.Attribute (.Name x np) m apos) (e :: es) [] pos) (tCall sp [] E t) := by
  refine ⟨fun pins s σ H Q I h => ?_⟩
  refine PySem.W.methodCall_KW (ld_glob I hg T.g ?_ hdb) ht
  obtain ⟨m, fr⟩ := I.fr
  refine PySem.W.method_of_cls fr I.ok.mod.kin T.sg (PySem.W.cls_val fr I.ok.mod.kin T.ty T.rd T.fc rfl ?_)
  show wpAny _ _ (callWith pos (Value.ref f) [] (backTo pos (starEach (e :: es) X.env)) []) _ _ _
  refine PySem.W.callWith_K (h₀ := X.base) I.ok.mod.kin T.kf (thn (ha.run pos pins _ σ H _ (I.tok _) h) fun us s1 ⟨vs, H1, I1, r, q⟩ => ⟨I1.kIn, ?_⟩) he hpl
  exact run_fn F hr hb .nil hx I1 r q
/-! ### raise C(), C with an __init__ of its own that wants nothing -/
theorem pmk_oex0 {X : Cx} {p pos : Pos} {CX : CXT} {x : Str} {C fI : Addr} {k : Nat} {fd : FuncData} {ps : List Str} {sp : Sp} (T : OexC X.K C) (iC : PySem.W.findIn X.K (.ref C) "__init__" = some (some (.ref fI))) (tI : PySem.W.typeIn X.K (.ref fI) = some (.type "function"))
    (F1 : FnOk X.prog X.w X.K X.mg X.base CX k fI fd ps sp) (hr : Room (k + 1) X.A) (hb : Binds X.K fd ps []) (hx : Passes CX X (fun _ _ _ => False)) (hg : Gl X x) (hm : X.mg x = some (.ref C)) (hdb : (x == ("__debug__" : Str)) = false := by decide) :
    PMk X (.Call (.Name x p) [] [] pos) (tMkO C sp [] tNil) := by
  intro pins s1 σ H1 Q I1 h
  obtain ⟨hz, q1⟩ := h
  obtain ⟨nm, q, N, bs, bm, sn, sub, ab, col, dd, k0, k1, k2, k3, k5, hC, hbm⟩ := T.cls
  refine wpAny_Call_Name_kw (ld_glob I1 hg hm ?_ hdb); refine PySem.W.callWith_K0 I1.kIn T.kC ?_
  show wpAny _ _ (call (.ref C) []) _ _ _
  obtain ⟨hp, g, dr, tk, os⟩ := s1
  have hsz : hp.objs.size ≤ hp.objs.size + 1 := Nat.le_succ _
  have hn : H1 (hp.objs.size + 1) = none := I1.hok.fresh hsz
  have hq := q1 (hp.objs.size + 1) hn
  have kk : ∀ b o, hp.get? b = some o → ((hp.push (PySem.W.kdv_tup [])).push (PySem.HandSPX.excO C hp.objs.size)).get? b = some o := fun b o e => Heap.get?_push_of_some _ (Heap.get?_push_of_some _ e)
  have hget : ((hp.push (PySem.W.kdv_tup [])).push (PySem.HandSPX.excO C hp.objs.size)).get? (hp.objs.size + 1) = some (PySem.HandSPX.excO C hp.objs.size) := by heap_get
  have I2 : L2.Inv X pins σ (upd H1 (hp.objs.size + 1) (exo (hp.objs.size + 1) C none)) ⟨(hp.push (PySem.W.kdv_tup [])).push (PySem.HandSPX.excO C hp.objs.size), g, dr, tk, os⟩ := I1.laid (t' := tk) (a := hp.objs.size + 1) (o := exo (hp.objs.size + 1) C none) (h' := (hp.push (PySem.W.kdv_tup [])).push (PySem.HandSPX.excO C hp.objs.size)) kk hsz (exo_ok hget)
  have r2 : Vals [V.ref (hp.objs.size + 1)] [Value.ref (hp.objs.size + 1)] := .cons rfl .nil
  have hl : ([Value.ref (hp.objs.size + 1)] ++ ([] : List Value)).length = ps.length := F1.len _ _ _ _ hq
  refine wpAny_call (PySem.HandSPX.call_own F.excBase_ValueError (fun Y => PySem.HandSPX.refsVE_contains Y bm hbm) (I1.kIn _ _ hC) (PySem.W.looks_findIn I1.kIn iC) (fun self => PySem.W.bind_fn I1.kIn self tI) (Nat.zero_le _)
    (codeAny_mono (F1.run _ X.stack _ _ ⟨[Value.ref (hp.objs.size + 1)], []⟩ [Value.ref (hp.objs.size + 1)] _ _ (fun _ _ _ => False) (hr.make C [] []) (I2.env0.make C [] []) (hb _ [Value.ref (hp.objs.size + 1)] I2.kIn hl) r2 hq) fun r s' hq' => ?_))
  cases r with
  | error er => exact hx pins σ _ _ er s' I2 hq'
  | ok fl =>
    cases fl with
    | ret u =>
      obtain ⟨v, H2, os2, bare2, un2, hok2, rv, ev, d, fs, ea, ed, hd1, q2⟩ := hq'
      subst ev
      obtain ⟨h2, g2, d2, t2, os'⟩ := s'
      exact ⟨rv, mk_end (raises_own T.exC T.tyC) I1 hsz kk un2 hok2 os2 bare2 ea ed hd1 q2⟩
    | next => exact False.elim hq'
    | brk => exact False.elim hq'
    | cont => exact False.elim hq'
/-- f(k = e, ..), nothing by place -/
def tCallK0 (sp : Sp) (gV : List V → List V → List V) (E : XK) (tk : TA) : TE := fun σ H Q => tk σ H fun zs H2 => sp (gV [] zs) H2 Q E
theorem pe_callK0 {X : Cx} {CX : CXT} {k : Nat} {f : Addr} {fd : FuncData} {ps ks : List Str} {sp : Sp} {E : XK} {x : Str} {p pos : Pos} {kws : List Keyword} {tk : TA} {g : List Value → List Value → List Value} {gV : List V → List V → List V}
    (F : FnOk X.prog X.w X.K X.mg X.base CX k f fd ps sp) (hr : Room k X.A) (hg : Gl X x) (hm : X.mg x = some (.ref f)) (hk : PySem.W.keepIn X.K (.ref f) = true) (hb : KBinds X.K fd ps ks g gV) (hx : Passes CX X E)
    (hkw : PK X kws tk) (hall : (backToKw pos (keywordEach kws X.env)).all (·.1.isSome) = true := by rfl) (hks : (backToKw pos (keywordEach kws X.env)).filterMap (·.1) = ks := by rfl)
    (hdb : (x == ("__debug__" : Str)) = false := by decide) (hpl : ((backTo pos (starEach [] X.env)).any (·.1) || (backToKw pos (keywordEach kws X.env)).any (·.1.isNone)) = false := by rfl) :
    PE X (.Call (.Name x p) [] kws pos) (tCallK0 sp gV E tk) := by
  refine ⟨fun pins s σ H Q I h => ?_⟩
  refine wpAny_Call_Name_kw (ld_glob I hg hm ?_ hdb)
  refine PySem.W.callWith_KW0 (h₀ := X.base) I.ok.mod.kin hk hall (thn (hkw.run pos pins s σ H _ I h) fun ws s2 ⟨zs, H2, I2, rz, q2⟩ => ⟨I2.kIn, ?_⟩) hpl
  rw [hks]
  exact run_fnk (us := []) (vs := []) F hr hb hx I2 .nil rz q2
theorem it_walk {J : It} {n : Nat} {G : Hp → Prop} {Y : Nat → Hp → V → Hp → Prop} (wk : Walk J n G Y) {H1 : Hp} {Qd : Hp → Prop} {Body : V → Hp → (Hp → Prop) → Prop} (Pv : Nat → Hp → Prop) (h0 : Pv 0 H1) (hG : ∀ i H, i ≤ n → Pv i H → G H)
    (hs : ∀ i x H H', i < n → Pv i H → Y i H x H' → Body x H' (Pv (i + 1))) (hd : ∀ H, Pv n H → Qd H) :
    ∃ W : Nat → Nat → Hp → Prop, (∃ m, W 0 m H1) ∧ ∀ i m H, W i m H → (J.stop i H ∧ Qd H) ∨ (J.go i H ∧ ∃ Nx : Hp → Prop, (∀ H', Nx H' → ∃ m', m' < m ∧ W (i + 1) m' H') ∧ ∀ x H', J.yld i H x H' → Body x H' Nx) := by
  refine ⟨fun i m H => m = n - i ∧ i ≤ n ∧ Pv i H, ⟨n, rfl, Nat.zero_le _, h0⟩, ?_⟩
  rintro i m H ⟨rfl, hi, p⟩
  have q := hG i H hi p
  by_cases hlt : i < n
  · exact .inr ⟨wk.goes i H hlt q, Pv (i + 1), fun H' p' => ⟨n - (i + 1), by omega, rfl, hlt, p'⟩, fun x H' y => hs i x H H' hlt p (wk.yields i H x H' hlt q y)⟩
  · have e : i = n := by omega
    subst e
    exact .inl ⟨wk.stops H q, hd H p⟩
section
variable {X : Cx} {K : PySem.W.Frag}
theorem p_bmR {o e : Expr} {es : List Expr} {to : TE} {t : TA} {name : Str} {apos cpos : Pos} {T id : String} {r : V → List V → Hp → VK → Prop} (pa : PlainAttrs T) (slot : Slot T name id) (hty : typeOf (.builtin id) = pure (.type "method_descriptor")) (hm : MtR X id r) (ho : PE X o to) (ha : PA X (e :: es) t) (hK : X.K = K := by rfl)
    (hbase : attributeBase o name X.env (eval o X.env) = eval o X.env := by rfl)
    (hfew : ((backTo cpos (starEach (e :: es) X.env)).all (fun x => !x.1) && (backToKw cpos (keywordEach [] X.env)).all (fun x => x.1.isSome) && decide ((e :: es).length + ([] : List Keyword).length + (if ([] : List Keyword).isEmpty then 0 else 1) < 30)) = true := by rfl)
    (hline : (apos.endLine == cpos.line) = true := by rfl) (hs : starEach (e :: es) X.env = (false, eval e X.env) :: starEach es X.env := by rfl) (hplain : (backTo cpos (starEach es X.env)).any (·.1) = false := by rfl) :
    PE X (.Call (.Attribute o name apos) (e :: es) [] cpos) (tBM K T r to t) := by
  subst hK
  exact pe_bm pa slot hty hm ho ha hbase hfew hline hs hplain
theorem c_max (hc : X.calm = true) (h : X.K = K := by rfl) : CallR X (.builtin "max") (rMax K) := by
  subst h
  exact cr_max hc
end
end Bw
set_option Elab.async false
set_option linter.all false
set_option maxRecDepth 100000
set_option maxHeartbeats 4000000
namespace Bw
open PySem PySem.Spec PyProof.Rows L2
/-! ### max and min of a tuple of whole numbers -/
section
variable {prog : Program} {w : World} {A : Around} {E : Value → Shared → Prop} {s : Shared} {l : Addr} {xs : Array (Int × Tok)}
theorem iter_intTup {Q : Value → Shared → Prop} (hl : s.heap.IsTuple l (intItems xs))
    (h : ∀ s₂ : Shared, s₂ = { s with heap := s.heap.push { cls := .type "tuple_iterator", data := .fields #[.ref l, .int 0 0] } } →
      (s₂.heap.IsTupleIter s.heap.objs.size l 0 ∧ s₂.heap.IsTuple l (intItems xs)) → (∀ b ∈ [s.heap.objs.size, l], b < s₂.heap.objs.size) → l ≠ s.heap.objs.size → Q (.ref s.heap.objs.size) s₂) :
    wpAny (model prog w) A (pyIter (.ref l)) Q E s := by
  have hlt : l < s.heap.objs.size := by obtain ⟨_, e, _⟩ := hl; exact Heap.lt_size e
  refine wpAny_pyIter_tuple hl (h _ rfl ⟨⟨_, Heap.get?_push_size _ rfl, rfl, rfl⟩, hl.at fun o e => Heap.get?_push_of_some _ e⟩ (fun b hb => ?_) (Nat.ne_of_lt hlt))
  show b < (s.heap.push _).objs.size
  rw [Heap.size_push]
  rcases List.mem_cons.mp hb with rfl | hb
  · exact Nat.lt_succ_self _
  · rcases List.mem_cons.mp hb with rfl | hb
    · exact Nat.lt_succ_of_lt hlt
    · cases hb
theorem old_keptT {h' : Heap} {o₀ : Obj} (hk : ∀ b o, b ∉ [s.heap.objs.size] → (s.heap.push o₀).get? b = some o → h'.get? b = some o) :
    ∀ b o, s.heap.get? b = some o → h'.get? b = some o := fun b o e => by
  refine hk b o (fun hm => ?_) (Heap.get?_push_of_some _ e)
  rcases List.mem_cons.mp hm with e1 | hm
  · exact absurd (e1 ▸ Heap.lt_size e) (Nat.lt_irrefl _)
  · cases hm
theorem max_intTup {Q : Value → Shared → Prop} (hh : A.handled = none) (hl : s.heap.IsTuple l (intItems xs)) (hne : 0 < xs.size)
    (h : ∀ v h' tk, (intItems xs)[argBest (fun i j => decide (numAt xs i > numAt xs j)) (xs.size - 1)]? = some v → (∀ b o, s.heap.get? b = some o → h'.get? b = some o) → Q v { s with heap := h', toks := tk }) :
    wpAny (model prog w) A (call (.builtin "max") [.ref l]) Q E s := by
  refine call_max_walk (iter_intTup hl fun s₂ e st hfp hlI => ?_)
  subst e
  refine ⟨_, _, _, _, _, _, _, rfl, Walks.tuple (A := A.in1) hh _ l hlI (intItems xs), st, hfp, by simpa [intItems] using hne, CmpOf.ints_gt (numAt xs) (fun _ _ => intItems_at), fun v h' tk hP hk => ?_⟩
  exact h v h' tk (by simpa [intItems] using hP) (old_keptT hk)
theorem min_intTup {Q : Value → Shared → Prop} (hh : A.handled = none) (hl : s.heap.IsTuple l (intItems xs)) (hne : 0 < xs.size)
    (h : ∀ v h' tk, (intItems xs)[argBest (fun i j => decide (numAt xs i < numAt xs j)) (xs.size - 1)]? = some v → (∀ b o, s.heap.get? b = some o → h'.get? b = some o) → Q v { s with heap := h', toks := tk }) :
    wpAny (model prog w) A (call (.builtin "min") [.ref l]) Q E s := by
  refine call_min_walk (iter_intTup hl fun s₂ e st hfp hlI => ?_)
  subst e
  refine ⟨_, _, _, _, _, _, _, rfl, Walks.tuple (A := A.in1) hh _ l hlI (intItems xs), st, hfp, by simpa [intItems] using hne, CmpOf.ints_lt (numAt xs) (fun _ _ => intItems_at), fun v h' tk hP hk => ?_⟩
  exact h v h' tk (by simpa [intItems] using hP) (old_keptT hk)
theorem max_rawT {its : List Value} {ns : List Int} {Q : Value → Shared → Prop} (hh : A.handled = none) (hl : s.heap.IsTuple l its.toArray) (hi : IntsAre its ns) (hne : 0 < ns.length)
    (h : ∀ h' tk M t', (∀ b o, s.heap.get? b = some o → h'.get? b = some o) → M ∈ ns → (∀ a, a ∈ ns → a ≤ M) → Q (.int M t') { s with heap := h', toks := tk }) : wpAny (model prog w) A (call (.builtin "max") [.ref l]) Q E s := by
  obtain ⟨xs, e⟩ := hi.allInts.items
  have hn : numsOf (intItems xs).toList = ns := by rw [← e]; exact hi.numsOf
  rw [nums_intItems] at hn
  subst hn
  rw [e] at hl
  have hsz : 0 < xs.size := by simpa using hne
  refine max_intTup hh hl hsz fun v h' tk hv hk => ?_
  obtain ⟨t, rfl⟩ := intItems_at hv
  obtain ⟨h1, h2⟩ := argBest_gt (numAt xs) (xs.size - 1)
  refine h h' tk _ t hk ?_ fun a ha => ?_
  · rw [numAt_eq]; exact PySem.getD_mem (by rw [List.length_map, Array.length_toList]; omega)
  · obtain ⟨j, hj, rfl⟩ := mem_getD ha
    rw [List.length_map, Array.length_toList] at hj
    rw [← numAt_eq]; exact h2 j (by omega)
theorem min_rawT {its : List Value} {ns : List Int} {Q : Value → Shared → Prop} (hh : A.handled = none) (hl : s.heap.IsTuple l its.toArray) (hi : IntsAre its ns) (hne : 0 < ns.length)
    (h : ∀ h' tk M t', (∀ b o, s.heap.get? b = some o → h'.get? b = some o) → M ∈ ns → (∀ a, a ∈ ns → M ≤ a) → Q (.int M t') { s with heap := h', toks := tk }) : wpAny (model prog w) A (call (.builtin "min") [.ref l]) Q E s := by
  obtain ⟨xs, e⟩ := hi.allInts.items
  have hn : numsOf (intItems xs).toList = ns := by rw [← e]; exact hi.numsOf
  rw [nums_intItems] at hn
  subst hn
  rw [e] at hl
  have hsz : 0 < xs.size := by simpa using hne
  refine min_intTup hh hl hsz fun v h' tk hv hk => ?_
  obtain ⟨t, rfl⟩ := intItems_at hv
  obtain ⟨h1, h2⟩ := argBest_lt (numAt xs) (xs.size - 1)
  refine h h' tk _ t hk ?_ fun a ha => ?_
  · rw [numAt_eq]; exact PySem.getD_mem (by rw [List.length_map, Array.length_toList]; omega)
  · obtain ⟨j, hj, rfl⟩ := mem_getD ha
    rw [List.length_map, Array.length_toList] at hj
    rw [← numAt_eq]; exact h2 j (by omega)
end
section
variable {X : Cx} {K : PySem.W.Frag}
def rMaxT (K : PySem.W.Frag) : List V → Hp → VK → Prop := fun vs H Q => ∃ (a : Addr) (ns : List Int), vs = [V.ref a] ∧ SqT K H a (ns.map V.int) ∧ 0 < ns.length ∧ ∀ m, m ∈ ns → (∀ y, y ∈ ns → y ≤ m) → Q (.int m) H
def rMinT (K : PySem.W.Frag) : List V → Hp → VK → Prop := fun vs H Q => ∃ (a : Addr) (ns : List Int), vs = [V.ref a] ∧ SqT K H a (ns.map V.int) ∧ 0 < ns.length ∧ ∀ m, m ∈ ns → (∀ y, y ∈ ns → m ≤ y) → Q (.int m) H
theorem c_maxT (hc : X.calm = true) (h : X.K = K := by rfl) : CallR X (.builtin "max") (rMaxT K) := by
  subst h
  intro pins s σ H vs us Q I r h
  obtain ⟨a, ns, rfl, hs, hne, q⟩ := h
  obtain ⟨its, rv, hl, _⟩ := I.tuple hs
  rw [Vals.ref1 r]
  exact max_rawT (I.ok.hd hc) hl rv.ints hne fun h' tk m t' hk h1 h2 => ⟨.int _, H, I.kept hk, ⟨_, rfl⟩, q m h1 h2⟩
theorem c_minT (hc : X.calm = true) (h : X.K = K := by rfl) : CallR X (.builtin "min") (rMinT K) := by
  subst h
  intro pins s σ H vs us Q I r h
  obtain ⟨a, ns, rfl, hs, hne, q⟩ := h
  obtain ⟨its, rv, hl, _⟩ := I.tuple hs
  rw [Vals.ref1 r]
  exact min_rawT (I.ok.hd hc) hl rv.ints hne fun h' tk m t' hk h1 h2 => ⟨.int _, H, I.kept hk, ⟨_, rfl⟩, q m h1 h2⟩
end
end Bw
set_option Elab.async false
set_option linter.all false
set_option maxRecDepth 100000
namespace Bw
open PySem PySem.Spec PyProof.Rows L2
def topS (i : Nat) : Stmt := PySem.Challenge.pw_budwright_k41_endless_papers_judged.main.body.getD i (.Pass ⟨0, 0, 0, 0⟩)
structure Tx (mg : Str → Option Value) : Prop where
  len : mg "len" = none
  range : mg "range" = none
  zip : mg "zip" = none
  abs : mg "abs" = none
  all : mg "all" = none
  any : mg "any" = none
  max : mg "max" = none
  min : mg "min" = none
  sorted : mg "sorted" = none
  isinstance : mg "isinstance" = none
  int : mg "int" = none
  bool : mg "bool" = none
  tuple : mg "tuple" = none
  list : mg "list" = none
  dict : mg "dict" = none
  str : mg "str" = none
  ValueError : mg "ValueError" = none
  MOST_TIE : ∃ t, mg "MOST_TIE" = some (.int 50 t)
  MOST_BUDS : ∃ t, mg "MOST_BUDS" = some (.int 4 t)
  MOST_ROOTS : ∃ t, mg "MOST_ROOTS" = some (.int 4 t)
  ENDLESS_TIES : ∃ t, mg "ENDLESS_TIES" = some (.int (-4) t)
end Bw
set_option Elab.async false
set_option linter.all false
set_option maxRecDepth 100000
set_option maxHeartbeats 2000000
namespace Bw
open PySem PySem.Spec PyProof.Rows L2
section
variable {P : Program} {w : World} {K : PySem.W.Frag} {mg : Str → Option Value} {base : Heap}
abbrev s_law_draw : Stmt := topS 28
abbrev n_law_draw : List Str := ["_law_feed_here", "_law_many", "_law_cell", "_law_digit", "_law_mix"]
theorem sc_law_draw : FnScope n_law_draw ["_law_feed_here", "_law_many"] (defScope s_law_draw) := ⟨rfl, rfl, rfl, by decide +kernel, rfl, by decide +kernel, by decide +kernel⟩
def spDraw : Sp := fun vs H Q _ => ∃ (f l : Addr) (n : Int), vs = [.ref f, .int n] ∧ FeedAt H f l ∧ 0 < n ∧ n < 1073741824 ∧ ∀ (v : Int) (H' : Hp), 0 ≤ v → v < n → SameBut f H H' → FeedAt H' f l → Q (.int v) H'
theorem ok_draw {f : Addr} {fd : FuncData} {k : Nat} (F : Fun K "_law_draw" "_law_draw" s_law_draw f fd) (T : Tx mg) : FnOk P w K mg base CX0 (k + 1) f fd ["_law_feed_here", "_law_many"] spDraw := by
  refine F.ok sc_law_draw (fun vs H Q E h => ?_) (fun cdv A outer s H vs Q E hr h => ?_)
  · obtain ⟨f, l, n, rfl, _⟩ := h
    rfl
  · obtain ⟨f, l, r, rfl, ⟨ns, i, n, m, c, nlf, hf, hl, hi, hn, hm, hm2⟩, hr0, hr1, q⟩ := h
    refine ⟨_, (C8.pss_cut (ps_if (PW.pt (pw_and (pt_cmpR op_eq (pe_ix ix_list (pv 0) pe_int (fun _ _ => rfl)) pe_int (nomark _)) (pw_and1 (pt_cmpR op_lt (pe_ix ix_list (pv 0) pe_int (fun _ _ => rfl)) (pe_callB call_len_seq (by rfl) T.len PySem.boot_len (pa_cons (pe_ix ix_list (pv 0) pe_int (fun _ _ => rfl)) pa_nil)) (nomark _)))))
    (pss_cons (ps_set (i := 2) sc_law_draw.nd rfl (.inl rfl) (pe_ix ix_list (pe_ix ix_list (pv 0) pe_int (fun _ _ => rfl)) (pe_ix ix_list (pv 0) pe_int (fun _ _ => rfl)) (fun _ _ => rfl)))
    (pss_cons (ps_asg (pe_op op_add (pe_ix ix_list (pv 0) pe_int (fun _ _ => rfl)) pe_int) (pg_sub (pv 0) pe_int set_list))
    (pss_one (ps_if (pt_cmpR op_ge (pv 2) (pe_op op_pow pe_int pe_int) (nomark _))
      (pss_one (ps_asg (pv 2) (pg_sub (pv 0) pe_int set_list)))
      (pss_one (ps_asg (pe_op op_mod (pe_op op_add (pe_op op_add (pe_op op_mul (pe_ix ix_list (pv 0) pe_int (fun _ _ => rfl)) pe_int) (pe_op op_mul (pe_op op_mod (pv 2) pe_int) pe_int)) pe_int) pe_int) (pg_sub (pv 0) pe_int set_list)))))))
    pss_nil)
  (pss_cons (ps_if (pt_cmpR op_gt (pe_ix ix_list (pv 0) pe_int (fun _ _ => rfl)) pe_int (nomark _))
    (pss_cons (ps_set (i := 3) sc_law_draw.nd rfl (.inl rfl) (pe_op op_mod (pe_ix ix_list (pv 0) pe_int (fun _ _ => rfl)) (pv 1)))
    (pss_cons (ps_asg (pe_op op_fdiv (pe_ix ix_list (pv 0) pe_int (fun _ _ => rfl)) (pv 1)) (pg_sub (pv 0) pe_int set_list))
    (pss_one (ps_ret (pv 3)))))
    pss_nil)
  (pss_cons (ps_asg (pe_op op_add (pe_ix ix_list (pv 0) pe_int (fun _ _ => rfl)) pe_int) (pg_sub (pv 0) pe_int set_list))
  (pss_cons (ps_set (i := 4) sc_law_draw.nd rfl (.inl rfl) (pe_ix ix_list (pv 0) pe_int (fun _ _ => rfl)))
  (pss_cons (ps_set (i := 4) sc_law_draw.nd rfl (.inl rfl) (pe_op op_add (pe_op op_add (pe_op op_add (pe_op op_mul (pe_op op_mod (pe_op op_mul (pv 4) (pv 4)) pe_int) pe_int) (pe_op op_mul (pv 4) pe_int)) (pe_op op_mul pe_int (pe_ix ix_list (pv 0) pe_int (fun _ _ => rfl)))) pe_int))
  (pss_cons (ps_asg (pe_op op_mod (pv 4) pe_int) (pg_sub (pv 0) pe_int set_list))
  (pss_one (ps_ret (pe_op op_mod (pe_op op_add (pe_op op_fdiv (pe_ix ix_list (pv 0) pe_int (fun _ _ => rfl)) pe_int) (pe_op op_mul (pe_op op_mod (pe_ix ix_list (pv 0) pe_int (fun _ _ => rfl)) pe_int) pe_int)) (pv 1)))))))))), ?_⟩
    -- between: a feed of the same list
    refine ⟨fun σ H2 => ∃ (y : Option V) (i : Nat) (n m : Int), σ = [some (.ref f), some (.int r), y, none, none] ∧ SameBut f H H2 ∧ H2 f = some (.lst [.ref l, .int i, .int n, .int m, .int c]) ∧ i ≤ ns.length ∧ 0 ≤ n ∧ 0 ≤ m ∧ m < 2147483647, ?_, ?_⟩
    · refine ⟨.ref f, rfl, f, _, 2, .int n, rfl, rfl, SqL.of hf, rfl, rfl, _, rfl, ite2 (fun e => ?_) (fun e => iteF ?_)⟩
      · refine ⟨.ref f, rfl, f, _, 1, .int i, rfl, rfl, SqL.of hf, rfl, .ref f, rfl, f, _, 0, .ref l, rfl, rfl, SqL.of hf, rfl, l, _, rfl, .inl (SqL.of hl), _, _, rfl, rfl, _, rfl, ite2 (fun e => ?_) (fun e => ?_)⟩
        · have hlt : i < ns.length := by
            have := of_decide_eq_true e
            rw [List.length_map] at this
            omega
          have g1 : (ns.map V.int)[i]? = some (.int ns[i]) := by
            rw [List.getElem?_map, List.getElem?_eq_getElem hlt]
            rfl
          generalize ns[i] = u at g1
          -- cell = feed[0][feed[1]]; feed[1] = feed[1] + 1
          refine ⟨.ref f, rfl, f, _, 0, .ref l, rfl, rfl, SqL.of hf, rfl, .ref f, rfl, f, _, 1, .int i, rfl, rfl, SqL.of hf, rfl, l, _, i, .int u, rfl, rfl, SqL.of hl, atI_nat g1, ?_⟩
          refine ⟨.ref f, rfl, f, _, 1, .int i, rfl, rfl, SqL.of hf, rfl, _, _, rfl, rfl, .ref f, rfl, f, _, 1, 1, rfl, rfl, hf, rfl, ?_⟩
          -- if cell >= 10 ** 18
          refine ⟨.int u, rfl, _, _, rfl, rfl, ⟨by decide, by decide, by decide⟩, _, _, rfl, rfl, _, rfl, ite2 (fun e => ?_) (fun e => ?_)⟩
          · have h0 : 0 ≤ u := Int.le_trans (by decide : (0 : Int) ≤ 10 ^ Int.toNat 18) (of_decide_eq_true e)
            refine ⟨.int u, rfl, .ref f, rfl, f, _, 2, 2, rfl, rfl, upd_same, rfl, ?_⟩
            exact ⟨_, i + 1, u, m, rfl, SameBut.upd (SameBut.upd (.refl _ _)), upd_same, hlt, h0, hm, hm2⟩
          · refine ⟨.ref f, rfl, f, _, 3, .int m, rfl, rfl, SqL.of upd_same, rfl, _, _, rfl, rfl, .inl ⟨by omega, by omega⟩, .int u, rfl, _, _, rfl, rfl, (by show (0 : Int) < 1000000007; decide), _, _, rfl, rfl, .inr ⟨by decide, by decide⟩, _, _, rfl, rfl, _, _, rfl, rfl, _, _, rfl, rfl, (by show (0 : Int) < 2147483647; decide), ?_⟩
            refine ⟨.ref f, rfl, f, _, 3, 3, rfl, rfl, upd_same, rfl, ?_⟩
            exact ⟨_, i + 1, n, _, rfl, SameBut.upd (SameBut.upd (.refl _ _)), upd_same, hlt, hn, Int.emod_nonneg _ (by decide), Int.emod_lt_of_pos _ (by decide)⟩
        · exact ⟨none, i, n, m, rfl, .refl _ _, hf, hi, hn, hm, hm2⟩
      · exact ⟨none, i, n, m, rfl, .refl _ _, hf, hi, hn, hm, hm2⟩
    · rintro σ H2 ⟨y, i, n, m, rfl, sb, hf, hi, hn, hm, hm2⟩
      have hl2 : H2 l = some (.lst (ns.map V.int)) := sb _ _ nlf hl
      -- if feed[2] > 0
      refine ⟨.ref f, rfl, f, _, 2, .int n, rfl, rfl, SqL.of hf, rfl, _, _, rfl, rfl, _, rfl, ite2 (fun e => ?_) (fun e => ?_)⟩
      · refine ⟨.ref f, rfl, f, _, 2, .int n, rfl, rfl, SqL.of hf, rfl, .int r, rfl, _, _, rfl, rfl, hr0, ?_⟩
        refine ⟨.ref f, rfl, f, _, 2, .int n, rfl, rfl, SqL.of hf, rfl, .int r, rfl, _, _, rfl, rfl, ⟨hr0, hr1⟩, .ref f, rfl, f, _, 2, 2, rfl, rfl, hf, rfl, ?_⟩
        refine ⟨_, rfl, q _ _ (Int.emod_nonneg _ (by omega)) (Int.emod_lt_of_pos _ hr0) sb.upd ⟨ns, i, _, m, c, nlf, upd_same, by rw [upd_ne nlf]; exact hl2, hi, Int.ediv_nonneg hn (by omega), hm, hm2⟩⟩
      · -- feed[4] = feed[4] + 1
        refine ⟨.ref f, rfl, f, _, 4, .int c, rfl, rfl, SqL.of hf, rfl, _, _, rfl, rfl, .ref f, rfl, f, _, 4, 4, rfl, rfl, hf, rfl, ?_⟩
        -- mix
        refine ⟨.ref f, rfl, f, _, 3, .int m, rfl, rfl, SqL.of upd_same, rfl, ?_⟩
        refine ⟨.int m, rfl, .int m, rfl, _, _, rfl, rfl, .inl ⟨by omega, by omega⟩, _, _, rfl, rfl, (by show (0 : Int) < 2147483587; decide), _, _, rfl, rfl, .inr ⟨by decide, by decide⟩, .int m, rfl, _, _, rfl, rfl, .inr ⟨by decide, by decide⟩, _, _, rfl, rfl, .ref f, rfl, f, _, 4, _, rfl, rfl, SqL.of upd_same, rfl, _, _, rfl, rfl, .inl ⟨by decide, by decide⟩, _, _, rfl, rfl, _, _, rfl, rfl, ?_⟩
        refine ⟨_, rfl, _, _, rfl, rfl, (by show (0 : Int) < 2147483647; decide), .ref f, rfl, f, _, 3, 3, rfl, rfl, upd_same, rfl, ?_⟩
        have a1 : ∀ z : Int, 0 ≤ z % 2147483647 := fun z => Int.emod_nonneg _ (by decide)
        have a2 : ∀ z : Int, z % 2147483647 < 2147483647 := fun z => Int.emod_lt_of_pos _ (by decide)
        refine ⟨.ref f, rfl, f, _, 3, _, rfl, rfl, SqL.of upd_same, rfl, _, _, rfl, rfl, ⟨by decide, by decide⟩, .ref f, rfl, f, _, 3, _, rfl, rfl, SqL.of upd_same, rfl, _, _, rfl, rfl, (by show (0 : Int) < 4093; decide), _, _, rfl, rfl, .inr ⟨by decide, by decide⟩, _, _, rfl, rfl, .int r, rfl, _, _, rfl, rfl, hr0, ?_⟩
        refine q _ _ (Int.emod_nonneg _ (by omega)) (Int.emod_lt_of_pos _ hr0) (SameBut.upd sb.upd) ⟨ns, i, n, _, _, nlf, upd_same, by rw [upd_ne nlf, upd_ne nlf]; exact hl2, hi, hn, a1 _, a2 _⟩
end
end Bw
set_option Elab.async false
set_option linter.all false
set_option maxRecDepth 100000
set_option maxHeartbeats 2000000
namespace Bw
open PySem PySem.Spec PyProof.Rows L2
section
variable {P : Program} {w : World} {K : PySem.W.Frag} {mg : Str → Option Value} {base : Heap}
/-! ### the feed made -/
abbrev s_law_feed : Stmt := topS 27
abbrev n_law_feed : List Str := ["_law_script"]
theorem sc_law_feed : FnScope n_law_feed ["_law_script"] (defScope s_law_feed) := ⟨rfl, rfl, rfl, by decide +kernel, rfl, by decide +kernel, by decide +kernel⟩
def spFeed (K : PySem.W.Frag) : Sp := fun vs H Q _ => ∃ (a : Addr) (ns : List Int), vs = [.ref a] ∧ SqL K H a (ns.map V.int) ∧ ∀ (f l : Addr) (H' : Hp), Same H H' → H f = none → FeedAt H' f l → Q (.ref f) H'
theorem ok_feed {f : Addr} {fd : FuncData} {k : Nat} (F : Fun K "_law_feed" "_law_feed" s_law_feed f fd) (T : Tx mg) : FnOk P w K mg base CX0 (k + 1) f fd ["_law_script"] (spFeed K) := by
  refine F.ok sc_law_feed (fun vs H Q E h => ?_) (fun cdv A outer s H vs Q E hr h => ?_)
  · obtain ⟨a, ns, rfl, _⟩ := h
    rfl
  · obtain ⟨a, ns, rfl, hS, q⟩ := h
    refine ⟨_, (pss_one (ps_ret (pe_lst (pa_cons (pe_callTy call_list_of (by rfl) T.list (by decide +kernel) (pa_cons (pe_slice sl_list (pv 0) po_none (po_some pe_int)) pa_nil)) (pa_cons pe_int (pa_cons pe_int (pa_cons pe_int (pa_cons pe_int pa_nil)))))))), ?_⟩
    refine ⟨.ref a, rfl, 63, rfl, a, _, rfl, hS, fun c nc => ?_⟩
    refine ⟨c, _, rfl, .inl (SqL.of upd_same), fun l nl => ?_⟩
    refine ⟨by show 5 ≤ sizeLine; decide, fun g ng => ?_⟩
    have s1 : Same H (upd H c (.lst (cutV (ns.map V.int) none (some 63)))) := same_upd nc
    have s2 := s1.trans (same_upd (o := .lst (cutV (ns.map V.int) none (some 63))) nl)
    have s3 := s2.trans (same_upd (o := .lst [.ref l, .int 0, .int 0, .int 9106, .int 0]) ng)
    have nlg : l ≠ g := fun e => by
      rw [← e, upd_same] at ng
      cases ng
    refine q g l _ s3 (s2.free ng) ⟨(ns.drop (HT.sIx (ns.map V.int).length 0 none)).take (HT.sIx (ns.map V.int).length (ns.map V.int).length (some 63) - HT.sIx (ns.map V.int).length 0 none), 0, 0, 9106, 0, nlg, upd_same, ?_, Nat.zero_le _, by decide, by decide, by decide⟩
    rw [upd_ne nlg, upd_same]
    unfold cutV
    rw [List.map_take, List.map_drop]
/-! ### one of a row -/
abbrev s_law_pick : Stmt := topS 29
abbrev n_law_pick : List Str := ["_law_feed_here", "_law_row"]
theorem sc_law_pick : FnScope n_law_pick ["_law_feed_here", "_law_row"] (defScope s_law_pick) := ⟨rfl, rfl, rfl, by decide +kernel, rfl, by decide +kernel, by decide +kernel⟩
def spPick : Sp := fun vs H Q _ => ∃ (f l a : Addr) (xs : List V), vs = [.ref f, .ref a] ∧ FeedAt H f l ∧ H a = some (.lst xs) ∧ a ≠ f ∧ 0 < xs.length ∧ xs.length < 1000 ∧ ∀ (v : V) (H' : Hp), v ∈ xs → SameBut f H H' → FeedAt H' f l → Q v H'
theorem ok_pick {f : Addr} {fd : FuncData} {k j : Nat} (F : Fun K "_law_pick" "_law_pick" s_law_pick f fd) (T : Tx mg) (c_law_draw : Cal P w K mg base CX0 k "_law_draw" ["_law_feed_here", "_law_many"] spDraw) : FnOk P w K mg base CX0 (k + 1) f fd ["_law_feed_here", "_law_row"] spPick := by
  refine F.ok sc_law_pick (fun vs H Q E h => ?_) (fun cdv A outer s H vs Q E hr h => ?_)
  · obtain ⟨f, l, a, xs, rfl, _⟩ := h
    rfl
  · obtain ⟨f, l, a, xs, rfl, hf, ha, naf, h0, h1, q⟩ := h
    refine ⟨_, (pss_one (ps_ret (pe_ix ix_list (pv 1) (pe_cal c_law_draw hr (by rfl) (pa_cons (pv 0) (pa_cons (pe_callB call_len_seq (by rfl) T.len PySem.boot_len (pa_cons (pv 1) pa_nil)) pa_nil))) (fun _ _ => rfl)))), ?_⟩
    refine ⟨.ref a, rfl, .ref f, rfl, .ref a, rfl, a, _, rfl, .inl (SqL.of ha), f, l, _, rfl, hf, by omega, by omega, fun v H' v0 v1 sb hf' => ?_⟩
    obtain ⟨n, rfl⟩ : ∃ n : Nat, v = (n : Int) := ⟨v.toNat, by omega⟩
    have hn : n < xs.length := by omega
    exact ⟨a, xs, _, xs[n], rfl, rfl, SqL.of (sb _ _ naf ha), atI_nat (List.getElem?_eq_getElem hn), q _ _ (List.getElem_mem hn) sb hf'⟩
/-! ### the greatest that goes into both -/
abbrev s_law_gcd : Stmt := topS 31
abbrev n_law_gcd : List Str := ["_law_my_one", "_law_my_other"]
theorem sc_law_gcd : FnScope n_law_gcd ["_law_my_one", "_law_my_other"] (defScope s_law_gcd) := ⟨rfl, rfl, rfl, by decide +kernel, rfl, by decide +kernel, by decide +kernel⟩
def spGcd : Sp := fun vs H Q _ => ∃ (a b : Nat), vs = [.int a, .int b] ∧ Q (.int (Nat.gcd a b)) H
theorem ok_gcd {f : Addr} {fd : FuncData} {k : Nat} (F : Fun K "_law_gcd" "_law_gcd" s_law_gcd f fd) (T : Tx mg) : FnOk P w K mg base CX0 (k + 1) f fd ["_law_my_one", "_law_my_other"] spGcd := by
  refine F.ok sc_law_gcd (fun vs H Q E h => ?_) (fun cdv A outer s H vs Q E hr h => ?_)
  · obtain ⟨a, b, rfl, _⟩ := h
    rfl
  · obtain ⟨a, b, rfl, q⟩ := h
    refine ⟨_, (pss_cons (ps_while PassesOwn.never (pt_truth (pv 1) (by intro _; rfl))
      (pss_one (ps_par (i := 0) (j := 1) (by rfl) sc_law_gcd.nd rfl rfl (by decide) rfl rfl (pa_cons (pv 1) (pa_cons (pe_op op_mod (pv 0) (pv 1)) pa_nil)) (by rfl))))
      (pss_one (ps_ret (pe_callB call_abs (by rfl) T.abs (by decide +kernel) (pa_cons (pv 0) pa_nil))))), ?_⟩
    refine while_by (fun σ H' => ∃ x y : Nat, σ = [some (.int x), some (.int y)] ∧ Nat.gcd x y = Nat.gcd a b ∧ H' = H) (fun σ _ => match σ with | [_, some (.int y)] => y.toNat | _ => 0) ⟨a, b, rfl, rfl, rfl⟩ ?_ ?_
    · rintro σ H' ⟨x, y, rfl, hg, rfl⟩
      refine ⟨.int y, rfl, ((y : Int) != 0), rfl, ?_⟩
      by_cases hy : y = 0
      · subst hy
        refine iteF ⟨_, rfl, _, rfl, ?_⟩
        rw [if_neg (by omega)]
        rw [Nat.gcd_zero_right] at hg
        rw [hg]
        exact q
      · have e : ((y : Int) != 0) = true := by simp [hy]
        rw [e]
        refine iteT ⟨_, rfl, _, rfl, _, rfl, _, _, rfl, rfl, (by show (0 : Int) < (y : Int); omega), _, _, rfl, ?_, ?_⟩
        · refine ⟨y, x % y, rfl, ?_, rfl⟩
          rw [← hg, Nat.gcd_comm y (x % y), ← Nat.gcd_rec y x, Nat.gcd_comm]
        · show ((x : Int) % (y : Int)).toNat < ((y : Int)).toNat
          have h1 := Int.emod_lt_of_pos (x : Int) (show (0 : Int) < (y : Int) by omega)
          have h2 := Int.emod_nonneg (x : Int) (show (y : Int) ≠ 0 by omega)
          omega
    · rintro σ H' Q1 Q2 hq ⟨v, e, k, t, q1⟩
      exact ⟨v, e, k, t, hq _ _ q1⟩
end
end Bw
set_option Elab.async false
set_option linter.all false
set_option maxRecDepth 100000
set_option maxHeartbeats 1000000
namespace Bw
open PySem PySem.Spec PyProof.Rows L2
/-! ### tables, as lists of rows -/
def ent (rows : List (List Int)) (i j : Nat) : Int := (rows.getD i []).getD j 0
structure TabOk (rows : List (List Int)) (n : Nat) : Prop where
  n1 : 1 ≤ n
  n4 : n ≤ 4
  len : n ≤ rows.length
  len4 : rows.length ≤ n + 4
  wide : ∀ r ∈ rows, r.length = n
  tie : ∀ r ∈ rows, ∀ t ∈ r, -50 ≤ t ∧ t ≤ 50
  even : ∃ d : Nat → Int, (∀ i, i < n → 0 < d i) ∧ ∀ i j, i < n → j < n → d i * ent rows i j = -(d j * ent rows j i)
def matRow (n : Nat) (b : Nat → Int) : List Int := (List.range n).map b
def matRows (n : Nat) (B : Nat → Nat → Int) : List (List Int) := (List.range n).map fun i => matRow n (B i)
theorem matRow_len (n : Nat) (b : Nat → Int) : (matRow n b).length = n := by simp [matRow]
theorem matRows_len (n : Nat) (B : Nat → Nat → Int) : (matRows n B).length = n := by simp [matRows]
theorem matRow_get {n : Nat} {b : Nat → Int} {j : Nat} (h : j < n) : (matRow n b)[j]? = some (b j) := by simp [matRow, h]
theorem matRows_get {n : Nat} {B : Nat → Nat → Int} {i : Nat} (h : i < n) : (matRows n B)[i]? = some (matRow n (B i)) := by simp [matRows, h]
theorem matRow_getD {n : Nat} {b : Nat → Int} {j : Nat} (h : j < n) : (matRow n b).getD j 0 = b j := by simp [matRow, h]
theorem matRow_set {n : Nat} {b : Nat → Int} {j : Nat} {v : Int} : (matRow n b).set j v = matRow n (fun k => if k = j then v else b k) := by
  apply List.ext_getElem?
  intro k
  rw [List.getElem?_set]
  by_cases hk : k < n
  · rw [matRow_get hk, matRow_get hk]
    by_cases e : j = k
    · subst e
      simp [matRow_len, hk]
    · rw [if_neg e, if_neg (fun z => e z.symm)]
  · have h1 : (matRow n b)[k]? = none := List.getElem?_eq_none (by rw [matRow_len]; omega)
    have h2 : (matRow n fun k => if k = j then v else b k)[k]? = none := List.getElem?_eq_none (by rw [matRow_len]; omega)
    rw [h1, h2, matRow_len]
    split
    · rw [if_neg (by omega)]
    · rfl
theorem rep_flat (n : Nat) : (List.replicate n [V.int 0]).flatten = (matRow n fun _ => 0).map V.int := by
  apply List.ext_getElem?
  intro k
  have e : (matRow n fun _ => (0 : Int)) = List.replicate n 0 := by
    unfold matRow
    rw [List.map_const', List.length_range]
  rw [e, List.map_replicate, List.flatten_replicate_singleton]
end Bw
set_option Elab.async false
set_option linter.all false
set_option maxRecDepth 100000
set_option maxHeartbeats 2000000
namespace Bw
open PySem PySem.Spec PyProof.Rows L2
/-! ### lists of rows that may still be written -/
def RowsAt (H : Hp) (as : List Addr) (n : Nat) (B : Nat → Nat → Int) : Prop := as.length = n ∧ as.Nodup ∧ ∀ i b, as[i]? = some b → H b = some (.lst ((matRow n (B i)).map V.int))
def TabAt (H : Hp) (a : Addr) (rows : List (List Int)) : Prop := ∃ as : List Addr, H a = some (.tup (as.map V.ref)) ∧ as.length = rows.length ∧ ∀ (i : Nat) (r : List Int), rows[i]? = some r → ∃ b, as[i]? = some b ∧ H b = some (.tup (r.map V.int))
theorem TabAt.same {H H' : Hp} {a : Addr} {rows : List (List Int)} (s : Same H H') (h : TabAt H a rows) : TabAt H' a rows := by
  obtain ⟨as, h1, h2, h3⟩ := h
  exact ⟨as, s _ _ h1, h2, fun i r e => by
    obtain ⟨b, e1, e2⟩ := h3 i r e
    exact ⟨b, e1, s _ _ e2⟩⟩
theorem TabAt.but {H H' : Hp} {f l a : Addr} {rows : List (List Int)} (s : SameBut f H H') (hf : FeedAt H f l) (h : TabAt H a rows) : TabAt H' a rows := by
  obtain ⟨as, h1, h2, h3⟩ := h
  exact ⟨as, s _ _ (hf.tup h1) h1, h2, fun i r e => by
    obtain ⟨b, e1, e2⟩ := h3 i r e
    exact ⟨b, e1, s _ _ (hf.tup e2) e2⟩⟩
def put2 (B : Nat → Nat → Int) (i j : Nat) (v : Int) : Nat → Nat → Int := fun a b => if a = i ∧ b = j then v else B a b
theorem RowsAt.put {H : Hp} {as : List Addr} {n : Nat} {B : Nat → Nat → Int} (h : RowsAt H as n B) {i j : Nat} {b : Addr} (hb : as[i]? = some b) (v : Int) :
    RowsAt (upd H b (.lst (((matRow n (B i)).map V.int).set j (V.int v)))) as n (put2 B i j v) := by
  obtain ⟨h1, h2, h3⟩ := h
  refine ⟨h1, h2, fun k c e => ?_⟩
  by_cases hk : k = i
  · subst hk
    have : c = b := Option.some.inj (e.symm.trans hb)
    subst this
    rw [upd_same, ← List.map_set, matRow_set]
    have z : (fun k_1 => if k_1 = j then v else B k k_1) = put2 B k j v k := by
      funext y
      unfold put2
      by_cases hy : y = j
      · rw [if_pos hy, if_pos ⟨rfl, hy⟩]
      · rw [if_neg hy, if_neg (fun z => hy z.2)]
    rw [z]
  · have ne : c ≠ b := fun z => by
      subst z
      exact hk (nd_ix h2 e hb)
    rw [upd_ne ne, h3 k c e]
    have z : put2 B i j v k = B k := by
      funext y
      unfold put2
      rw [if_neg (fun z => hk z.1)]
    rw [z]
def loadAt (ls : List Int) (i : Nat) : Int := ls.getD i 1
structure Good (n : Nat) (r : Int) (ls : List Int) (B : Nat → Nat → Int) : Prop where
  len : ls.length = n
  load : ∀ x ∈ ls, 1 ≤ x ∧ x ≤ 4
  ev : ∀ i j, i < n → j < n → loadAt ls i * B i j = -(loadAt ls j * B j i)
  bd : ∀ i j, -(4 * r) ≤ B i j ∧ B i j ≤ 4 * r
theorem Good.zero {n : Nat} {r : Int} {ls : List Int} (h1 : ls.length = n) (h2 : ∀ x ∈ ls, 1 ≤ x ∧ x ≤ 4) (h3 : 0 ≤ r) : Good n r ls fun _ _ => 0 :=
  ⟨h1, h2, fun i j _ _ => by rw [Int.mul_zero, Int.mul_zero]; rfl, fun _ _ => ⟨by omega, by omega⟩⟩
theorem loadAt_get {ls : List Int} {i : Nat} {x : Int} (h : ls[i]? = some x) : loadAt ls i = x := by
  unfold loadAt
  rw [List.getD_eq_getElem?_getD, h]
  rfl
theorem mul_bd {t x r : Int} (h1 : -r ≤ t) (h2 : t ≤ r) (h3 : 0 ≤ x) (h4 : x ≤ 4) : -(4 * r) ≤ t * x ∧ t * x ≤ 4 * r := by
  have h0 : 0 ≤ r := by omega
  have a1 : t * x ≤ r * x := Int.mul_le_mul_of_nonneg_right h2 h3
  have a2 : r * x ≤ r * 4 := Int.mul_le_mul_of_nonneg_left h4 h0
  have a3 : -r * x ≤ t * x := Int.mul_le_mul_of_nonneg_right h1 h3
  have a4 : -r * x = -(r * x) := Int.neg_mul ..
  omega
theorem Good.put {n : Nat} {r : Int} {ls : List Int} {B : Nat → Nat → Int} (g : Good n r ls B) {i j : Nat} {x y t : Int} {c : Nat} (hij : i < j) (hi : ls[i]? = some x) (hj : ls[j]? = some y) (hc : 0 < c) (cx : (c : Int) ∣ x) (cy : (c : Int) ∣ y) (h1 : -r ≤ t) (h2 : t ≤ r) :
    Good n r ls (put2 (put2 B i j (t * (y / c))) j i (0 - t * (x / c))) := by
  have hx := g.load x (List.mem_of_getElem? hi)
  have hy := g.load y (List.mem_of_getElem? hj)
  obtain ⟨x', rfl⟩ := cx
  obtain ⟨y', rfl⟩ := cy
  have c0 : (c : Int) ≠ 0 := by omega
  have ex : (c : Int) * x' / c = x' := Int.mul_ediv_cancel_left _ c0
  have ey : (c : Int) * y' / c = y' := Int.mul_ediv_cancel_left _ c0
  rw [ex, ey]
  have x0 : 0 ≤ x' := by
    rcases Int.lt_or_le x' 0 with h | h
    · have := Int.mul_neg_of_pos_of_neg (show (0 : Int) < c by omega) h
      omega
    · exact h
  have y0 : 0 ≤ y' := by
    rcases Int.lt_or_le y' 0 with h | h
    · have := Int.mul_neg_of_pos_of_neg (show (0 : Int) < c by omega) h
      omega
    · exact h
  have x4 : x' ≤ 4 := by
    have : 1 * x' ≤ c * x' := Int.mul_le_mul_of_nonneg_right (by omega) x0
    omega
  have y4 : y' ≤ 4 := by
    have : 1 * y' ≤ c * y' := Int.mul_le_mul_of_nonneg_right (by omega) y0
    omega
  have b1 := mul_bd h1 h2 y0 y4
  have b2 := mul_bd h1 h2 x0 x4
  have key : (c : Int) * x' * (t * y') = -(c * y' * (0 - t * x')) := by
    rw [Int.zero_sub, Int.mul_neg, Int.neg_neg]
    rw [Int.mul_assoc, Int.mul_assoc, Int.mul_left_comm x' t y', Int.mul_left_comm y' t x', Int.mul_comm x' y']
  refine ⟨g.len, g.load, fun a b ha hb => ?_, fun a b => ?_⟩
  · unfold put2
    by_cases e1 : a = j ∧ b = i
    · obtain ⟨rfl, rfl⟩ := e1
      rw [if_pos ⟨rfl, rfl⟩, if_neg (fun z => by omega), if_pos ⟨rfl, rfl⟩, loadAt_get hi, loadAt_get hj]
      omega
    · rw [if_neg e1]
      by_cases e2 : a = i ∧ b = j
      · obtain ⟨rfl, rfl⟩ := e2
        rw [if_pos ⟨rfl, rfl⟩, if_pos ⟨rfl, rfl⟩, loadAt_get hi, loadAt_get hj]
        exact key
      · rw [if_neg e2, if_neg (fun z => e2 ⟨z.2, z.1⟩), if_neg (fun z => e1 ⟨z.2, z.1⟩)]
        exact g.ev a b ha hb
  · unfold put2
    by_cases e1 : a = j ∧ b = i
    · rw [if_pos e1]
      omega
    · rw [if_neg e1]
      by_cases e2 : a = i ∧ b = j
      · rw [if_pos e2]
        omega
      · rw [if_neg e2]
        exact g.bd a b
end Bw
set_option Elab.async false
set_option linter.all false
set_option maxRecDepth 100000
set_option maxHeartbeats 4000000
namespace Bw
open PySem PySem.Spec PyProof.Rows L2
section
variable {P : Program} {w : World} {K : PySem.W.Frag} {mg : Str → Option Value} {base : Heap}
abbrev s_law_even : Stmt := topS 34
abbrev n_law_even : List Str := ["_law_feed_here", "_law_many", "_law_reach", "_law_heavy", "_law_load", "_law_rows", "_law_i", "_law_j", "_law_tie", "_law_by", "_law_k", "_law_row"]
theorem sc_law_even : FnScope n_law_even ["_law_feed_here", "_law_many", "_law_reach"] (defScope s_law_even) := ⟨rfl, rfl, rfl, by decide +kernel, rfl, by decide +kernel, by decide +kernel⟩
def spEven : Sp := fun vs H Q _ => ∃ (f l : Addr) (n : Nat) (r : Int), vs = [.ref f, .int n, .int r] ∧ FeedAt H f l ∧ n ≤ 4 ∧ 1 ≤ r ∧ r ≤ 12 ∧
  ∀ (a : Addr) (ls : List Int) (B : Nat → Nat → Int) (H' : Hp), SameBut f H H' → FeedAt H' f l → TabAt H' a (matRows n B) → Good n r ls B → Q (.ref a) H'
theorem ok_even {f : Addr} {fd : FuncData} {k : Nat} (F : Fun K "_law_even" "_law_even" s_law_even f fd) (T : Tx mg) (c_law_draw : Cal P w K mg base CX0 1 "_law_draw" ["_law_feed_here", "_law_many"] spDraw)
    (c_law_pick : Cal P w K mg base CX0 2 "_law_pick" ["_law_feed_here", "_law_row"] spPick) (c_law_gcd : Cal P w K mg base CX0 1 "_law_gcd" ["_law_my_one", "_law_my_other"] spGcd) : FnOk P w K mg base CX0 3 f fd ["_law_feed_here", "_law_many", "_law_reach"] spEven := by
  refine F.ok sc_law_even (fun vs H Q E h => ?_) (fun cdv A outer s H vs Q E hr h => ?_)
  · obtain ⟨f, l, n, r, rfl, _⟩ := h
    rfl
  · obtain ⟨f, l, n, r, rfl, hf, n4, r1, r12, q⟩ := h
    have hr1 := hr.mono (show 1 ≤ 2 by decide)
    refine ⟨_, (pss_cons (ps_set (i := 3) sc_law_even.nd rfl (.inr rfl) (pe_cal c_law_pick hr (by rfl) (pa_cons (pv 0) (pa_cons (pe_lst (pa_cons (pe_lst (pa_cons pe_int pa_nil)) (pa_cons (pe_lst (pa_cons pe_int pa_nil)) (pa_cons (pe_lst (pa_cons pe_int (pa_cons pe_int pa_nil))) (pa_cons (pe_lst (pa_cons pe_int (pa_cons pe_int pa_nil))) (pa_cons (pe_lst (pa_cons pe_int (pa_cons pe_int (pa_cons pe_int pa_nil)))) pa_nil)))))) pa_nil))))
  (pss_cons (ps_setLc (i := 4) (own := [("_law_k", 10)]) (by rfl) sc_law_even.nd rfl rfl (sw_true rfl rfl rfl (by decide +kernel)) (pi_range1 (by rfl) T.range (pa_cons (pv 1) pa_nil)) (blkOk_by (own := [("_law_k", 10)]) (N := n_law_even) (sc := defScope s_law_even) (by decide +kernel)) (fun _ _ _ _ _ => (pg_name (i := 10) sc_law_even.nd rfl (.inl rfl))) (fun _ _ _ _ _ => pts_nil) (fun _ _ _ _ _ => (pe_cal c_law_pick hr (by rfl) (pa_cons (pv 0) (pa_cons (pv 3) pa_nil)))))
  (pss_cons (ps_setLc (i := 5) (own := [("_law_k", 10)]) (by rfl) sc_law_even.nd rfl rfl (sw_true rfl rfl rfl (by decide +kernel)) (pi_range1 (by rfl) T.range (pa_cons (pv 1) pa_nil)) (blkOk_by (own := [("_law_k", 10)]) (N := n_law_even) (sc := defScope s_law_even) (by decide +kernel)) (fun _ _ _ _ _ => (pg_name (i := 10) sc_law_even.nd rfl (.inl rfl))) (fun _ _ _ _ _ => pts_nil) (fun _ _ _ _ _ => (pe_op op_rep (pe_lst (pa_cons pe_int pa_nil)) (pv 1))))
  (pss_cons (ps_for PassesOwn.never rfl (pi_range1 (by rfl) T.range (pa_cons (pv 1) pa_nil)) (pg_name (i := 6) sc_law_even.nd rfl (.inl rfl))
    (pss_one (ps_for PassesOwn.never rfl (pi_range2 (by rfl) T.range (pa_cons (pe_op op_add (pv 6) pe_int) (pa_cons (pv 1) pa_nil))) (pg_name (i := 7) sc_law_even.nd rfl (.inl rfl))
      (pss_cons (ps_set (i := 8) sc_law_even.nd rfl (.inl rfl) (pe_cal c_law_pick hr (by rfl) (pa_cons (pv 0) (pa_cons (pe_lst (pa_cons pe_int (pa_cons pe_int (pa_cons (pe_un un_neg pe_int) (pa_cons pe_int (pa_cons (pe_op op_sub (pe_cal c_law_draw hr1 (by rfl) (pa_cons (pv 0) (pa_cons (pe_op op_add (pe_op op_mul pe_int (pv 2)) pe_int) pa_nil))) (pv 2)) pa_nil)))))) pa_nil))))
      (pss_cons (ps_set (i := 9) sc_law_even.nd rfl (.inl rfl) (pe_cal c_law_gcd hr1 (by rfl) (pa_cons (pe_ix ix_list (pv 4) (pv 6) (fun _ _ => rfl)) (pa_cons (pe_ix ix_list (pv 4) (pv 7) (fun _ _ => rfl)) pa_nil))))
      (pss_cons (ps_asg (pe_op op_mul (pv 8) (pe_op op_fdiv (pe_ix ix_list (pv 4) (pv 7) (fun _ _ => rfl)) (pv 9))) (pg_sub (pe_ix ix_list (pv 5) (pv 6) (fun _ _ => rfl)) (pv 7) set_list))
      (pss_one (ps_asg (pe_op op_sub pe_int (pe_op op_mul (pv 8) (pe_op op_fdiv (pe_ix ix_list (pv 4) (pv 6) (fun _ _ => rfl)) (pv 9)))) (pg_sub (pe_ix ix_list (pv 5) (pv 7) (fun _ _ => rfl)) (pv 6) set_list)))))))))
  (pss_one (ps_ret (pe_callTy (c_tup (K := K)) (by rfl) T.tuple (by decide +kernel) (pa_cons (pe_lc (own := [("_law_row", 11)]) (by rfl) sc_law_even.nd (pi_list (pv 5)) (blkOk_by (own := [("_law_row", 11)]) (N := n_law_even) (sc := defScope s_law_even) (by decide +kernel)) (fun _ _ _ _ _ => (pg_name (i := 11) sc_law_even.nd rfl (.inl rfl))) (fun _ _ _ _ _ => pts_nil) (fun _ _ _ _ _ => (pe_callTy (c_tup (K := K)) (by rfl) T.tuple (by decide +kernel) (pa_cons (pv 11) pa_nil)))) pa_nil)))))))), ?_⟩
    -- heavy = pick(feed, [..])
    refine ⟨.ref f, rfl, by show 1 ≤ sizeLine; decide, fun p1 e1 => ⟨by show 1 ≤ sizeLine; decide, fun p2 e2 => ⟨by show 2 ≤ sizeLine; decide, fun p3 e3 => ⟨by show 2 ≤ sizeLine; decide, fun p4 e4 => ⟨by show 3 ≤ sizeLine; decide, fun p5 e5 => ⟨by show 5 ≤ sizeLine; decide, fun o eo => ?_⟩⟩⟩⟩⟩⟩
    have s1 := same_upd (o := .lst [.int 1]) e1
    have s2 := same_upd (o := .lst [.int 1]) e2
    have s3 := same_upd (o := .lst [.int 1, .int 2]) e3
    have s4 := same_upd (o := .lst [.int 1, .int 3]) e4
    have s5 := same_upd (o := .lst [.int 1, .int 2, .int 4]) e5
    have s6 := same_upd (o := .lst [.ref p1, .ref p2, .ref p3, .ref p4, .ref p5]) eo
    have t5 := s5.trans s6
    have t4 := s4.trans t5
    have t3 := s3.trans t4
    have t2 := s2.trans t3
    have t1 := s1.trans t2
    have o0 : H o = none := s1.free (s2.free (s3.free (s4.free (s5.free eo))))
    refine ⟨f, l, o, _, rfl, hf.same t1, upd_same, hf.ne o0, by show 0 < 5; decide, by show 5 < 1000; decide, fun v H1 hv sb1 hf1 => ?_⟩
    have hv : ∃ (h : Addr) (hs : List Int), v = .ref h ∧ H h = none ∧ H1 h = some (.lst (hs.map V.int)) ∧ 0 < hs.length ∧ hs.length < 1000 ∧ ∀ x ∈ hs, 1 ≤ x ∧ x ≤ 4 := by
      simp only [List.mem_cons, List.not_mem_nil, or_false] at hv
      have p20 : H p2 = none := s1.free e2
      have p30 : H p3 = none := s1.free (s2.free e3)
      have p40 : H p4 = none := s1.free (s2.free (s3.free e4))
      have p50 : H p5 = none := s1.free (s2.free (s3.free (s4.free e5)))
      rcases hv with rfl | rfl | rfl | rfl | rfl
      · exact ⟨p1, [1], rfl, e1, sb1 _ _ (hf.ne e1) (t2 _ _ upd_same), by decide, by decide, by decide⟩
      · exact ⟨p2, [1], rfl, p20, sb1 _ _ (hf.ne p20) (t3 _ _ upd_same), by decide, by decide, by decide⟩
      · exact ⟨p3, [1, 2], rfl, p30, sb1 _ _ (hf.ne p30) (t4 _ _ upd_same), by decide, by decide, by decide⟩
      · exact ⟨p4, [1, 3], rfl, p40, sb1 _ _ (hf.ne p40) (t5 _ _ upd_same), by decide, by decide, by decide⟩
      · exact ⟨p5, [1, 2, 4], rfl, p50, sb1 _ _ (hf.ne p50) (s6 _ _ upd_same), by decide, by decide, by decide⟩
    obtain ⟨h, hs, rfl, h0, hh, hs0, hs1, hs4⟩ := hv
    have sb1 : SameBut f H H1 := (t1.but).trans sb1
    clear hv s1 s2 s3 s4 s5 s6 t1 t2 t3 t4 t5 eo e5 e4 e3 e2 e1
    -- load = [pick(feed, heavy) for k in range(many)]
    refine ⟨.int n, rfl, n, rfl, by omega, by omega, fun L eL => ?_⟩
    have L0 : H L = none := by
      by_cases z : L = f
      · subst z
        exact absurd rfl (hf1.ne eL)
      · cases y : H L with
        | none => rfl
        | some u =>
          rw [sb1 _ _ z y] at eL
          cases eL
    have nLf : L ≠ f := hf1.ne eL
    have nhL : h ≠ L := ne_of_none hh eL
    refine lc_range (fun i H' => ∃ ls : List Int, ls.length = i ∧ (∀ x ∈ ls, 1 ≤ x ∧ x ≤ 4) ∧ H' L = some (.lst (ls.map V.int)) ∧ SameBut f H H' ∧ FeedAt H' f l ∧ H' h = some (.lst (hs.map V.int))) ⟨[], rfl, by simp, upd_same, sb1.updN L0, hf1.put nLf (hf1.ne2 eL), by rw [upd_ne nhL]; exact hh⟩ ?_ ?_
    · rintro i H2 hi ⟨ls, el, hls, eL2, sb2, hf2, hh2⟩
      refine ⟨rfl, ?_⟩
      refine ⟨.ref f, rfl, .ref h, rfl, f, l, h, _, rfl, hf2, hh2, hf.ne h0, by rw [List.length_map]; omega, by rw [List.length_map]; omega, fun v H3 hv sb3 hf3 => ?_⟩
      obtain ⟨x, hx, rfl⟩ := List.mem_map.mp hv
      refine ⟨ls.map V.int, sb3 _ _ nLf eL2, by rw [List.length_map]; exact small1000 (by omega), ls ++ [x], by rw [List.length_append, el]; rfl, ?_, ?_, (sb2.trans sb3).updN L0, hf3.put nLf (hf.ne2 L0), ?_⟩
      · intro y hy
        rcases List.mem_append.mp hy with hy | hy
        · exact hls y hy
        · rw [List.mem_singleton.mp hy]
          exact hs4 x hx
      · rw [upd_same, List.map_append]
        rfl
      · rw [upd_ne nhL]
        exact sb3 _ _ (hf.ne h0) hh2
    · rintro H2 ⟨ls, el, hls, eL2, sb2, hf2, hh2⟩
      -- rows = [[0] * many for k in range(many)]
      refine ⟨.int n, rfl, n, rfl, by omega, by omega, fun R eR => ?_⟩
      have R0 : H R = none := by
        by_cases z : R = f
        · subst z
          exact absurd rfl (hf2.ne eR)
        · cases y : H R with
          | none => rfl
          | some u =>
            rw [sb2 _ _ z y] at eR
            cases eR
      have nRf : R ≠ f := hf2.ne eR
      have nRL : R ≠ L := Ne.symm (ne_of_none eL2 eR)
      refine lc_range (fun i H' => ∃ as : List Addr, as.length = i ∧ as.Nodup ∧ (∀ b ∈ as, H b = none ∧ b ≠ L ∧ b ≠ R ∧ H' b = some (.lst ((matRow n fun _ => 0).map V.int))) ∧ H' R = some (.lst (as.map V.ref)) ∧ SameBut f H H' ∧ FeedAt H' f l ∧ H' L = some (.lst (ls.map V.int))) ⟨[], rfl, List.nodup_nil, by simp, upd_same, sb2.updN R0, hf2.put nRf (hf2.ne2 eR), by rw [upd_ne nRL.symm]; exact eL2⟩ ?_ ?_
      · rintro i H3 hi ⟨as, ea, nd, has, eR3, sb3, hf3, eL3⟩
        refine ⟨rfl, ?_⟩
        refine ⟨by show 1 ≤ sizeLine; decide, fun z ez => ⟨.int n, rfl, z, n, _, rfl, rfl, upd_same, by omega, by omega, ?_, fun b eb => ?_⟩⟩
        · show 1 * ((n : Int)).toNat ≤ sizeLine
          exact Nat.le_of_lt (small1000 (by omega))
        · have sz := same_upd (o := .lst [.int 0]) ez
          have sb := same_upd (o := .lst (List.replicate ((n : Int)).toNat [V.int 0]).flatten) eb
          have b3 : H3 b = none := sz.free eb
          have b0 : H b = none := by
            by_cases z : b = f
            · subst z
              exact absurd rfl (hf3.ne b3)
            · cases y : H b with
              | none => rfl
              | some u =>
                rw [sb3 _ _ z y] at b3
                cases b3
          have nbR : b ≠ R := Ne.symm (ne_of_none eR3 b3)
          have nbL : b ≠ L := Ne.symm (ne_of_none eL3 b3)
          refine ⟨as.map V.ref, sb _ _ (sz _ _ eR3), by rw [List.length_map]; exact small1000 (by omega), as ++ [b], by rw [List.length_append, ea]; rfl, ?_, ?_, ?_, ((sb3.trans (sz.trans sb).but).updN R0), (hf3.same (sz.trans sb)).put nRf (hf.ne2 R0), ?_⟩
          · refine List.nodup_append.mpr ⟨nd, by simp, ?_⟩
            intro u hu v hv e
            rw [List.mem_singleton.mp hv] at e
            subst e
            have := (has _ hu).2.2.2
            rw [b3] at this
            cases this
          · intro u hu
            rcases List.mem_append.mp hu with hu | hu
            · obtain ⟨u0, u1, u2, u3⟩ := has u hu
              exact ⟨u0, u1, u2, by rw [upd_ne u2]; exact sb _ _ (sz _ _ u3)⟩
            · rw [List.mem_singleton.mp hu]
              refine ⟨b0, nbL, nbR, ?_⟩
              rw [upd_ne nbR, upd_same, Int.toNat_natCast, rep_flat]
          · rw [upd_same, List.map_append]
            rfl
          · rw [upd_ne nRL.symm]
            exact sb _ _ (sz _ _ eL3)
      · rintro H3 ⟨as, ea, nd, has, eR3, sb3, hf3, eL3⟩
        have rw0 : RowsAt H3 as n fun _ _ => 0 := ⟨ea, nd, fun i b e => (has b (List.mem_of_getElem? e)).2.2.2⟩
        have hb0 : ∀ b ∈ as, H b = none ∧ b ≠ L ∧ b ≠ R := fun b hb => ⟨(has b hb).1, (has b hb).2.1, (has b hb).2.2.1⟩
        have g0 : Good n r ls fun _ _ => 0 := Good.zero el hls (by omega)
        clear has
        -- the loops
        refine ⟨.int n, rfl, n, rfl, by omega, by omega, for_range (fun i σ H' => ∃ (y6 y7 y8 y9 : Option V) (B : Nat → Nat → Int), σ = [some (.ref f), some (.int n), some (.int r), some (.ref h), some (.ref L), some (.ref R), y6, y7, y8, y9, none, none] ∧ SameBut f H H' ∧ FeedAt H' f l ∧ H' L = some (.lst (ls.map V.int)) ∧ H' R = some (.lst (as.map V.ref)) ∧ RowsAt H' as n B ∧ Good n r ls B)
          ⟨none, none, none, none, _, rfl, sb3, hf3, eL3, eR3, rw0, g0⟩ ?_ ?_⟩
        · rintro i σ H4 hi ⟨y6, y7, y8, y9, B, rfl, sb4, hf4, eL4, eR4, rw4, g4⟩
          have hi : i < n := hi
          refine ⟨_, rfl, _, _, rfl, rfl, _, rfl, _, n, rfl, ⟨by omega, by omega, by omega, by omega⟩, for_range (fun j σ H' => ∃ (y7 y8 y9 : Option V) (B : Nat → Nat → Int), σ = [some (.ref f), some (.int n), some (.int r), some (.ref h), some (.ref L), some (.ref R), some (.int (0 + (i : Int))), y7, y8, y9, none, none] ∧ SameBut f H H' ∧ FeedAt H' f l ∧ H' L = some (.lst (ls.map V.int)) ∧ H' R = some (.lst (as.map V.ref)) ∧ RowsAt H' as n B ∧ Good n r ls B)
            ⟨y7, y8, y9, B, rfl, sb4, hf4, eL4, eR4, rw4, g4⟩ ?_ ?_⟩
          · rintro j σ H5 hj ⟨y7, y8, y9, B, rfl, sb5, hf5, eL5, eR5, rw5, g5⟩
            obtain ⟨J, hJ⟩ : ∃ J : Nat, (0 + (i : Int)) + 1 + (j : Int) = (J : Int) := ⟨i + 1 + j, by omega⟩
            rw [hJ]
            have hij : i < J := by omega
            have hJn : J < n := by omega
            have e0 : (0 : Int) + (i : Int) = (i : Int) := by omega
            rw [e0]
            -- tie = pick(feed, [0, 1, -1, 1, draw(2 * reach + 1) - reach])
            refine ⟨.ref f, rfl, 1, rfl, .ref f, rfl, .int r, rfl, _, _, rfl, rfl, .inl ⟨by decide, by decide⟩, _, _, rfl, rfl, f, l, _, rfl, hf5, by omega, by omega, fun u H6 u0 u1 sb6 hf6 => ?_⟩
            refine ⟨.int r, rfl, _, _, rfl, rfl, by show 5 ≤ sizeLine; decide, fun o eo => ?_⟩
            have so := same_upd (o := .lst [.int 0, .int 1, .int (-1), .int 1, .int (u - r)]) eo
            have nof : o ≠ f := hf6.ne eo
            refine ⟨f, l, o, _, rfl, hf6.same so, upd_same, nof, by show 0 < 5; decide, by show 5 < 1000; decide, fun v H7 hv sb7 hf7 => ?_⟩
            obtain ⟨t, rfl, t1, t2⟩ : ∃ t : Int, v = .int t ∧ -r ≤ t ∧ t ≤ r := by
              simp only [List.mem_cons, List.not_mem_nil, or_false] at hv
              rcases hv with rfl | rfl | rfl | rfl | rfl
              · exact ⟨0, rfl, by omega, by omega⟩
              · exact ⟨1, rfl, by omega, by omega⟩
              · exact ⟨-1, rfl, by omega, by omega⟩
              · exact ⟨1, rfl, by omega, by omega⟩
              · exact ⟨u - r, rfl, by omega, by omega⟩
            have sb57 : SameBut f H5 H7 := (sb6.trans so.but).trans sb7
            have eL7 := sb57 _ _ nLf eL5
            have eR7 := sb57 _ _ nRf eR5
            have rw7 : RowsAt H7 as n B := ⟨rw5.1, rw5.2.1, fun k b e => sb57 _ _ (hf.ne (hb0 b (List.mem_of_getElem? e)).1) (rw5.2.2 k b e)⟩
            have sb7 : SameBut f H H7 := sb5.trans sb57
            clear sb57 so eo nof sb6 hf6 sb5 hf5
            -- by = gcd(load[i], load[j])
            have il : i < ls.length := by omega
            have jl : J < ls.length := by omega
            obtain ⟨x, hx⟩ : ∃ x, ls[i]? = some x := ⟨_, List.getElem?_eq_getElem il⟩
            obtain ⟨y, hy⟩ : ∃ y, ls[J]? = some y := ⟨_, List.getElem?_eq_getElem jl⟩
            have gx : (ls.map V.int)[i]? = some (.int x) := by rw [List.getElem?_map, hx]; rfl
            have gy : (ls.map V.int)[J]? = some (.int y) := by rw [List.getElem?_map, hy]; rfl
            have x1 := hls x (List.mem_of_getElem? hx)
            have y1 := hls y (List.mem_of_getElem? hy)
            obtain ⟨xn, rfl⟩ : ∃ xn : Nat, x = (xn : Int) := ⟨x.toNat, by omega⟩
            obtain ⟨yn, rfl⟩ : ∃ yn : Nat, y = (yn : Int) := ⟨y.toNat, by omega⟩
            refine ⟨_, rfl, _, rfl, L, _, i, _, rfl, rfl, SqL.of eL7, atI_nat gx, _, rfl, _, rfl, L, _, J, _, rfl, rfl, SqL.of eL7, atI_nat gy, xn, yn, rfl, ?_⟩
            have c0 : 0 < Nat.gcd xn yn := Nat.gcd_pos_of_pos_left _ (by omega)
            have c4 : Nat.gcd xn yn ≤ 4 := Nat.le_trans (Nat.gcd_le_left _ (by omega)) (by omega)
            obtain ⟨bi, hbi⟩ : ∃ b, as[i]? = some b := ⟨_, List.getElem?_eq_getElem (by omega)⟩
            obtain ⟨bj, hbj⟩ : ∃ b, as[J]? = some b := ⟨_, List.getElem?_eq_getElem (by omega)⟩
            have gbi : (as.map V.ref)[i]? = some (.ref bi) := by rw [List.getElem?_map, hbi]; rfl
            have gbj : (as.map V.ref)[J]? = some (.ref bj) := by rw [List.getElem?_map, hbj]; rfl
            obtain ⟨bi0, biL, biR⟩ := hb0 bi (List.mem_of_getElem? hbi)
            obtain ⟨bj0, bjL, bjR⟩ := hb0 bj (List.mem_of_getElem? hbj)
            have gd := Good.put g5 hij hx hy c0 (Int.natCast_dvd_natCast.mpr (Nat.gcd_dvd_left xn yn)) (Int.natCast_dvd_natCast.mpr (Nat.gcd_dvd_right xn yn)) t1 t2
            generalize Nat.gcd xn yn = c at c0 c4 gd
            -- rows[i][j] = tie * (load[j] // by)
            refine ⟨.int t, rfl, _, rfl, _, rfl, L, _, J, _, rfl, rfl, SqL.of eL7, atI_nat gy, .int c, rfl, _, _, rfl, rfl, ⟨by omega, by omega⟩, _, _, rfl, rfl, .inl ⟨by omega, by omega⟩, ?_⟩
            refine ⟨_, rfl, _, rfl, R, _, i, _, rfl, rfl, SqL.of eR7, atI_nat gbi, _, rfl, bi, _, J, J, rfl, rfl, rw7.2.2 i bi hbi, ?_, ?_⟩
            · unfold ixN
              rw [if_pos (by omega), List.length_map, matRow_len, if_pos (by omega), Int.toNat_natCast]
            have rw8 := RowsAt.put rw7 (j := J) hbi (t * ((yn : Int) / (c : Int)))
            have eL8 := (upd_ne (H := H7) (o := .lst (((matRow n (B i)).map V.int).set J (V.int (t * ((yn : Int) / (c : Int)))))) (Ne.symm biL)).trans eL7
            have eR8 := (upd_ne (H := H7) (o := .lst (((matRow n (B i)).map V.int).set J (V.int (t * ((yn : Int) / (c : Int)))))) (Ne.symm biR)).trans eR7
            have sb8 := sb7.updN (o := .lst (((matRow n (B i)).map V.int).set J (V.int (t * ((yn : Int) / (c : Int)))))) bi0
            have hf8 := hf7.put (o := .lst (((matRow n (B i)).map V.int).set J (V.int (t * ((yn : Int) / (c : Int)))))) (hf.ne bi0) (hf.ne2 bi0)
            generalize upd H7 bi (.lst (((matRow n (B i)).map V.int).set J (V.int (t * ((yn : Int) / (c : Int)))))) = H8 at rw8 eL8 eR8 sb8 hf8
            -- rows[j][i] = 0 - tie * (load[i] // by)
            refine ⟨.int t, rfl, _, rfl, _, rfl, L, _, i, _, rfl, rfl, SqL.of eL8, atI_nat gx, .int c, rfl, _, _, rfl, rfl, ⟨by omega, by omega⟩, _, _, rfl, rfl, .inl ⟨by omega, by omega⟩, _, _, rfl, rfl, ?_⟩
            refine ⟨_, rfl, _, rfl, R, _, J, _, rfl, rfl, SqL.of eR8, atI_nat gbj, _, rfl, bj, _, i, i, rfl, rfl, rw8.2.2 J bj hbj, ?_, ?_⟩
            · unfold ixN
              rw [if_pos (by omega), List.length_map, matRow_len, if_pos (by omega), Int.toNat_natCast]
            exact ⟨_, _, _, _, rfl, sb8.updN bj0, hf8.put (hf.ne bj0) (hf.ne2 bj0), (upd_ne (Ne.symm bjL)).trans eL8, (upd_ne (Ne.symm bjR)).trans eR8, RowsAt.put rw8 hbj _, gd⟩
          · rintro σ H5 ⟨y7, y8, y9, B, rfl, rest⟩
            exact ⟨_, y7, y8, y9, B, rfl, rest⟩
        · rintro σ H4 ⟨y6, y7, y8, y9, B, rfl, sb4, hf4, eL4, eR4, rw4, g4⟩
          -- return tuple([tuple(row) for row in rows])
          refine ⟨_, rfl, R, rfl, ⟨_, SqL.of eR4⟩, fun D eD => ?_⟩
          have D0 : H D = none := by
            by_cases z : D = f
            · subst z
              exact absurd rfl (hf4.ne eD)
            · cases y : H D with
              | none => rfl
              | some u =>
                rw [sb4 _ _ z y] at eD
                cases eD
          have sD := same_upd (o := .lst []) eD
          have nDR : R ≠ D := ne_of_none eR4 eD
          refine lc_list (K := K) (a := R) (xs := as.map V.ref) (fun i H' => ∃ ts : List Addr, ts.length = i ∧ (∀ (k : Nat) (b : Addr), ts[k]? = some b → H' b = some (.tup ((matRow n (B k)).map V.int))) ∧ H' D = some (.lst (ts.map V.ref)) ∧ (∀ b o, b ≠ D → H4 b = some o → H' b = some o)) ⟨[], rfl, by simp, upd_same, fun b o nb e => by rw [upd_ne nb]; exact e⟩ (fun i H' _ ⟨ts, _, _, _, k⟩ => SqL.of (k _ _ nDR eR4)) ?_ ?_
          · rintro i v H5 hv ⟨ts, et, hts, eD5, k5⟩
            rw [List.getElem?_map] at hv
            cases ei : as[i]? with
            | none =>
              rw [ei] at hv
              cases hv
            | some b =>
              rw [ei] at hv
              cases hv
              have hb5 : H5 b = some (.lst ((matRow n (B i)).map V.int)) := k5 _ _ (ne_of_none (rw4.2.2 i b ei) eD) (rw4.2.2 i b ei)
              refine ⟨rfl, .ref b, rfl, b, _, rfl, .inl ⟨SqL.of hb5, fun p ep => ?_⟩⟩
              have sp := same_upd (o := .tup ((matRow n (B i)).map V.int)) ep
              have npD : p ≠ D := Ne.symm (ne_of_none eD5 ep)
              refine ⟨ts.map V.ref, sp _ _ eD5, by rw [List.length_map]; exact small1000 (by have := (List.getElem?_eq_some_iff.mp ei).1; omega), ts ++ [p], by rw [List.length_append, et]; rfl, fun k c e => ?_, ?_, fun c o nc e => ?_⟩
              · rw [List.getElem?_append] at e
                split at e
                · have hc := hts k c e
                  have ncD : c ≠ D := ne_of hc eD5 (by intro z; cases z)
                  rw [upd_ne ncD]
                  exact sp _ _ hc
                · next hk =>
                  have : k = i := by
                    have h2 := (List.getElem?_eq_some_iff.mp e).1
                    rw [List.length_singleton] at h2
                    omega
                  subst this
                  have : c = p := by
                    have z : k - ts.length = 0 := by omega
                    rw [z] at e
                    exact (Option.some.inj e).symm
                  subst this
                  rw [upd_ne npD, upd_same]
              · rw [upd_same, List.map_append]
                rfl
              · rw [upd_ne nc]
                exact sp _ _ (k5 _ _ nc e)
          · rintro H5 ⟨ts, et, hts, eD5, k5⟩
            refine ⟨D, _, rfl, .inl ⟨SqL.of eD5, fun a ea => ?_⟩⟩
            have sa := same_upd (o := .tup (ts.map V.ref)) ea
            have sb5 : SameBut f H H5 := fun b o nb e => k5 _ _ (ne_of_none e D0) (sb4 _ _ nb e)
            have hf5 : FeedAt H5 f l := by
              obtain ⟨ns, i, n, m, c, a1, a2, a3, a4⟩ := hf4
              exact ⟨ns, i, n, m, c, a1, k5 _ _ (ne_of_none a2 eD) a2, k5 _ _ (ne_of_none a3 eD) a3, a4⟩
            refine q a ls B _ (sb5.trans sa.but) (hf5.same sa) ⟨ts, upd_same, ?_, fun i r e => ?_⟩ g4
            · rw [matRows_len, et, List.length_map]
              exact rw4.1
            · have hi : i < n := by
                have := (List.getElem?_eq_some_iff.mp e).1
                rw [matRows_len] at this
                exact this
              rw [matRows_get hi] at e
              cases e
              have ht : i < ts.length := by
                rw [et, List.length_map]
                omega
              exact ⟨_, List.getElem?_eq_getElem ht, sa _ _ (hts i _ (List.getElem?_eq_getElem ht))⟩
end
end Bw
set_option Elab.async false
set_option linter.all false
set_option maxRecDepth 100000
set_option maxHeartbeats 4000000
namespace Bw
open PySem PySem.Spec PyProof.Rows L2
theorem SameBut.none {f l a : Addr} {H H1 : Hp} (s : SameBut f H H1) (h : FeedAt H1 f l) (e : H1 a = none) : H a = none := by
  by_cases z : a = f
  · subst z
    exact absurd rfl (h.ne e)
  · cases y : H a with
    | none => rfl
    | some u =>
      rw [s _ _ z y] at e
      cases e
section
variable {P : Program} {w : World} {K : PySem.W.Frag} {mg : Str → Option Value} {base : Heap}
abbrev s_law_roots : Stmt := topS 35
abbrev n_law_roots : List Str := ["_law_feed_here", "_law_ties", "_law_most", "_law_reach", "_law_rows", "_law_k", "_law_my_one"]
theorem sc_law_roots : FnScope n_law_roots ["_law_feed_here", "_law_ties", "_law_most", "_law_reach"] (defScope s_law_roots) := ⟨rfl, rfl, rfl, by decide +kernel, rfl, by decide +kernel, by decide +kernel⟩
/-- roots for a table of n buds: new rows of n numbers from -r to r -/
def spRoots : Sp := fun vs H Q _ => ∃ (f l a : Addr) (rows : List (List Int)) (n m : Nat) (r : Int), vs = [.ref f, .ref a, .int m, .int r] ∧ FeedAt H f l ∧ TabAt H a rows ∧ 1 ≤ n ∧ n ≤ 4 ∧ rows.length ≤ 8 ∧ 1 ≤ rows.length ∧ (∀ x ∈ rows, x.length = n) ∧ m ≤ 4 ∧ 0 ≤ r ∧ r ≤ 50 ∧
  ∀ (b : Addr) (more : List (List Int)) (H' : Hp), SameBut f H H' → FeedAt H' f l → TabAt H' b (rows ++ more) → more.length ≤ m → (∀ x ∈ more, x.length = n ∧ ∀ t ∈ x, -r ≤ t ∧ t ≤ r) → Q (.ref b) H'
theorem ok_roots {f : Addr} {fd : FuncData} {k : Nat} (F : Fun K "_law_roots" "_law_roots" s_law_roots f fd) (T : Tx mg) (c_law_draw : Cal P w K mg base CX0 1 "_law_draw" ["_law_feed_here", "_law_many"] spDraw) :
    FnOk P w K mg base CX0 2 f fd ["_law_feed_here", "_law_ties", "_law_most", "_law_reach"] spRoots := by
  refine F.ok sc_law_roots (fun vs H Q E h => ?_) (fun cdv A outer s H vs Q E hr h => ?_)
  · obtain ⟨f, l, a, rows, n, m, r, rfl, _⟩ := h
    rfl
  · obtain ⟨f, l, a, rows, n, m, r, rfl, hf, hT, n1, n4, hl8, hl1, hw, m4, r0, r50, q⟩ := h
    refine ⟨_, (pss_cons (ps_set (i := 4) sc_law_roots.nd rfl (.inl rfl) (pe_callTy (c_lst (K := K)) (by rfl) T.list (by decide +kernel) (pa_cons (pv 1) pa_nil)))
  (pss_cons (ps_for PassesOwn.never rfl (pi_range1 (by rfl) T.range (pa_cons (pe_cal c_law_draw hr (by rfl) (pa_cons (pv 0) (pa_cons (pe_op op_add (pv 2) pe_int) pa_nil))) pa_nil)) (pg_name (i := 5) sc_law_roots.nd rfl (.inl rfl))
    (pss_one (ps_expr (pe_bm PySem.F.plainAttrs_list PySem.F.slot_list_append PySem.F.type_list_append mt_append (pv 4) (pa_cons (pe_callTy (c_tup (K := K)) (by rfl) T.tuple (by decide +kernel) (pa_cons (pe_lc (own := [("_law_my_one", 6)]) (by rfl) sc_law_roots.nd (p_tup (K := K) (pe_ix (i_tup (K := K)) (pv 1) pe_int (fun _ _ => rfl))) (blkOk_by (own := [("_law_my_one", 6)]) (N := n_law_roots) (sc := defScope s_law_roots) (by decide +kernel)) (fun _ _ _ _ _ => (pg_name (i := 6) sc_law_roots.nd rfl (.inl rfl))) (fun _ _ _ _ _ => pts_nil) (fun _ _ _ _ _ => (pe_op op_sub (pe_cal c_law_draw hr (by rfl) (pa_cons (pv 0) (pa_cons (pe_op op_add (pe_op op_mul pe_int (pv 3)) pe_int) pa_nil))) (pv 3)))) pa_nil)) pa_nil)))))
  (pss_one (ps_ret (pe_callTy (c_tup (K := K)) (by rfl) T.tuple (by decide +kernel) (pa_cons (pv 4) pa_nil)))))), ?_⟩
    obtain ⟨as, ha, hal, has⟩ := id hT
    -- rows = list(ties)
    refine ⟨.ref a, rfl, a, _, rfl, .inr (SqT.of ha), fun R eR => ?_⟩
    have sR := same_upd (o := .lst (as.map V.ref)) eR
    have nRf : R ≠ f := hf.ne eR
    have nRl : R ≠ l := hf.ne2 eR
    -- range(draw(most + 1))
    refine ⟨.ref f, rfl, .int m, rfl, _, _, rfl, rfl, f, l, _, rfl, hf.same sR, by omega, by omega, fun u H1 u0 u1 sb1 hf1 => ?_⟩
    refine ⟨u, rfl, by omega, by omega, ?_⟩
    have hd0 : ∃ r0 b0, rows[0]? = some r0 ∧ as[0]? = some b0 ∧ H b0 = some (.tup (r0.map V.int)) ∧ r0.length = n := by
      have z : 0 < rows.length := by omega
      obtain ⟨b0, e1, e2⟩ := has 0 _ (List.getElem?_eq_getElem z)
      exact ⟨_, b0, List.getElem?_eq_getElem z, e1, e2, hw _ (List.getElem_mem z)⟩
    obtain ⟨r0', b0, er0, eb0, hb0, lr0⟩ := hd0
    refine for_range (fun i σ H' => ∃ (y5 : Option V) (ts : List Addr) (more : List (List Int)), σ = [some (.ref f), some (.ref a), some (.int m), some (.int r), some (.ref R), y5, none] ∧ SameBut f H H' ∧ FeedAt H' f l ∧ H' R = some (.lst ((as ++ ts).map V.ref)) ∧ ts.length = i ∧ more.length = i ∧
      (∀ (k : Nat) (x : List Int), more[k]? = some x → ∃ b, ts[k]? = some b ∧ H' b = some (.tup (x.map V.int))) ∧ (∀ x ∈ more, x.length = n ∧ ∀ t ∈ x, -r ≤ t ∧ t ≤ r)) ?_ ?_ ?_
    · exact ⟨none, [], [], rfl, (sR.but).trans sb1, hf1, by rw [List.append_nil]; exact sb1 _ _ nRf upd_same, rfl, rfl, by simp, by simp⟩
    · rintro i σ H2 hi ⟨y5, ts, more, rfl, sb2, hf2, eR2, lt, lm, hts, hmo⟩
      have ha2 := sb2 _ _ (hf.tup ha) ha
      have hb2 := sb2 _ _ (hf.tup hb0) hb0
      have g0 : (as.map V.ref)[0]? = some (.ref b0) := by rw [List.getElem?_map, eb0]; rfl
      -- rows.append(tuple([..]))
      refine ⟨.ref R, rfl, .inl ⟨rfl, _, SqL.of eR2⟩, .ref a, rfl, a, _, 0, .ref b0, rfl, rfl, SqT.of ha2, atI_nat (j := 0) g0, b0, rfl, ⟨_, SqT.of hb2⟩, fun D eD => ?_⟩
      have D0 : H D = none := sb2.none hf2 eD
      have nDf : D ≠ f := hf2.ne eD
      have nDR : D ≠ R := Ne.symm (ne_of_none eR2 eD)
      refine lc_tup (K := K) (a := b0) (xs := r0'.map V.int) (fun j H' => ∃ x : List Int, x.length = j ∧ (∀ t ∈ x, -r ≤ t ∧ t ≤ r) ∧ H' D = some (.lst (x.map V.int)) ∧ FeedAt H' f l ∧ (∀ b o, b ≠ D → b ≠ f → H2 b = some o → H' b = some o)) ⟨[], rfl, by simp, upd_same, hf2.put nDf (hf2.ne2 eD), fun b o h1 h2 e => by rw [upd_ne h1]; exact e⟩
        (fun j H' _ ⟨x, _, _, _, _, k⟩ => SqT.of (k _ _ (ne_of_none hb2 eD) (hf.tup hb0) hb2)) ?_ ?_
      · rintro j v H3 hv ⟨x, lx, hx, eD3, hf3, k3⟩
        refine ⟨rfl, .ref f, rfl, .int r, rfl, _, _, rfl, rfl, .inl ⟨by decide, by decide⟩, _, _, rfl, rfl, f, l, _, rfl, hf3, by omega, by omega, fun t H4 t0 t1 sb4 hf4 => ?_⟩
        have hj : j < n := by
          have := (List.getElem?_eq_some_iff.mp hv).1
          rw [List.length_map] at this
          omega
        refine ⟨.int r, rfl, _, _, rfl, rfl, x.map V.int, sb4 _ _ nDf eD3, by rw [List.length_map]; exact small1000 (by omega), x ++ [t - r], by rw [List.length_append, lx]; rfl, fun z hz => ?_, ?_, hf4.put nDf (hf.ne2 D0), fun b o h1 h2 e => ?_⟩
        · rcases List.mem_append.mp hz with hz | hz
          · exact hx z hz
          · rw [List.mem_singleton.mp hz]
            omega
        · rw [upd_same, List.map_append]
          rfl
        · rw [upd_ne h1]
          exact sb4 _ _ h2 (k3 _ _ h1 h2 e)
      · rintro H3 ⟨x, lx, hx, eD3, hf3, k3⟩
        rw [List.length_map, lr0] at lx
        refine ⟨D, _, rfl, .inl ⟨SqL.of eD3, fun p ep => ?_⟩⟩
        have sp := same_upd (o := .tup (x.map V.int)) ep
        have eR3 := k3 _ _ (Ne.symm nDR) nRf eR2
        have npR : p ≠ R := Ne.symm (ne_of_none eR3 ep)
        refine ⟨R, _, _, rfl, rfl, sp _ _ eR3, ?_, ?_⟩
        · rw [List.length_map, List.length_append]
          exact small1000 (by omega)
        · refine ⟨_, ts ++ [p], more ++ [x], rfl, ?_, (hf3.same sp).put nRf nRl, ?_, by rw [List.length_append, lt]; rfl, by rw [List.length_append, lm]; rfl, fun k z e => ?_, fun z hz => ?_⟩
          · refine SameBut.updN (fun b o nb e => sp _ _ (k3 _ _ (ne_of_none e D0) nb (sb2 _ _ nb e))) eR
          · rw [upd_same, ← List.append_assoc, List.map_append (l₂ := [p])]
            rfl
          · rw [List.getElem?_append] at e
            split at e
            · next hk =>
              obtain ⟨b, e1, e2⟩ := hts k z e
              refine ⟨b, by rw [List.getElem?_append, if_pos (by omega)]; exact e1, ?_⟩
              have nbR : b ≠ R := ne_of e2 eR2 (by intro z; cases z)
              rw [upd_ne nbR]
              exact sp _ _ (k3 _ _ (ne_of_none e2 eD) (hf2.tup e2) e2)
            · next hk =>
              have h2 := (List.getElem?_eq_some_iff.mp e).1
              rw [List.length_singleton] at h2
              have z0 : k - more.length = 0 := by omega
              rw [z0] at e
              have : x = z := Option.some.inj e
              subst this
              refine ⟨p, ?_, ?_⟩
              · rw [List.getElem?_append, if_neg (by omega)]
                have z1 : k - ts.length = 0 := by omega
                rw [z1]
                rfl
              · rw [upd_ne npR, upd_same]
          · rcases List.mem_append.mp hz with hz | hz
            · exact hmo z hz
            · rw [List.mem_singleton.mp hz]
              exact ⟨lx, hx⟩
    · rintro σ H2 ⟨y5, ts, more, rfl, sb2, hf2, eR2, lt, lm, hts, hmo⟩
      refine ⟨.ref R, rfl, R, _, rfl, .inl ⟨SqL.of eR2, fun p ep => ?_⟩⟩
      have sp := same_upd (o := .tup ((as ++ ts).map V.ref)) ep
      refine q p more _ (sb2.trans sp.but) (hf2.same sp) ⟨as ++ ts, upd_same, by rw [List.length_append, List.length_append, hal, lt, lm], fun i x e => ?_⟩ (by omega) hmo
      rw [List.getElem?_append] at e
      split at e
      · next hk =>
        obtain ⟨b, e1, e2⟩ := has i x e
        exact ⟨b, by rw [List.getElem?_append, if_pos (by omega)]; exact e1, sp _ _ (sb2 _ _ (hf.tup e2) e2)⟩
      · next hk =>
        obtain ⟨b, e1, e2⟩ := hts _ x e
        exact ⟨b, by rw [List.getElem?_append, if_neg (by omega), hal]; exact e1, sp _ _ e2⟩
end
end Bw
set_option Elab.async false
set_option linter.all false
set_option maxRecDepth 100000
set_option maxHeartbeats 4000000
namespace Bw
open PySem PySem.Spec PyProof.Rows L2
theorem ent_mat {n : Nat} {B : Nat → Nat → Int} {more : List (List Int)} {i j : Nat} (hi : i < n) (hj : j < n) : ent (matRows n B ++ more) i j = B i j := by
  unfold ent
  have e : (matRows n B ++ more).getD i [] = matRow n (B i) := by
    rw [List.getD_eq_getElem?_getD, List.getElem?_append, if_pos (by rw [matRows_len]; exact hi), matRows_get hi]
    rfl
  rw [e, matRow_getD hj]
theorem tabOk_drawn {n : Nat} {r : Int} {ls : List Int} {B : Nat → Nat → Int} {more : List (List Int)} (n1 : 1 ≤ n) (n4 : n ≤ 4) (g : Good n r ls B) (r1 : 0 ≤ r) (r12 : r ≤ 12) (hm : more.length ≤ 4) (hmo : ∀ x ∈ more, x.length = n ∧ ∀ t ∈ x, -50 ≤ t ∧ t ≤ 50) : TabOk (matRows n B ++ more) n := by
  have hmat : ∀ x ∈ matRows n B, ∃ i, i < n ∧ x = matRow n (B i) := fun x hx => by
    unfold matRows at hx
    obtain ⟨i, hi, rfl⟩ := List.mem_map.mp hx
    exact ⟨i, List.mem_range.mp hi, rfl⟩
  refine ⟨n1, n4, ?_, ?_, fun x hx => ?_, fun x hx t ht => ?_, loadAt ls, fun i hi => ?_, fun i j hi hj => ?_⟩
  · rw [List.length_append, matRows_len]
    omega
  · rw [List.length_append, matRows_len]
    omega
  · rcases List.mem_append.mp hx with hx | hx
    · obtain ⟨i, _, rfl⟩ := hmat x hx
      exact matRow_len ..
    · exact (hmo x hx).1
  · rcases List.mem_append.mp hx with hx | hx
    · obtain ⟨i, _, rfl⟩ := hmat x hx
      unfold matRow at ht
      obtain ⟨j, _, rfl⟩ := List.mem_map.mp ht
      have := g.bd i j
      omega
    · exact (hmo x hx).2 t ht
  · have h : i < ls.length := by
      rw [g.len]
      exact hi
    rw [loadAt_get (List.getElem?_eq_getElem h)]
    have := g.load _ (List.getElem_mem h)
    omega
  · rw [ent_mat hi hj, ent_mat hj hi]
    exact g.ev i j hi hj
section
variable {P : Program} {w : World} {K : PySem.W.Frag} {mg : Str → Option Value} {base : Heap}
abbrev s_law_table : Stmt := topS 36
abbrev n_law_table : List Str := ["_law_feed_here", "_law_most_buds", "_law_most_roots", "_law_ties"]
theorem sc_law_table : FnScope n_law_table ["_law_feed_here", "_law_most_buds", "_law_most_roots"] (defScope s_law_table) := ⟨rfl, rfl, rfl, by decide +kernel, rfl, by decide +kernel, by decide +kernel⟩
def spTable : Sp := fun vs H Q _ => ∃ (f l : Addr) (mb mr : Nat), vs = [.ref f, .int mb, .int mr] ∧ FeedAt H f l ∧ 1 ≤ mb ∧ mb ≤ 4 ∧ mr ≤ 4 ∧
  ∀ (a : Addr) (rows : List (List Int)) (n : Nat) (H' : Hp), SameBut f H H' → FeedAt H' f l → TabAt H' a rows → TabOk rows n → n ≤ mb → rows.length ≤ n + mr → Q (.ref a) H'
theorem ok_table {f : Addr} {fd : FuncData} (F : Fun K "_law_table" "_law_table" s_law_table f fd) (T : Tx mg) (c_law_draw : Cal P w K mg base CX0 1 "_law_draw" ["_law_feed_here", "_law_many"] spDraw)
    (c_law_even : Cal P w K mg base CX0 3 "_law_even" ["_law_feed_here", "_law_many", "_law_reach"] spEven) (c_law_roots : Cal P w K mg base CX0 2 "_law_roots" ["_law_feed_here", "_law_ties", "_law_most", "_law_reach"] spRoots) :
    FnOk P w K mg base CX0 4 f fd ["_law_feed_here", "_law_most_buds", "_law_most_roots"] spTable := by
  refine F.ok sc_law_table (fun vs H Q E h => ?_) (fun cdv A outer s H vs Q E hr h => ?_)
  · obtain ⟨f, l, mb, mr, rfl, _⟩ := h
    rfl
  · obtain ⟨f, l, mb, mr, rfl, hf, b1, b4, r4, q⟩ := h
    refine ⟨_, (pss_cons (ps_set (i := 3) sc_law_table.nd rfl (.inl rfl) (pe_cal c_law_even hr (by rfl) (pa_cons (pv 0) (pa_cons (pe_op op_add pe_int (pe_cal c_law_draw (hr.mono (by decide)) (by rfl) (pa_cons (pv 0) (pa_cons (pv 1) pa_nil)))) (pa_cons pe_int pa_nil)))))
  (pss_one (ps_ret (pe_cal c_law_roots (hr.mono (by decide)) (by rfl) (pa_cons (pv 0) (pa_cons (pv 3) (pa_cons (pv 2) (pa_cons pe_int pa_nil)))))))), ?_⟩
    refine ⟨.ref f, rfl, .ref f, rfl, .int mb, rfl, f, l, _, rfl, hf, by omega, by omega, fun v H1 v0 v1 sb1 hf1 => ?_⟩
    obtain ⟨n, hn⟩ : ∃ n : Nat, 1 + v = (n : Int) := ⟨(1 + v).toNat, by omega⟩
    refine ⟨_, _, rfl, rfl, f, l, n, 2, by show [V.ref f, V.int (1 + v), V.int 2] = _; rw [hn], hf1, by omega, by decide, by decide, fun a ls B H2 sb2 hf2 hT2 g2 => ?_⟩
    have hw : ∀ x ∈ matRows n B, x.length = n := fun x hx => by
      unfold matRows at hx
      obtain ⟨i, hi, rfl⟩ := List.mem_map.mp hx
      exact matRow_len ..
    refine ⟨.ref f, rfl, .ref a, rfl, .int mr, rfl, f, l, a, _, n, mr, 2, rfl, hf2, hT2, by omega, by omega, by rw [matRows_len]; omega, by rw [matRows_len]; omega, hw, r4, by decide, by decide, fun b more H3 sb3 hf3 hT3 hm hmo => ?_⟩
    refine q b _ n _ (sb1.trans (sb2.trans sb3)) hf3 hT3 (tabOk_drawn (by omega) (by omega) g2 (by decide) (by decide) (by omega) fun x hx => ⟨(hmo x hx).1, fun t ht => ?_⟩) (by omega) ?_
    · have := (hmo x hx).2 t ht
      omega
    · rw [List.length_append, matRows_len]
      omega
end
end Bw
set_option Elab.async false
set_option linter.all false
set_option maxRecDepth 100000
set_option maxHeartbeats 4000000
namespace Bw
open PySem PySem.Spec PyProof.Rows L2
theorem ip_mul {X : Cx} : PIp X .Mult (rI CMul fun i j => .int (i * j)) := fun pins s σ H x y v u Q I a b q => iop_mul pins s σ H x y v u Q I a b q
section
variable {P : Program} {w : World} {K : PySem.W.Frag} {mg : Str → Option Value} {base : Heap}
/-! ### is_number -/
abbrev s_is_number : Stmt := topS 6
abbrev n_is_number : List Str := ["thing"]
theorem sc_is_number : FnScope n_is_number ["thing"] (defScope s_is_number) := ⟨rfl, rfl, rfl, by decide +kernel, rfl, by decide +kernel, by decide +kernel⟩
def spIsNum : Sp := fun vs H Q _ => ∃ i : Int, vs = [.int i] ∧ Q (.bl true) H
theorem ok_isnum {f : Addr} {fd : FuncData} {k : Nat} (F : Fun K "is_number" "is_number" s_is_number f fd) (T : Tx mg) : FnOk P w K mg base CX0 (k + 1) f fd ["thing"] spIsNum := by
  refine F.ok sc_is_number (fun vs H Q E h => ?_) (fun cdv A outer s H vs Q E hr h => ?_)
  · obtain ⟨i, rfl, _⟩ := h
    rfl
  · obtain ⟨i, rfl, q⟩ := h
    refine ⟨_, (pss_one (ps_ret (pe_and (pe_callB (c_isi (K := K)) (by rfl) T.isinstance (by decide +kernel) (pa_cons (pv 0) (pa_cons (pe_bltn (v := .ty "int") (by rfl) T.int (by decide +kernel) rfl) pa_nil))) (pe_one (pe_not (pe_callB (c_isi (K := K)) (by rfl) T.isinstance (by decide +kernel) (pa_cons (pv 0) (pa_cons (pe_bltn (v := .ty "bool") (by rfl) T.bool (by decide +kernel) rfl) pa_nil)))))))), ?_⟩
    refine ⟨.int i, rfl, _, _, _, _, true, rfl, .ty "int", .base (.int i), kit_ty (by decide +kernel), true, rfl, ?_⟩
    exact ⟨.int i, rfl, _, _, _, _, false, rfl, .ty "bool", .base (.int i), kit_ty (by decide +kernel), false, rfl, q⟩
/-! ### is_row -/
abbrev s_is_row : Stmt := topS 11
abbrev n_is_row : List Str := ["row", "many", "tie"]
theorem sc_is_row : FnScope n_is_row ["row", "many"] (defScope s_is_row) := ⟨rfl, rfl, rfl, by decide +kernel, rfl, by decide +kernel, by decide +kernel⟩
def spIsRow : Sp := fun vs H Q _ => ∃ (a : Addr) (r : List Int), vs = [.ref a, .int r.length] ∧ H a = some (.tup (r.map V.int)) ∧ r.length ≤ 4 ∧ (∀ t ∈ r, -50 ≤ t ∧ t ≤ 50) ∧ ∀ H', Same H H' → Q (.bl true) H'
theorem all_rep (n : Nat) : (List.replicate n true).all id = true := by
  rw [List.all_eq_true]
  intro x hx
  exact List.eq_of_mem_replicate hx
theorem ok_isrow {f : Addr} {fd : FuncData} (F : Fun K "is_row" "is_row" s_is_row f fd) (T : Tx mg) (c_is_number : Cal P w K mg base CX0 1 "is_number" ["thing"] spIsNum) : FnOk P w K mg base CX0 2 f fd ["row", "many"] spIsRow := by
  refine F.ok sc_is_row (fun vs H Q E h => ?_) (fun cdv A outer s H vs Q E hr h => ?_)
  · obtain ⟨a, r, rfl, _⟩ := h
    rfl
  · obtain ⟨a, r, rfl, ha, l4, hb, q⟩ := h
    refine ⟨_, (pss_cons (ps_if (PW.pt (pw_or (pt_not (pt_val (pe_callB (c_isi (K := K)) (by rfl) T.isinstance (by decide +kernel) (pa_cons (pv 0) (pa_cons (pe_bltn (v := .ty "tuple") (by rfl) T.tuple (by decide +kernel) rfl) pa_nil))))) (pw_or1 (pt_cmpR op_ne (pe_callB (c_len (K := K)) (by rfl) T.len PySem.boot_len (pa_cons (pv 0) pa_nil)) (pv 1) (nomark _)))))
    (pss_one (ps_ret pe_bl))
    pss_nil)
  (pss_one (ps_ret (pe_callB (c_all (K := K) rfl) (by rfl) T.all (by decide +kernel) (pa_cons (pe_lc (own := [("tie", 2)]) (by rfl) sc_is_row.nd (p_tup (K := K) (pv 0)) (blkOk_by (own := [("tie", 2)]) (N := n_is_row) (sc := defScope s_is_row) (by decide +kernel)) (fun _ _ _ _ _ => (pg_name (i := 2) sc_is_row.nd rfl (.inl rfl))) (fun _ _ _ _ _ => pts_nil) (fun _ _ _ _ _ => (pe_and (pe_cal c_is_number hr (by rfl) (pa_cons (pv 2) pa_nil)) (pe_one (pe_cmpR op_le (pe_callB call_abs (by rfl) T.abs (by decide +kernel) (pa_cons (pv 2) pa_nil)) (pe_gint (by rfl) T.MOST_TIE) (nomark _)))))) pa_nil))))), ?_⟩
    refine ⟨.ref a, rfl, _, _, _, _, true, rfl, .ty "tuple", .base (.tup ha), kit_ty (by decide +kernel), true, rfl, ?_⟩
    refine iteF ⟨.ref a, rfl, a, _, rfl, .inr (SqT.of ha), .int r.length, rfl, rfl, _, rfl, ?_⟩
    rw [List.length_map]
    refine iteNS rfl ?_
    -- all([..])
    refine ⟨.ref a, rfl, a, rfl, ⟨_, SqT.of ha⟩, fun D eD => ?_⟩
    have naD : a ≠ D := ne_of_none ha eD
    refine lc_tup (K := K) (a := a) (xs := r.map V.int) (fun j H' => H' D = some (.lst ((List.replicate j true).map V.bl)) ∧ ∀ b o, b ≠ D → H b = some o → H' b = some o) ⟨upd_same, fun b o n e => by rw [upd_ne n]; exact e⟩ (fun j H' _ ⟨_, k⟩ => SqT.of (k _ _ naD ha)) ?_ ?_
    · rintro j v H1 hv ⟨e1, k1⟩
      obtain ⟨t, ht, rfl⟩ := int_at hv
      have hj : j < r.length := (List.getElem?_eq_some_iff.mp ht).1
      have hbt := hb t (List.mem_of_getElem? ht)
      refine ⟨rfl, .int t, rfl, t, rfl, true, rfl, ?_⟩
      refine ⟨.int t, rfl, t, rfl, _, _, rfl, rfl, _, e1, by rw [List.length_map, List.length_replicate]; exact small1000 (by omega), ?_, fun b o n e => ?_⟩
      · have ed : decide ((if t < 0 then -t else t) ≤ 50) = true := decide_eq_true (by split <;> omega)
        rw [upd_same]
        show some (HO.lst (_ ++ [V.bl (decide ((if t < 0 then -t else t) ≤ 50))])) = _
        rw [ed, List.replicate_succ', List.map_append]
        rfl
      · rw [upd_ne n]
        exact k1 _ _ n e
    · rintro H1 ⟨e1, k1⟩
      refine ⟨D, _, rfl, SqL.of e1, ?_⟩
      rw [all_rep]
      exact q _ fun b o e => k1 _ _ (ne_of_none e eD) e
/-! ### bud_count -/
abbrev s_bud_count : Stmt := topS 14
abbrev n_bud_count : List Str := ["table"]
theorem sc_bud_count : FnScope n_bud_count ["table"] (defScope s_bud_count) := ⟨rfl, rfl, rfl, by decide +kernel, rfl, by decide +kernel, by decide +kernel⟩
/-- a table's row, tracked -/
theorem TabAt.row {H : Hp} {a : Addr} {rows : List (List Int)} (h : TabAt H a rows) {i : Nat} (hi : i < rows.length) : ∃ (as : List Addr) (b : Addr), H a = some (.tup (as.map V.ref)) ∧ (as.map V.ref)[i]? = some (.ref b) ∧ H b = some (.tup ((rows.getD i []).map V.int)) := by
  obtain ⟨as, h1, h2, h3⟩ := h
  obtain ⟨b, e1, e2⟩ := h3 i _ (List.getElem?_eq_getElem hi)
  refine ⟨as, b, h1, by rw [List.getElem?_map, e1]; rfl, ?_⟩
  rw [List.getD_eq_getElem?_getD, List.getElem?_eq_getElem hi]
  exact e2
theorem row_len {rows : List (List Int)} {n i : Nat} (w : ∀ r ∈ rows, r.length = n) (hi : i < rows.length) : (rows.getD i []).length = n := by
  rw [List.getD_eq_getElem?_getD, List.getElem?_eq_getElem hi]
  exact w _ (List.getElem_mem hi)
def spBuds : Sp := fun vs H Q _ => ∃ (a : Addr) (rows : List (List Int)) (n : Nat), vs = [.ref a] ∧ TabAt H a rows ∧ 0 < rows.length ∧ (∀ r ∈ rows, r.length = n) ∧ Q (.int n) H
theorem ok_buds {f : Addr} {fd : FuncData} {k : Nat} (F : Fun K "bud_count" "bud_count" s_bud_count f fd) (T : Tx mg) : FnOk P w K mg base CX0 (k + 1) f fd ["table"] spBuds := by
  refine F.ok sc_bud_count (fun vs H Q E h => ?_) (fun cdv A outer s H vs Q E hr h => ?_)
  · obtain ⟨a, rows, n, rfl, _⟩ := h
    rfl
  · obtain ⟨a, rows, n, rfl, hT, h0, hw, q⟩ := h
    refine ⟨_, (pss_one (ps_ret (pe_callB (c_len (K := K)) (by rfl) T.len PySem.boot_len (pa_cons (pe_ix (i_tup (K := K)) (pv 0) pe_int (fun _ _ => rfl)) pa_nil)))), ?_⟩
    obtain ⟨as, b, e1, e2, e3⟩ := hT.row h0
    refine ⟨.ref a, rfl, a, _, 0, .ref b, rfl, rfl, SqT.of e1, atI_nat (j := 0) e2, b, _, rfl, .inr (SqT.of e3), ?_⟩
    rw [List.length_map, row_len hw h0]
    exact q
/-! ### pair_bars -/
abbrev s_pair_bars : Stmt := topS 16
abbrev n_pair_bars : List Str := ["table", "i", "j", "one", "other"]
theorem sc_pair_bars : FnScope n_pair_bars ["table", "i", "j"] (defScope s_pair_bars) := ⟨rfl, rfl, rfl, by decide +kernel, rfl, by decide +kernel, by decide +kernel⟩
def spPair : Sp := fun vs H Q _ => ∃ (a : Addr) (rows : List (List Int)) (n i j : Nat), vs = [.ref a, .int i, .int j] ∧ TabAt H a rows ∧ TabOk rows n ∧ i < n ∧ j < n ∧ Q (.bl false) H
theorem ent_get {rows : List (List Int)} {n i j : Nat} (w : ∀ r ∈ rows, r.length = n) (hi : i < rows.length) (hj : j < n) : ((rows.getD i []).map V.int)[j]? = some (.int (ent rows i j)) := by
  have h := row_len w hi
  unfold ent
  have hj2 : j < (rows.getD i []).length := by omega
  rw [List.getElem?_map, List.getElem?_eq_getElem hj2, List.getD_eq_getElem?_getD (i := j), List.getElem?_eq_getElem hj2]
  rfl
theorem ent_bd {rows : List (List Int)} {n i j : Nat} (O : TabOk rows n) (hi : i < rows.length) (hj : j < n) : -50 ≤ ent rows i j ∧ ent rows i j ≤ 50 := by
  have h := row_len O.wide hi
  have hj2 : j < (rows.getD i []).length := by omega
  have e : ent rows i j = (rows.getD i [])[j] := by
    unfold ent
    rw [List.getD_eq_getElem?_getD (i := j), List.getElem?_eq_getElem hj2]
    rfl
  rw [e]
  refine O.tie (rows.getD i []) ?_ _ (List.getElem_mem hj2)
  rw [List.getD_eq_getElem?_getD, List.getElem?_eq_getElem hi]
  exact List.getElem_mem hi
theorem pair_math {x y c d : Int} (hc : 0 < c) (hd : 0 < d) (e : c * x = -(d * y)) : (x = 0 ∧ y = 0) ∨ x * y < 0 := by
  rcases Int.lt_trichotomy x 0 with hx | hx | hx
  · right
    have h1 : c * x < 0 := Int.mul_neg_of_pos_of_neg hc hx
    have h2 : 0 < y := by
      rcases Int.lt_or_le 0 y with h | h
      · exact h
      · have := Int.mul_nonpos_of_nonneg_of_nonpos (Int.le_of_lt hd) h
        omega
    exact Int.mul_neg_of_neg_of_pos hx h2
  · left
    subst hx
    rw [Int.mul_zero] at e
    refine ⟨rfl, ?_⟩
    have : d * y = 0 := by omega
    rcases Int.mul_eq_zero.mp this with h | h
    · omega
    · exact h
  · right
    have h1 : 0 < c * x := Int.mul_pos hc hx
    have h2 : y < 0 := by
      rcases Int.lt_or_le y 0 with h | h
      · exact h
      · have := Int.mul_nonneg (Int.le_of_lt hd) h
        omega
    exact Int.mul_neg_of_pos_of_neg hx h2
theorem ok_pair {f : Addr} {fd : FuncData} {k : Nat} (F : Fun K "pair_bars" "pair_bars" s_pair_bars f fd) (T : Tx mg) : FnOk P w K mg base CX0 (k + 1) f fd ["table", "i", "j"] spPair := by
  refine F.ok sc_pair_bars (fun vs H Q E h => ?_) (fun cdv A outer s H vs Q E hr h => ?_)
  · obtain ⟨a, rows, n, i, j, rfl, _⟩ := h
    rfl
  · obtain ⟨a, rows, n, i, j, rfl, hT, O, hi, hj, q⟩ := h
    refine ⟨_, (pss_cons (ps_set (i := 3) sc_pair_bars.nd rfl (.inl rfl) (pe_ix (i_tup (K := K)) (pe_ix (i_tup (K := K)) (pv 0) (pv 1) (fun _ _ => rfl)) (pv 2) (fun _ _ => rfl)))
  (pss_cons (ps_set (i := 4) sc_pair_bars.nd rfl (.inl rfl) (pe_ix (i_tup (K := K)) (pe_ix (i_tup (K := K)) (pv 0) (pv 2) (fun _ _ => rfl)) (pv 1) (fun _ _ => rfl)))
  (pss_one (ps_ret (pe_and (pe_not (pe_and (pe_cmpR op_eq (pv 3) pe_int (nomark _)) (pe_one (pe_cmpR op_eq (pv 4) pe_int (nomark _))))) (pe_one (pe_cmpR op_ge (pe_op op_mul (pv 3) (pv 4)) pe_int (nomark _)))))))), ?_⟩
    have hl := O.len
    have hi2 : i < rows.length := by omega
    have hj2 : j < rows.length := by omega
    obtain ⟨as, bi, e1, e2, e3⟩ := hT.row hi2
    obtain ⟨as', bj, e1', e2', e3'⟩ := hT.row hj2
    obtain ⟨d, d0, dv⟩ := O.even
    have key := pair_math (d0 i hi) (d0 j hj) (dv i j hi hj)
    have bd := ent_bd O hi2 hj
    refine ⟨.ref a, rfl, .int i, rfl, a, _, i, .ref bi, rfl, rfl, SqT.of e1, atI_nat e2, .int j, rfl, bi, _, j, _, rfl, rfl, SqT.of e3, atI_nat (ent_get O.wide hi2 hj), ?_⟩
    refine ⟨.ref a, rfl, .int j, rfl, a, _, j, .ref bj, rfl, rfl, SqT.of e1', atI_nat e2', .int i, rfl, bj, _, i, _, rfl, rfl, SqT.of e3', atI_nat (ent_get O.wide hj2 hi), ?_⟩
    generalize ent rows i j = x at key bd
    generalize ent rows j i = y at key
    refine ⟨.int x, rfl, rfl, _, rfl, ?_⟩
    rcases key with ⟨rfl, rfl⟩ | key
    · exact ⟨.int 0, rfl, rfl, true, rfl, false, rfl, q⟩
    · refine ite2 (fun e => ?_) (fun e => ?_)
      · have : x = 0 := V.int.inj (of_decide_eq_true e)
        subst this
        omega
      · refine ⟨false, rfl, true, rfl, .int x, rfl, .int y, rfl, x, y, rfl, rfl, .inl ⟨by omega, by omega⟩, _, _, rfl, rfl, ?_⟩
        have z : decide (x * y ≥ 0) = false := decide_eq_false (by omega)
        show Q (V.bl (decide (x * y ≥ 0))) H
        rw [z]
        exact q
end
end Bw
set_option Elab.async false
set_option linter.all false
set_option maxRecDepth 100000
set_option maxHeartbeats 4000000
namespace Bw
open PySem PySem.Spec PyProof.Rows L2
/-! ### walks whose turn is any reading -/
theorem it_list {K : PySem.W.Frag} {a : Addr} {xs : List V} {H1 : Hp} {Qd : Hp → Prop} {Body : V → Hp → (Hp → Prop) → Prop} (Pv : Nat → Hp → Prop) (h0 : Pv 0 H1) (hl : ∀ i H, i ≤ xs.length → Pv i H → SqL K H a xs)
    (hs : ∀ i x H, xs[i]? = some x → Pv i H → Body x H (Pv (i + 1))) (hd : ∀ H, Pv xs.length H → Qd H) :
    ∃ W : Nat → Nat → Hp → Prop, (∃ m, W 0 m H1) ∧ ∀ i m H, W i m H → ((Itl K a).stop i H ∧ Qd H) ∨ ((Itl K a).go i H ∧ ∃ Nx : Hp → Prop, (∀ H', Nx H' → ∃ m', m' < m ∧ W (i + 1) m' H') ∧ ∀ x H', (Itl K a).yld i H x H' → Body x H' Nx) := by
  refine ⟨fun i m H => m = xs.length - i ∧ i ≤ xs.length ∧ Pv i H, ⟨xs.length, by simp, Nat.zero_le _, h0⟩, ?_⟩
  rintro i m H ⟨rfl, hi, p⟩
  have q := hl i H hi p
  by_cases hlt : i < xs.length
  · refine .inr ⟨⟨xs, xs[i], q, by simp [hlt]⟩, Pv (i + 1), fun H' p' => ⟨xs.length - (i + 1), by omega, rfl, hlt, p'⟩, fun x H' y => ?_⟩
    obtain ⟨e, y⟩ := y
    subst e
    exact hs i x _ (y _ q) p
  · exact .inl ⟨⟨xs, q, by omega⟩, hd H (by
      have : i = xs.length := by omega
      rw [this] at p
      exact p)⟩
theorem it_range {lo : Int} {n : Nat} {H1 : Hp} {Qd : Hp → Prop} {Body : V → Hp → (Hp → Prop) → Prop} (Pv : Nat → Hp → Prop) (h0 : Pv 0 H1) (hs : ∀ i H, i < n → Pv i H → Body (.int (lo + i)) H (Pv (i + 1))) (hd : ∀ H, Pv n H → Qd H) :
    ∃ W : Nat → Nat → Hp → Prop, (∃ m, W 0 m H1) ∧ ∀ i m H, W i m H → ((Itr lo n).stop i H ∧ Qd H) ∨ ((Itr lo n).go i H ∧ ∃ Nx : Hp → Prop, (∀ H', Nx H' → ∃ m', m' < m ∧ W (i + 1) m' H') ∧ ∀ x H', (Itr lo n).yld i H x H' → Body x H' Nx) := by
  refine ⟨fun i m H => m = n - i ∧ i ≤ n ∧ Pv i H, ⟨n, by simp, Nat.zero_le _, h0⟩, ?_⟩
  rintro i m H ⟨rfl, hi, p⟩
  by_cases hlt : i < n
  · refine .inr ⟨hlt, Pv (i + 1), fun H' p' => ⟨n - (i + 1), by omega, rfl, hlt, p'⟩, fun x H' y => ?_⟩
    obtain ⟨e, y⟩ := y
    subst e y
    exact hs i _ hlt p
  · exact .inl ⟨(by show n ≤ i; omega), hd H (by
      have : i = n := by omega
      rw [this] at p
      exact p)⟩
section
variable {P : Program} {w : World} {K : PySem.W.Frag} {mg : Str → Option Value} {base : Heap}
/-! ### check_form -/
abbrev s_check_form : Stmt := topS 12
abbrev n_check_form : List Str := ["table", "many", "row"]
theorem sc_check_form : FnScope n_check_form ["table"] (defScope s_check_form) := ⟨rfl, rfl, rfl, by decide +kernel, rfl, by decide +kernel, by decide +kernel⟩
/-- what is asked of a good table -/
def spGood : Sp := fun vs H Q _ => ∃ (a : Addr) (rows : List (List Int)) (n : Nat), vs = [.ref a] ∧ TabAt H a rows ∧ TabOk rows n ∧ ∀ H', Same H H' → Q .non H'
theorem ok_form {f : Addr} {fd : FuncData} (F : Fun K "check_form" "check_form" s_check_form f fd) (T : Tx mg) (c_is_row : Cal P w K mg base CX0 2 "is_row" ["row", "many"] spIsRow) : FnOk P w K mg base CX0 3 f fd ["table"] spGood := by
  refine F.ok sc_check_form (fun vs H Q E h => ?_) (fun cdv A outer s H vs Q E hr h => ?_)
  · obtain ⟨a, rows, n, rfl, _⟩ := h
    rfl
  · obtain ⟨a, rows, n, rfl, hT, O, q⟩ := h
    refine ⟨_, (pss_cons (ps_if (PW.pt (pw_or (pt_not (pt_val (pe_callB (c_isi (K := K)) (by rfl) T.isinstance (by decide +kernel) (pa_cons (pv 0) (pa_cons (pe_bltn (v := .ty "tuple") (by rfl) T.tuple (by decide +kernel) rfl) pa_nil))))) (pw_or (pt_cmpR op_eq (pe_callB (c_len (K := K)) (by rfl) T.len PySem.boot_len (pa_cons (pv 0) pa_nil)) pe_int (nomark _)) (pw_or1 (pt_not (pt_val (pe_callB (c_isi (K := K)) (by rfl) T.isinstance (by decide +kernel) (pa_cons (pe_ix (i_tup (K := K)) (pv 0) pe_int (fun _ _ => rfl)) (pa_cons (pe_bltn (v := .ty "tuple") (by rfl) T.tuple (by decide +kernel) rfl) pa_nil)))))))))
    (pss_one ps_never)
    pss_nil)
  (pss_cons (ps_set (i := 1) sc_check_form.nd rfl (.inr rfl) (pe_callB (c_len (K := K)) (by rfl) T.len PySem.boot_len (pa_cons (pe_ix (i_tup (K := K)) (pv 0) pe_int (fun _ _ => rfl)) pa_nil)))
  (pss_cons (ps_if (PW.pt (pw_or (pt_not (pt_chain op_le op_le pe_int (pv 1) (pe_gint (by rfl) T.MOST_BUDS))) (pw_or1 (pt_not (pt_chain op_le op_le (pv 1) (pe_callB (c_len (K := K)) (by rfl) T.len PySem.boot_len (pa_cons (pv 0) pa_nil)) (pe_op op_add (pv 1) (pe_gint (by rfl) T.MOST_ROOTS)))))))
    (pss_one ps_never)
    pss_nil)
  (pss_one (ps_if (pt_not (pt_val (pe_callB (c_all (K := K) rfl) (by rfl) T.all (by decide +kernel) (pa_cons (pe_lc (own := [("row", 2)]) (by rfl) sc_check_form.nd (p_tup (K := K) (pv 0)) (blkOk_by (own := [("row", 2)]) (N := n_check_form) (sc := defScope s_check_form) (by decide +kernel)) (fun _ _ _ _ _ => (pg_name (i := 2) sc_check_form.nd rfl (.inl rfl))) (fun _ _ _ _ _ => pts_nil) (fun _ _ _ _ _ => (pe_cal c_is_row hr (by rfl) (pa_cons (pv 2) (pa_cons (pv 1) pa_nil))))) pa_nil))))
    (pss_one ps_never)
    pss_nil))))), ?_⟩
    have h1 := O.n1
    have h2 := O.n4
    have h3 := O.len
    have h4 := O.len4
    have l0 : 0 < rows.length := by omega
    obtain ⟨as, ha, hal, has⟩ := id hT
    obtain ⟨b, hb1, hb⟩ := has 0 _ (List.getElem?_eq_getElem l0)
    have hb0 : (as.map V.ref)[0]? = some (.ref b) := by rw [List.getElem?_map, hb1]; rfl
    have hw0 := O.wide _ (List.getElem_mem l0)
    -- the form
    refine ⟨.ref a, rfl, _, _, _, _, true, rfl, .ty "tuple", .base (.tup ha), kit_ty (by decide +kernel), true, rfl, ?_⟩
    refine iteF ⟨.ref a, rfl, a, _, rfl, .inr (SqT.of ha), rfl, _, rfl, ite2 (fun e => ?_) (fun _ => ?_)⟩
    · have := V.int.inj (of_decide_eq_true e)
      rw [List.length_map] at this
      omega
    refine ⟨.ref a, rfl, a, _, 0, .ref b, rfl, rfl, SqT.of ha, atI_nat (j := 0) hb0, _, _, _, _, true, rfl, .ty "tuple", .base (.tup hb), kit_ty (by decide +kernel), true, rfl, iteF ?_⟩
    -- many
    refine ⟨.ref a, rfl, a, _, 0, .ref b, rfl, rfl, SqT.of ha, atI_nat (j := 0) hb0, b, _, rfl, .inr (SqT.of hb), ?_⟩
    rw [List.length_map, hw0]
    refine ⟨.int n, rfl, _, _, rfl, rfl, _, rfl, ite2 (fun _ => ⟨_, _, rfl, rfl, _, rfl, iteNS (show (n : Int) ≤ 4 by omega) ?_⟩) (fun e => absurd (decide_eq_true (show (1 : Int) ≤ n by omega)) e)⟩
    refine ⟨.int n, rfl, .ref a, rfl, a, _, rfl, .inr (SqT.of ha), _, _, rfl, rfl, _, rfl, ?_⟩
    rw [List.length_map, hal]
    refine ite2 (fun _ => ⟨.int n, rfl, _, _, rfl, rfl, _, _, rfl, rfl, _, rfl, iteNS (show (rows.length : Int) ≤ n + 4 by omega) ?_⟩) (fun e => absurd (decide_eq_true (show (n : Int) ≤ rows.length by omega)) e)
    -- all rows
    refine ⟨.ref a, rfl, a, rfl, ⟨_, SqT.of ha⟩, fun D eD => ?_⟩
    have naD : a ≠ D := ne_of_none ha eD
    refine lc_tup (K := K) (a := a) (xs := as.map V.ref) (fun j H' => H' D = some (.lst ((List.replicate j true).map V.bl)) ∧ ∀ b o, b ≠ D → H b = some o → H' b = some o) ⟨upd_same, fun b o n e => by rw [upd_ne n]; exact e⟩ (fun j H' _ ⟨_, k⟩ => SqT.of (k _ _ naD ha)) ?_ ?_
    · rintro j v H1 hv ⟨e1, k1⟩
      rw [List.getElem?_map] at hv
      cases ej : as[j]? with
      | none =>
        rw [ej] at hv
        cases hv
      | some c =>
        rw [ej] at hv
        cases hv
        have hj : j < rows.length := by
          have := (List.getElem?_eq_some_iff.mp ej).1
          omega
        obtain ⟨c', e2, hc⟩ := has j _ (List.getElem?_eq_getElem hj)
        cases (Option.some.inj (ej.symm.trans e2))
        have hw := O.wide _ (List.getElem_mem hj)
        have ht := O.tie _ (List.getElem_mem hj)
        generalize rows[j] = r at hc hw ht
        refine ⟨rfl, .ref c, rfl, .int n, rfl, c, r, by rw [hw]; rfl, k1 _ _ (ne_of_none hc eD) hc, by omega, ht, fun H2 s2 => ?_⟩
        refine ⟨_, s2 _ _ e1, by rw [List.length_map, List.length_replicate]; exact small1000 (by omega), ?_, fun b o n e => ?_⟩
        · rw [upd_same, List.replicate_succ', List.map_append]
          rfl
        · rw [upd_ne n]
          exact s2 _ _ (k1 _ _ n e)
    · rintro H1 ⟨e1, k1⟩
      refine ⟨D, _, rfl, SqL.of e1, true, ?_, iteF (q _ fun b o e => k1 _ _ (ne_of_none e eD) e)⟩
      rw [all_rep]
/-! ### unlike_rows -/
abbrev s_unlike_rows : Stmt := topS 15
abbrev n_unlike_rows : List Str := ["many", "length", "rows", "step", "row", "number"]
theorem sc_unlike_rows : FnScope n_unlike_rows ["many", "length"] (defScope s_unlike_rows) := ⟨rfl, rfl, rfl, by decide +kernel, rfl, by decide +kernel, by decide +kernel⟩
def ringV (g : List Nat) : List V := g.map fun x => V.int (x : Nat)
/-- tuples of so many places -/
def RingsAt (H : Hp) (n m : Nat) (ts : List Addr) : Prop := ∀ t ∈ ts, ∃ g : List Nat, H t = some (.tup (ringV g)) ∧ g.length = m ∧ ∀ x ∈ g, x < n
def spUnlike : Sp := fun vs H Q _ => ∃ (n m : Nat), vs = [.int n, .int m] ∧ n ≤ 4 ∧ m ≤ 4 ∧ ∀ (p : Addr) (ts : List Addr) (H' : Hp), Same H H' → H' p = some (.lst (ts.map V.ref)) → RingsAt H' n m ts → ts.length ≤ 256 → Q (.ref p) H'
theorem pow4 {i : Nat} (h : i ≤ 4) : 4 ^ i ≤ 256 := Nat.pow_le_pow_right (by decide) h
theorem flat_ring (g : List Nat) : (ringV g).all flatV = true := by
  rw [List.all_eq_true]
  intro x hx
  unfold ringV at hx
  obtain ⟨y, _, rfl⟩ := List.mem_map.mp hx
  rfl
theorem ok_unlike {f : Addr} {fd : FuncData} {k : Nat} (F : Fun K "unlike_rows" "unlike_rows" s_unlike_rows f fd) (T : Tx mg) : FnOk P w K mg base CX0 (k + 1) f fd ["many", "length"] spUnlike := by
  refine F.ok sc_unlike_rows (fun vs H Q E h => ?_) (fun cdv A outer s H vs Q E hr h => ?_)
  · obtain ⟨n, m, rfl, _⟩ := h
    rfl
  · obtain ⟨n, m, rfl, n4, m4, q⟩ := h
    refine ⟨_, (pss_cons (ps_set (i := 2) sc_unlike_rows.nd rfl (.inl rfl) (pe_lst (pa_cons (pe_tup pa_nil) pa_nil)))
      (pss_cons (ps_for PassesOwn.never rfl (pi_range1 (by rfl) T.range (pa_cons (pv 1) pa_nil)) (pg_name (i := 3) sc_unlike_rows.nd rfl (.inl rfl))
        (pss_one (ps_setLc2 (i := 2) (own := [("row", 4), ("number", 5)]) (vs1 := [5]) (by rfl) sc_unlike_rows.nd rfl rfl (sw_true rfl rfl rfl (by decide +kernel)) (p_list (K := K) (pv 2)) (blkOk_by (own := [("row", 4), ("number", 5)]) (N := n_unlike_rows) (sc := defScope s_unlike_rows) (by decide +kernel)) (by decide)
          (fun _ _ _ _ _ => (pg_name (i := 4) sc_unlike_rows.nd rfl (.inl rfl))) (fun _ _ _ _ _ => pts_nil) (fun _ _ _ _ _ => (pi_range1 (by rfl) T.range (pa_cons (pv 0) pa_nil))) (fun _ _ _ _ _ => (pg_name (i := 5) sc_unlike_rows.nd rfl (.inl rfl))) (fun _ _ _ _ _ => pts_one (pt_cmpR (o_notin (K := K)) (pv 5) (pv 4) (by rfl)))
          (fun _ _ _ _ _ => (pe_op (o_cat (K := K)) (pv 4) (pe_tup (pa_cons (pv 5) pa_nil)))))))
      (pss_one (ps_ret (pv 2))))), ?_⟩
    -- rows = [()]
    refine ⟨Nat.zero_le _, fun e he => ⟨by show 1 ≤ sizeLine; decide, fun R eR => ?_⟩⟩
    have s1 := same_upd (o := .tup []) he
    have s2 := same_upd (o := .lst [.ref e]) eR
    refine ⟨.int m, rfl, m, rfl, by omega, by omega, for_range (fun i σ H' => ∃ (y3 : Option V) (R : Addr) (ts : List Addr), σ = [some (.int n), some (.int m), some (.ref R), y3, none, none] ∧ Same H H' ∧ H' R = some (.lst (ts.map V.ref)) ∧ RingsAt H' n i ts ∧ ts.length ≤ 4 ^ i)
      ⟨none, R, [e], rfl, s1.trans s2, upd_same, fun t ht => ?_, Nat.le_refl 1⟩ ?_ ?_⟩
    · rw [List.mem_singleton.mp ht]
      exact ⟨[], s2 _ _ upd_same, rfl, by simp⟩
    · rintro i σ H1 hi ⟨y3, R, ts, rfl, sm, eR1, hts, lts⟩
      have hi : i < m := hi
      have l256 : ts.length ≤ 256 := Nat.le_trans lts (pow4 (by omega))
      refine ⟨.ref R, rfl, R, rfl, ⟨_, SqL.of eR1⟩, fun D eD => ?_⟩
      have nRD : R ≠ D := ne_of_none eR1 eD
      refine it_list (K := K) (a := R) (xs := ts.map V.ref) (fun j H' => ∃ us : List Addr, H' D = some (.lst (us.map V.ref)) ∧ RingsAt H' n (i + 1) us ∧ us.length ≤ 4 * j ∧ ∀ b o, b ≠ D → H1 b = some o → H' b = some o)
        ⟨[], upd_same, fun t ht => by simp at ht, by simp, fun b o n e => by rw [upd_ne n]; exact e⟩ (fun j H' _ ⟨us, _, _, _, k⟩ => SqL.of (k _ _ nRD eR1)) ?_ ?_
      · rintro j v H2 hv ⟨us, eD2, hus, lus, k2⟩
        rw [List.getElem?_map] at hv
        cases ej : ts[j]? with
        | none =>
          rw [ej] at hv
          cases hv
        | some t =>
          rw [ej] at hv
          cases hv
          have hjl := (List.getElem?_eq_some_iff.mp ej).1
          obtain ⟨g, hg, lg, gb⟩ := hts t (List.mem_of_getElem? ej)
          refine ⟨rfl, .int n, rfl, n, rfl, by omega, by omega, it_range (fun x H' => ∃ us : List Addr, H' D = some (.lst (us.map V.ref)) ∧ RingsAt H' n (i + 1) us ∧ us.length ≤ 4 * j + x ∧ ∀ b o, b ≠ D → H1 b = some o → H' b = some o) ⟨us, eD2, hus, lus, k2⟩ ?_ ?_⟩
          · rintro x H3 hx ⟨us, eD3, hus, lus, k3⟩
            have hx : x < n := hx
            have e0 : (0 : Int) + (x : Int) = ((x : Nat) : Int) := by omega
            rw [e0]
            have ht3 := k3 _ _ (ne_of_none hg eD) hg
            refine ⟨rfl, .int x, rfl, .ref t, rfl, t, _, rfl, .inr (SqT.of ht3), rfl, flat_ring g, _, rfl, ite2 (fun _ => ?_) (fun _ => ⟨us, eD3, hus, by omega, k3⟩)⟩
            refine ⟨.ref t, rfl, .int x, rfl, by show 1 ≤ sizeLine; decide, fun c ec => ?_⟩
            have sc := same_upd (o := .tup [.int x]) ec
            have done : ∀ (z : Addr) (H4 : Hp), Same H3 H4 → H4 z = some (.tup (ringV (g ++ [x]))) → ∃ acc, H4 D = some (.lst acc) ∧ acc.length < sizeLine ∧ ∃ us : List Addr, (upd H4 D (.lst (acc ++ [.ref z]))) D = some (.lst (us.map V.ref)) ∧ RingsAt (upd H4 D (.lst (acc ++ [.ref z]))) n (i + 1) us ∧ us.length ≤ 4 * j + (x + 1) ∧ ∀ b o, b ≠ D → H1 b = some o → (upd H4 D (.lst (acc ++ [.ref z]))) b = some o := by
              intro z H4 s4 hz
              have eD4 := s4 _ _ eD3
              refine ⟨_, eD4, by rw [List.length_map]; exact Nat.lt_of_le_of_lt (show us.length ≤ 5000 by omega) (by decide), us ++ [z], by rw [upd_same, List.map_append]; rfl, fun t' ht' => ?_, by rw [List.length_append]; show us.length + 1 ≤ _; omega, fun b o nb e => by rw [upd_ne nb]; exact s4 _ _ (k3 _ _ nb e)⟩
              rcases List.mem_append.mp ht' with ht' | ht'
              · obtain ⟨g', a1, a2, a3⟩ := hus t' ht'
                have a4 := s4 _ _ a1
                refine ⟨g', ?_, a2, a3⟩
                rw [upd_ne (ne_of a4 eD4 (by intro z; cases z))]
                exact a4
              · rw [List.mem_singleton.mp ht']
                refine ⟨g ++ [x], ?_, by rw [List.length_append, lg]; rfl, fun y hy => ?_⟩
                · rw [upd_ne (ne_of hz eD4 (by intro z; cases z))]
                  exact hz
                · rcases List.mem_append.mp hy with hy | hy
                  · exact gb y hy
                  · rw [List.mem_singleton.mp hy]
                    exact hx
            refine ⟨t, c, ringV g, [.int x], rfl, rfl, SqT.of (sc _ _ ht3), SqT.of upd_same, ?_, fun z => ?_, fun _ z => (by cases z), fun _ _ p ep => ?_⟩
            · unfold ringV
              rw [List.length_map]
              show g.length + 1 ≤ sizeLine
              exact Nat.le_of_lt (small1000 (by omega))
            · refine done c _ sc ?_
              rw [upd_same]
              unfold ringV at z ⊢
              rw [List.map_append, z]
              rfl
            · refine done p _ (sc.trans (same_upd ep)) ?_
              rw [upd_same]
              unfold ringV
              rw [List.map_append]
              rfl
          · rintro H3 ⟨us, eD3, hus, lus, k3⟩
            have lus : us.length ≤ 4 * j + ((n : Int)).toNat := lus
            exact ⟨us, eD3, hus, by omega, k3⟩
      · rintro H2 ⟨us, eD2, hus, lus, k2⟩
        rw [List.length_map] at lus
        exact ⟨_, D, us, rfl, fun b o e => k2 _ _ (ne_of_none (sm _ _ e) eD) (sm _ _ e), eD2, hus, by rw [Nat.pow_succ]; omega⟩
    · rintro σ H1 ⟨y3, R, ts, rfl, sm, eR1, hts, lts⟩
      exact ⟨.ref R, rfl, q R ts _ sm eR1 hts (Nat.le_trans lts (pow4 m4))⟩
end
end Bw
set_option Elab.async false
set_option linter.all false
set_option maxRecDepth 100000
set_option maxHeartbeats 4000000
namespace Bw
open PySem PySem.Spec PyProof.Rows L2
/-! ### rings of an even table -/
def np (l : List Nat) : Nat := l.foldr (· * ·) 1
def fl (F : Nat × Nat → Int) (zs : List (Nat × Nat)) : Int := zs.foldl (fun p z => p * F z) 1
theorem fl_abs (F : Nat × Nat → Int) : ∀ (zs : List (Nat × Nat)) (c : Int), (zs.foldl (fun p z => p * F z) c).natAbs = c.natAbs * np (zs.map fun z => (F z).natAbs)
  | [], c => (Nat.mul_one _).symm
  | z :: zs, c => by
    show (zs.foldl (fun p z => p * F z) (c * F z)).natAbs = c.natAbs * ((F z).natAbs * np (zs.map fun z => (F z).natAbs))
    rw [fl_abs F zs, Int.natAbs_mul, Nat.mul_assoc]
theorem np_bal (D : Nat → Nat) (F G : Nat × Nat → Nat) : ∀ zs : List (Nat × Nat), (∀ z ∈ zs, D z.1 * F z = D z.2 * G z) → np ((zs.map (·.1)).map D) * np (zs.map F) = np ((zs.map (·.2)).map D) * np (zs.map G)
  | [], _ => rfl
  | z :: zs, h => by
    have h1 := h z (List.mem_cons_self ..)
    have ih := np_bal D F G zs fun y hy => h y (List.mem_cons_of_mem _ hy)
    show (D z.1 * np ((zs.map (·.1)).map D)) * (F z * np (zs.map F)) = (D z.2 * np ((zs.map (·.2)).map D)) * (G z * np (zs.map G))
    rw [Nat.mul_mul_mul_comm, h1, ih, Nat.mul_mul_mul_comm]
theorem np_append (l m : List Nat) : np (l ++ m) = np l * np m := by
  induction l with
  | nil => exact (Nat.one_mul _).symm
  | cons x l ih =>
    show x * np (l ++ m) = x * np l * np m
    rw [ih, Nat.mul_assoc]
theorem np_pos : ∀ l : List Nat, (∀ x ∈ l, 0 < x) → 0 < np l
  | [], _ => Nat.one_pos
  | x :: l, h => Nat.mul_pos (h x (List.mem_cons_self ..)) (np_pos l fun y hy => h y (List.mem_cons_of_mem _ hy))
def rot (g : List Nat) : List Nat := g.drop 1 ++ g.take 1
theorem rot_len (g : List Nat) : (rot g).length = g.length := by
  unfold rot
  rw [List.length_append, List.length_drop, List.length_take]
  omega
theorem rot_mem {g : List Nat} {x : Nat} (h : x ∈ rot g) : x ∈ g := by
  rcases List.mem_append.mp h with h | h
  · exact List.mem_of_mem_drop h
  · exact List.mem_of_mem_take h
theorem np_rot (D : Nat → Nat) (g : List Nat) : np ((rot g).map D) = np (g.map D) := by
  unfold rot
  rw [List.map_append, np_append, Nat.mul_comm, ← np_append, ← List.map_append, List.take_append_drop]
theorem ring_math {rows : List (List Int)} {n : Nat} (O : TabOk rows n) {g : List Nat} (hg : ∀ x ∈ g, x < n) :
    (fl (fun z => ent rows z.1 z.2) (g.zip (rot g))).natAbs = (fl (fun z => ent rows z.2 z.1) (g.zip (rot g))).natAbs := by
  obtain ⟨d, d0, dv⟩ := O.even
  have b := np_bal (fun x => (d x).natAbs) (fun z => (ent rows z.1 z.2).natAbs) (fun z => (ent rows z.2 z.1).natAbs) (g.zip (rot g)) (fun z hz => by
    have h1 := hg _ (List.of_mem_zip hz).1
    have h2 := hg _ (rot_mem (List.of_mem_zip hz).2)
    have e := congrArg Int.natAbs (dv _ _ h1 h2)
    rw [Int.natAbs_neg, Int.natAbs_mul, Int.natAbs_mul] at e
    exact e)
  rw [List.map_fst_zip (by rw [rot_len]; exact Nat.le_refl _), List.map_snd_zip (by rw [rot_len]; exact Nat.le_refl _), np_rot] at b
  have pos : 0 < np (g.map fun x => (d x).natAbs) := np_pos _ fun x hx => by
    obtain ⟨y, hy, rfl⟩ := List.mem_map.mp hx
    have := d0 y (hg y hy)
    omega
  have c := Nat.eq_of_mul_eq_mul_left pos b
  unfold fl
  rw [fl_abs (fun z => ent rows z.1 z.2), fl_abs (fun z => ent rows z.2 z.1), c]
theorem fl_take {F : Nat × Nat → Int} {zs : List (Nat × Nat)} {i : Nat} {z : Nat × Nat} (h : zs[i]? = some z) : fl F (zs.take (i + 1)) = fl F (zs.take i) * F z := by
  unfold fl
  rw [List.take_add_one, h, List.foldl_append]
  rfl
theorem abs_if (x : Int) : (if x < 0 then -x else x) = (x.natAbs : Int) := by
  split <;> omega
section
variable {P : Program} {w : World} {K : PySem.W.Frag} {mg : Str → Option Value} {base : Heap}
abbrev s_ring_bars : Stmt := topS 17
abbrev n_ring_bars : List Str := ["table", "ring", "onward", "back", "i", "j"]
theorem sc_ring_bars : FnScope n_ring_bars ["table", "ring"] (defScope s_ring_bars) := ⟨rfl, rfl, rfl, by decide +kernel, rfl, by decide +kernel, by decide +kernel⟩
def spRing : Sp := fun vs H Q _ => ∃ (a t : Addr) (rows : List (List Int)) (n : Nat) (g : List Nat), vs = [.ref a, .ref t] ∧ TabAt H a rows ∧ TabOk rows n ∧ H t = some (.tup (ringV g)) ∧ 2 ≤ g.length ∧ g.length ≤ 4 ∧ (∀ x ∈ g, x < n) ∧ ∀ H', Same H H' → Q (.bl false) H'
theorem cut_ring1 {g : List Nat} (h : 2 ≤ g.length) : cutV (ringV g) (some 1) none = ringV (g.drop 1) := by
  unfold cutV ringV
  rw [show HT.sIx (g.map fun x => V.int (x : Nat)).length 0 (some 1) = min 1 (g.map fun x => V.int (x : Nat)).length from HT.sIx_nat _ 0 1, HT.sIx_none, List.length_map, Nat.min_eq_left (by omega), List.map_drop, List.take_of_length_le]
  rw [List.length_drop, List.length_map]
  exact Nat.le_refl _
theorem cut_ring2 {g : List Nat} (h : 2 ≤ g.length) : cutV (ringV g) none (some 1) = ringV (g.take 1) := by
  unfold cutV ringV
  rw [show HT.sIx (g.map fun x => V.int (x : Nat)).length (g.map fun x => V.int (x : Nat)).length (some 1) = min 1 (g.map fun x => V.int (x : Nat)).length from HT.sIx_nat _ _ 1, HT.sIx_none, List.length_map, Nat.min_eq_left (by omega), List.map_take, List.drop_zero]
theorem ringV_len (g : List Nat) : (ringV g).length = g.length := by
  unfold ringV
  rw [List.length_map]
theorem ringV_at {g : List Nat} {i : Nat} {y : V} (h : (ringV g)[i]? = some y) : ∃ x, g[i]? = some x ∧ y = .int (x : Nat) := by
  unfold ringV at h
  rw [List.getElem?_map] at h
  cases e : g[i]? with
  | none =>
    rw [e] at h
    cases h
  | some u =>
    rw [e] at h
    exact ⟨u, rfl, (Option.some.inj h).symm⟩
theorem ok_ring {f : Addr} {fd : FuncData} {k : Nat} (F : Fun K "ring_bars" "ring_bars" s_ring_bars f fd) (T : Tx mg) : FnOk P w K mg base CX0 (k + 1) f fd ["table", "ring"] spRing := by
  refine F.ok sc_ring_bars (fun vs H Q E h => ?_) (fun cdv A outer s H vs Q E hr h => ?_)
  · obtain ⟨a, t, rows, n, g, rfl, _⟩ := h
    rfl
  · obtain ⟨a, t, rows, n, g, rfl, hT, O, ht, g2, g4, hg, q⟩ := h
    refine ⟨_, (pss_cons (ps_set (i := 2) sc_ring_bars.nd rfl (.inl rfl) pe_int)
  (pss_cons (ps_set (i := 3) sc_ring_bars.nd rfl (.inl rfl) pe_int)
  (pss_cons (ps_for PassesOwn.never rfl (RZ.pi_zipA (by rfl) T.zip (pa_cons (pv 1) (pa_cons (pe_op (o_cat (K := K)) (pe_slice (l_tup (K := K)) (pv 1) (po_some pe_int) po_none) (pe_slice (l_tup (K := K)) (pv 1) po_none (po_some pe_int))) pa_nil))) (pg_tup rfl (pgs_cons (pg_name (i := 4) sc_ring_bars.nd rfl (.inl rfl)) (pgs_cons (pg_name (i := 5) sc_ring_bars.nd rfl (.inl rfl)) pgs_nil)))
    (pss_cons (ps_aug (i := 2) sc_ring_bars.nd rfl (.inl rfl) (pe_ix (i_tup (K := K)) (pe_ix (i_tup (K := K)) (pv 0) (pv 4) (fun _ _ => rfl)) (pv 5) (fun _ _ => rfl)) ip_mul)
    (pss_one (ps_aug (i := 3) sc_ring_bars.nd rfl (.inl rfl) (pe_ix (i_tup (K := K)) (pe_ix (i_tup (K := K)) (pv 0) (pv 5) (fun _ _ => rfl)) (pv 4) (fun _ _ => rfl)) ip_mul))))
  (pss_one (ps_ret (pe_cmpR op_ne (pe_callB call_abs (by rfl) T.abs (by decide +kernel) (pa_cons (pv 2) pa_nil)) (pe_callB call_abs (by rfl) T.abs (by decide +kernel) (pa_cons (pv 3) pa_nil)) (nomark _))))))), ?_⟩
    -- zip(ring, ring[1:] + ring[:1])
    refine ⟨.ref t, rfl, .ref t, rfl, 1, rfl, t, _, rfl, SqT.of ht, fun z => ?_, fun _ c ec => ?_⟩
    · have z1 := z.1
      rw [show HT.sIx (ringV g).length 0 (some 1) = min 1 (ringV g).length from HT.sIx_nat _ 0 1, ringV_len] at z1
      omega
    have s1 := same_upd (o := .tup (cutV (ringV g) (some 1) none)) ec
    refine ⟨.ref t, rfl, 1, rfl, t, _, rfl, SqT.of (s1 _ _ ht), fun z => ?_, fun _ e ee => ?_⟩
    · have z1 := z.2
      rw [show HT.sIx (ringV g).length (ringV g).length (some 1) = min 1 (ringV g).length from HT.sIx_nat _ _ 1, ringV_len] at z1
      omega
    have s2 := same_upd (o := .tup (cutV (ringV g) none (some 1))) ee
    have hc := s2 _ _ (upd_same (H := H) (a := c) (o := .tup (cutV (ringV g) (some 1) none)))
    have hlc : (cutV (ringV g) (some 1) none).length = g.length - 1 := by rw [cut_ring1 g2, ringV_len, List.length_drop]
    have hle : (cutV (ringV g) none (some 1)).length = 1 := by
      rw [cut_ring2 g2, ringV_len, List.length_take]
      omega
    refine ⟨c, e, _, _, rfl, rfl, SqT.of hc, SqT.of upd_same, ?_, fun z => ?_, fun _ z => ?_, fun _ _ p ep => ?_⟩
    · rw [hlc, hle]
      exact Nat.le_of_lt (small1000 (by omega))
    · rw [z] at hlc
      have : 0 = g.length - 1 := hlc
      omega
    · rw [z] at hle
      cases hle
    have s3 := same_upd (o := .tup (cutV (ringV g) (some 1) none ++ cutV (ringV g) none (some 1))) ep
    have hp : (upd (upd (upd H c (.tup (cutV (ringV g) (some 1) none))) e (.tup (cutV (ringV g) none (some 1)))) p (.tup (cutV (ringV g) (some 1) none ++ cutV (ringV g) none (some 1)))) p = some (.tup (ringV (rot g))) := by
      rw [upd_same, cut_ring1 g2, cut_ring2 g2]
      unfold rot ringV
      rw [List.map_append]
    have s13 := s1.trans (s2.trans s3)
    generalize (upd (upd (upd H c (.tup (cutV (ringV g) (some 1) none))) e (.tup (cutV (ringV g) none (some 1)))) p (.tup (cutV (ringV g) (some 1) none ++ cutV (ringV g) none (some 1)))) = H3 at hp s13
    have ht3 := s13 _ _ ht
    have hT3 := hT.same s13
    refine ⟨t, p, ringV g, ringV (rot g), rfl, .inr ⟨SqT.of ht3, SqT.of hp, RZ.for_zipT (by rw [ringV_len, ringV_len, rot_len]) (fun i σ H' => ∃ y4 y5 : Option V, σ = [some (.ref a), some (.ref t), some (.int (fl (fun z => ent rows z.1 z.2) ((g.zip (rot g)).take i))), some (.int (fl (fun z => ent rows z.2 z.1) ((g.zip (rot g)).take i))), y4, y5] ∧ Same H3 H') ⟨none, none, rfl, .refl _⟩ (fun i σ H' ⟨_, _, _, s⟩ => ⟨SqT.of (s _ _ ht3), SqT.of (s _ _ hp)⟩) ?_ ?_⟩⟩
    · rintro i vx vy Tt σ H4 hx hy ⟨y4, y5, rfl, s4⟩ nT
      obtain ⟨x, ex, rfl⟩ := ringV_at hx
      obtain ⟨y, ey, rfl⟩ := ringV_at hy
      have hxn := hg x (List.mem_of_getElem? ex)
      have hyn := hg y (rot_mem (List.mem_of_getElem? ey))
      have hl := O.len
      have hz : (g.zip (rot g))[i]? = some (x, y) := by
        rw [List.getElem?_zip_eq_some]
        exact ⟨ex, ey⟩
      have s5 := s4.trans (same_upd (o := .tup [.int x, .int y]) nT)
      have hT5 := hT3.same s5
      obtain ⟨as, bx, e1, e2, e3⟩ := hT5.row (show x < rows.length by omega)
      obtain ⟨as', by', e1', e2', e3'⟩ := hT5.row (show y < rows.length by omega)
      have bd1 := ent_bd O (show x < rows.length by omega) hyn
      have bd2 := ent_bd O (show y < rows.length by omega) hxn
      refine ⟨Tt, [.int x, .int y], rfl, SqT.of upd_same, rfl, .int x, [.int y], rfl, .int y, [], rfl, rfl, ?_⟩
      refine ⟨_, rfl, .ref a, rfl, .int x, rfl, a, _, x, .ref bx, rfl, rfl, SqT.of e1, atI_nat e2, .int y, rfl, bx, _, y, _, rfl, rfl, SqT.of e3, atI_nat (ent_get O.wide (by omega) hyn), _, _, rfl, rfl, .inr ⟨by omega, by omega⟩, ?_⟩
      refine ⟨_, rfl, .ref a, rfl, .int y, rfl, a, _, y, .ref by', rfl, rfl, SqT.of e1', atI_nat e2', .int x, rfl, by', _, x, _, rfl, rfl, SqT.of e3', atI_nat (ent_get O.wide (by omega) hxn), _, _, rfl, rfl, .inr ⟨by omega, by omega⟩, ?_⟩
      refine ⟨some (.int x), some (.int y), ?_, s5⟩
      rw [fl_take hz, fl_take hz]
      rfl
    · rintro σ H4 ⟨y4, y5, rfl, s4⟩
      have et : (g.zip (rot g)).take (ringV g).length = g.zip (rot g) := List.take_of_length_le (by rw [ringV_len, List.length_zip]; omega)
      rw [et]
      have m := ring_math O hg
      refine ⟨_, rfl, _, rfl, _, rfl, _, rfl, rfl, ?_⟩
      rw [abs_if, abs_if, m, decide_eq_true rfl]
      exact q _ (s13.trans s4)
/-! ### barred -/
abbrev s_barred : Stmt := topS 18
abbrev n_barred : List Str := ["table", "many", "i", "j", "ring"]
theorem sc_barred : FnScope n_barred ["table"] (defScope s_barred) := ⟨rfl, rfl, rfl, by decide +kernel, rfl, by decide +kernel, by decide +kernel⟩
theorem ok_barred {f : Addr} {fd : FuncData} (F : Fun K "barred" "barred" s_barred f fd) (T : Tx mg) (c_check_form : Cal P w K mg base CX0 3 "check_form" ["table"] spGood) (c_bud_count : Cal P w K mg base CX0 1 "bud_count" ["table"] spBuds)
    (c_pair_bars : Cal P w K mg base CX0 1 "pair_bars" ["table", "i", "j"] spPair) (c_unlike_rows : Cal P w K mg base CX0 1 "unlike_rows" ["many", "length"] spUnlike) (c_ring_bars : Cal P w K mg base CX0 1 "ring_bars" ["table", "ring"] spRing) : FnOk P w K mg base CX0 4 f fd ["table"] spGood := by
  refine F.ok sc_barred (fun vs H Q E h => ?_) (fun cdv A outer s H vs Q E hr h => ?_)
  · obtain ⟨a, rows, n, rfl, _⟩ := h
    rfl
  · obtain ⟨a, rows, n, rfl, hT, O, q⟩ := h
    have hr1 := hr.mono (show 1 ≤ 3 by decide)
    refine ⟨_, (pss_cons (ps_expr (pe_cal c_check_form hr (by rfl) (pa_cons (pv 0) pa_nil)))
  (pss_cons (ps_set (i := 1) sc_barred.nd rfl (.inl rfl) (pe_cal c_bud_count hr1 (by rfl) (pa_cons (pv 0) pa_nil)))
  (pss_cons (ps_for PassesOwn.never rfl (pi_range1 (by rfl) T.range (pa_cons (pv 1) pa_nil)) (pg_name (i := 2) sc_barred.nd rfl (.inl rfl))
    (pss_one (ps_for PassesOwn.never rfl (pi_range2 (by rfl) T.range (pa_cons (pv 2) (pa_cons (pv 1) pa_nil))) (pg_name (i := 3) sc_barred.nd rfl (.inl rfl))
      (pss_one (ps_if (pt_val (pe_cal c_pair_bars hr1 (by rfl) (pa_cons (pv 0) (pa_cons (pv 2) (pa_cons (pv 3) pa_nil)))))
        (pss_one (ps_ret (pe_tup (pa_cons (pv 2) (pa_cons (pv 3) pa_nil)))))
        pss_nil)))))
  (pss_cons (ps_for PassesOwn.never rfl (p_list (K := K) (pe_op op_cat (pe_cal c_unlike_rows hr1 (by rfl) (pa_cons (pv 1) (pa_cons pe_int pa_nil))) (pe_cal c_unlike_rows hr1 (by rfl) (pa_cons (pv 1) (pa_cons pe_int pa_nil))))) (pg_name (i := 4) sc_barred.nd rfl (.inl rfl))
    (pss_one (ps_if (pt_val (pe_cal c_ring_bars hr1 (by rfl) (pa_cons (pv 0) (pa_cons (pv 4) pa_nil))))
      (pss_one (ps_ret (pv 4)))
      pss_nil)))
  (pss_one (ps_ret pe_non)))))), ?_⟩
    have h1 := O.n1
    have h2 := O.n4
    have h3 := O.len
    refine ⟨.ref a, rfl, a, rows, n, rfl, hT, O, fun H1 s1 => ?_⟩
    refine ⟨.ref a, rfl, a, rows, n, rfl, hT.same s1, by omega, O.wide, ?_⟩
    refine ⟨.int n, rfl, n, rfl, by omega, by omega, for_range (fun i σ H' => ∃ y2 y3 : Option V, σ = [some (.ref a), some (.int n), y2, y3, none] ∧ Same H H') ⟨none, none, rfl, s1⟩ ?_ ?_⟩
    · rintro i σ H2 hi ⟨y2, y3, rfl, s2⟩
      have hi : i < n := hi
      have e0 : (0 : Int) + (i : Int) = (i : Int) := by omega
      rw [e0]
      refine ⟨_, rfl, _, rfl, i, n, rfl, ⟨by omega, by omega, by omega, by omega⟩, for_range (fun j σ H' => ∃ y3 : Option V, σ = [some (.ref a), some (.int n), some (.int i), y3, none] ∧ Same H H') ⟨y3, rfl, s2⟩ ?_ ?_⟩
      · rintro j σ H3 hj ⟨y3, rfl, s3⟩
        obtain ⟨J, hJ⟩ : ∃ J : Nat, (i : Int) + (j : Int) = (J : Int) := ⟨i + j, by omega⟩
        rw [hJ]
        exact ⟨_, rfl, _, rfl, _, rfl, a, rows, n, i, J, rfl, hT.same s3, O, hi, by omega, false, rfl, iteF ⟨_, rfl, s3⟩⟩
      · rintro σ H3 ⟨y3, rfl, s3⟩
        exact ⟨_, y3, rfl, s3⟩
    · rintro σ H2 ⟨y2, y3, rfl, s2⟩
      refine ⟨.int n, rfl, n, 3, rfl, h2, by decide, fun p ts H3 s3 hp hts l3 => ?_⟩
      refine ⟨.int n, rfl, n, 4, rfl, h2, by decide, fun p' ts' H4 s4 hp' hts' l4 => ?_⟩
      refine ⟨p, p', _, _, rfl, rfl, s4 _ _ hp, hp', ?_, fun R eR => ?_⟩
      · rw [List.length_map, List.length_map]
        exact Nat.le_trans (show ts.length + ts'.length ≤ 1000 by omega) (by decide)
      have sR := same_upd (o := .lst (ts.map V.ref ++ ts'.map V.ref)) eR
      refine ⟨R, rfl, ⟨_, SqL.of upd_same⟩, for_list (K := K) (a := R) (xs := ts.map V.ref ++ ts'.map V.ref) (fun i σ H' => ∃ y4 : Option V, σ = [some (.ref a), some (.int n), y2, y3, y4] ∧ Same (upd H4 R (.lst (ts.map V.ref ++ ts'.map V.ref))) H') ⟨none, rfl, .refl _⟩ (fun i σ H' _ ⟨_, _, s⟩ => SqL.of (s _ _ upd_same)) ?_ ?_⟩
      · rintro i v σ H5 hv ⟨y4, rfl, s5⟩
        obtain ⟨t, g, rfl, hg, gl, gb⟩ : ∃ (t : Addr) (g : List Nat), v = .ref t ∧ H4 t = some (.tup (ringV g)) ∧ (g.length = 3 ∨ g.length = 4) ∧ ∀ x ∈ g, x < n := by
          rcases List.mem_append.mp (List.mem_of_getElem? hv) with h | h
          · obtain ⟨t, ht, e⟩ := List.mem_map.mp h
            subst e
            obtain ⟨g, a1, a2, a3⟩ := hts t ht
            exact ⟨t, g, rfl, s4 _ _ a1, .inl a2, a3⟩
          · obtain ⟨t, ht, e⟩ := List.mem_map.mp h
            subst e
            obtain ⟨g, a1, a2, a3⟩ := hts' t ht
            exact ⟨t, g, rfl, a1, .inr a2, a3⟩
        refine ⟨_, rfl, _, rfl, a, t, rows, n, g, rfl, hT.same (s2.trans (s3.trans (s4.trans (sR.trans s5)))), O, s5 _ _ (sR _ _ hg), by omega, by omega, gb, fun H6 s6 => ?_⟩
        exact ⟨false, rfl, iteF ⟨_, rfl, s5.trans s6⟩⟩
      · rintro σ H5 ⟨y4, rfl, s5⟩
        exact q _ (s2.trans (s3.trans (s4.trans (sR.trans s5))))
/-! ### check_table -/
abbrev s_check_table : Stmt := topS 13
abbrev n_check_table : List Str := ["table", "ring"]
theorem sc_check_table : FnScope n_check_table ["table"] (defScope s_check_table) := ⟨rfl, rfl, rfl, by decide +kernel, rfl, by decide +kernel, by decide +kernel⟩
theorem ok_check {f : Addr} {fd : FuncData} (F : Fun K "check_table" "check_table" s_check_table f fd) (T : Tx mg) (c_barred : Cal P w K mg base CX0 4 "barred" ["table"] spGood) : FnOk P w K mg base CX0 5 f fd ["table"] spGood := by
  refine F.ok sc_check_table (fun vs H Q E h => ?_) (fun cdv A outer s H vs Q E hr h => ?_)
  · obtain ⟨a, rows, n, rfl, _⟩ := h
    rfl
  · obtain ⟨a, rows, n, rfl, hT, O, q⟩ := h
    refine ⟨_, (pss_cons (ps_set (i := 1) sc_check_table.nd rfl (.inl rfl) (pe_cal c_barred hr (by rfl) (pa_cons (pv 0) pa_nil)))
  (pss_one (ps_if (pt_cmpR op_notN (pv 1) pe_non (nomark _))
    (pss_one ps_never)
    pss_nil))), ?_⟩
    refine ⟨.ref a, rfl, a, rows, n, rfl, hT, O, fun H1 s1 => ?_⟩
    exact ⟨.non, rfl, rfl, _, rfl, iteF (q _ s1)⟩
end
end Bw
set_option Elab.async false
set_option linter.all false
set_option maxRecDepth 100000
set_option maxHeartbeats 4000000
namespace Bw
open PySem PySem.Spec PyProof.Rows L2
theorem it_zipT {K : PySem.W.Frag} {a b : Addr} {xs ys : List V} {H1 : Hp} {Qd : Hp → Prop} {Body : V → Hp → (Hp → Prop) → Prop} (hl : xs.length = ys.length) (Pv : Nat → Hp → Prop) (h0 : Pv 0 H1) (hq : ∀ i H, Pv i H → SqT K H a xs ∧ SqT K H b ys)
    (hs : ∀ (i : Nat) (x y : V) (T : Addr) (H : Hp), xs[i]? = some x → ys[i]? = some y → Pv i H → H T = none → Body (.ref T) (upd H T (.tup [x, y])) (Pv (i + 1))) (hd : ∀ H, Pv xs.length H → Qd H) :
    ∃ W : Nat → Nat → Hp → Prop, (∃ m, W 0 m H1) ∧ ∀ i m H, W i m H → ((RZ.ItzT K a b).stop i H ∧ Qd H) ∨ ((RZ.ItzT K a b).go i H ∧ ∃ Nx : Hp → Prop, (∀ H', Nx H' → ∃ m', m' < m ∧ W (i + 1) m' H') ∧ ∀ x H', (RZ.ItzT K a b).yld i H x H' → Body x H' Nx) := by
  refine ⟨fun i m H => m = xs.length - i ∧ i ≤ xs.length ∧ Pv i H, ⟨xs.length, rfl, Nat.zero_le _, h0⟩, ?_⟩
  rintro i m H ⟨rfl, hi, p⟩
  obtain ⟨qx, qy⟩ := hq i H p
  by_cases hlt : i < xs.length
  · have hx : xs[i]? = some xs[i] := List.getElem?_eq_getElem hlt
    have hy : ys[i]? = some ys[i] := List.getElem?_eq_getElem (by omega)
    refine .inr ⟨⟨xs, ys, _, _, qx, qy, hx, hy⟩, Pv (i + 1), fun H' p' => ⟨xs.length - (i + 1), by omega, rfl, hlt, p'⟩, fun v H' y => ?_⟩
    obtain ⟨T, x', y', rfl, hT, rfl, f1, f2⟩ := y
    exact hs i x' y' T H (f1 xs qx) (f2 ys qy) p hT
  · have e : i = xs.length := by omega
    subst e
    exact .inl ⟨⟨xs, ys, qx, qy, Or.inl (Nat.le_refl _)⟩, hd H p⟩
theorem it_zipL {K : PySem.W.Frag} {a b : Addr} {xs ys : List V} {H1 : Hp} {Qd : Hp → Prop} {Body : V → Hp → (Hp → Prop) → Prop} (hl : xs.length = ys.length) (Pv : Nat → Hp → Prop) (h0 : Pv 0 H1) (hq : ∀ i H, Pv i H → SqL K H a xs ∧ SqL K H b ys)
    (hs : ∀ (i : Nat) (x y : V) (T : Addr) (H : Hp), xs[i]? = some x → ys[i]? = some y → Pv i H → H T = none → Body (.ref T) (upd H T (.tup [x, y])) (Pv (i + 1))) (hd : ∀ H, Pv xs.length H → Qd H) :
    ∃ W : Nat → Nat → Hp → Prop, (∃ m, W 0 m H1) ∧ ∀ i m H, W i m H → ((Itz K a b).stop i H ∧ Qd H) ∨ ((Itz K a b).go i H ∧ ∃ Nx : Hp → Prop, (∀ H', Nx H' → ∃ m', m' < m ∧ W (i + 1) m' H') ∧ ∀ x H', (Itz K a b).yld i H x H' → Body x H' Nx) := by
  refine ⟨fun i m H => m = xs.length - i ∧ i ≤ xs.length ∧ Pv i H, ⟨xs.length, rfl, Nat.zero_le _, h0⟩, ?_⟩
  rintro i m H ⟨rfl, hi, p⟩
  obtain ⟨qx, qy⟩ := hq i H p
  by_cases hlt : i < xs.length
  · have hx : xs[i]? = some xs[i] := List.getElem?_eq_getElem hlt
    have hy : ys[i]? = some ys[i] := List.getElem?_eq_getElem (by omega)
    refine .inr ⟨⟨xs, ys, _, _, qx, qy, hx, hy⟩, Pv (i + 1), fun H' p' => ⟨xs.length - (i + 1), by omega, rfl, hlt, p'⟩, fun v H' y => ?_⟩
    obtain ⟨T, x', y', rfl, hT, rfl, f1, f2⟩ := y
    exact hs i x' y' T H (f1 xs qx) (f2 ys qy) p hT
  · have e : i = xs.length := by omega
    subst e
    exact .inl ⟨⟨xs, ys, qx, qy, Or.inl (Nat.le_refl _)⟩, hd H p⟩
/-- alike data, at most n deep -/
def Al : Nat → Hp → V → V → Prop
  | 0, _, _, _ => False
  | n + 1, H, x, y => (x = y ∧ ((∃ i, x = .int i) ∨ (∃ z, x = .str z) ∨ (∃ b, x = .bl b) ∨ x = .non)) ∨
    (∃ (a b : Addr) (xs ys : List V), x = .ref a ∧ y = .ref b ∧ H a = some (.tup xs) ∧ H b = some (.tup ys) ∧ xs.length = ys.length ∧ xs.length ≤ 1000 ∧ ∀ (j : Nat) (u v : V), xs[j]? = some u → ys[j]? = some v → Al n H u v) ∨
    (∃ (a b : Addr) (xs ys : List V), x = .ref a ∧ y = .ref b ∧ H a = some (.lst xs) ∧ H b = some (.lst ys) ∧ xs.length = ys.length ∧ xs.length ≤ 1000 ∧ ∀ (j : Nat) (u v : V), xs[j]? = some u → ys[j]? = some v → Al n H u v)
theorem Al.same : ∀ {n : Nat} {H H' : Hp} {x y : V}, Same H H' → Al n H x y → Al n H' x y
  | 0, _, _, _, _, _, h => h
  | n + 1, H, H', x, y, s, h => by
    rcases h with h | ⟨a, b, xs, ys, h1, h2, h3, h4, h5, h6, h7⟩ | ⟨a, b, xs, ys, h1, h2, h3, h4, h5, h6, h7⟩
    · exact .inl h
    · exact .inr (.inl ⟨a, b, xs, ys, h1, h2, s _ _ h3, s _ _ h4, h5, h6, fun j u v e1 e2 => (h7 j u v e1 e2).same s⟩)
    · exact .inr (.inr ⟨a, b, xs, ys, h1, h2, s _ _ h3, s _ _ h4, h5, h6, fun j u v e1 e2 => (h7 j u v e1 e2).same s⟩)
section
variable {P : Program} {w : World} {K : PySem.W.Frag} {mg : Str → Option Value} {base : Heap}
abbrev s_law_same : Stmt := topS 30
abbrev n_law_same : List Str := ["_law_found", "_law_due", "_law_my_one", "_law_two"]
theorem sc_law_same : FnScope n_law_same ["_law_found", "_law_due"] (defScope s_law_same) := ⟨rfl, rfl, rfl, by decide +kernel, rfl, by decide +kernel, by decide +kernel⟩
def spSame (n : Nat) : Sp := fun vs H Q _ => ∃ x y : V, vs = [x, y] ∧ Al n H x y ∧ ∀ H', Same H H' → Q (.bl true) H'
theorem ok_same {f : Addr} {fd : FuncData} (F : Fun K "_law_same" "_law_same" s_law_same f fd) (T : Tx mg) (gf : mg "_law_same" = some (.ref f)) (bf : Binds K fd ["_law_found", "_law_due"] []) : ∀ n : Nat, FnOk P w K mg base CX0 (n + 1) f fd ["_law_found", "_law_due"] (spSame n)
  | 0 => F.ok sc_law_same (fun vs H Q E h => by
      obtain ⟨_, _, _, h, _⟩ := h
      exact h.elim) (fun cdv A outer s H vs Q E hr h => by
      obtain ⟨_, _, _, h, _⟩ := h
      exact h.elim)
  | n + 1 => by
    have c_law_same : Cal P w K mg base CX0 (n + 1) "_law_same" ["_law_found", "_law_due"] (spSame n) := ⟨f, fd, ok_same F T gf bf n, gf, F.kp, bf⟩
    refine F.ok sc_law_same (fun vs H Q E h => ?_) (fun cdv A outer s H vs Q E hr h => ?_)
    · obtain ⟨x, y, rfl, _⟩ := h
      rfl
    · obtain ⟨x, y, rfl, h, q⟩ := h
      refine ⟨_, (pss_cons (ps_if (pt_val (pe_callB (c_isi (K := K)) (by rfl) T.isinstance (by decide +kernel) (pa_cons (pv 1) (pa_cons (pe_bltn (v := .ty "dict") (by rfl) T.dict (by decide +kernel) rfl) pa_nil))))
    pss_never
    pss_nil)
  (pss_cons (ps_if (pt_cmpR op_ne (pe_callB (c_isi (K := K)) (by rfl) T.isinstance (by decide +kernel) (pa_cons (pv 1) (pa_cons (pe_bltn (v := .ty "tuple") (by rfl) T.tuple (by decide +kernel) rfl) pa_nil))) (pe_callB (c_isi (K := K)) (by rfl) T.isinstance (by decide +kernel) (pa_cons (pv 0) (pa_cons (pe_bltn (v := .ty "tuple") (by rfl) T.tuple (by decide +kernel) rfl) pa_nil))) (nomark _))
    (pss_one (ps_ret pe_bl))
    pss_nil)
  (pss_cons (ps_if (pt_cmpR op_ne (pe_callB (c_isi (K := K)) (by rfl) T.isinstance (by decide +kernel) (pa_cons (pv 1) (pa_cons (pe_bltn (v := .ty "list") (by rfl) T.list (by decide +kernel) rfl) pa_nil))) (pe_callB (c_isi (K := K)) (by rfl) T.isinstance (by decide +kernel) (pa_cons (pv 0) (pa_cons (pe_bltn (v := .ty "list") (by rfl) T.list (by decide +kernel) rfl) pa_nil))) (nomark _))
    (pss_one (ps_ret pe_bl))
    pss_nil)
  (pss_cons (ps_if (pt_val (pe_callB (c_isiT (K := K)) (by rfl) T.isinstance (by decide +kernel) (pa_cons (pv 1) (pa_cons (pe_tup (pa_cons (pe_bltn (v := .ty "list") (by rfl) T.list (by decide +kernel) rfl) (pa_cons (pe_bltn (v := .ty "tuple") (by rfl) T.tuple (by decide +kernel) rfl) pa_nil))) pa_nil))))
    (pss_cons (ps_if (pt_not (pt_cmpR op_eq (pe_callB (c_len (K := K)) (by rfl) T.len PySem.boot_len (pa_cons (pv 0) pa_nil)) (pe_callB (c_len (K := K)) (by rfl) T.len PySem.boot_len (pa_cons (pv 1) pa_nil)) (nomark _)))
      (pss_one (ps_ret pe_bl))
      pss_nil)
    (pss_one (ps_ret (pe_callB (c_all (K := K) rfl) (by rfl) T.all (by decide +kernel) (pa_cons (pe_lc (own := [("_law_my_one", 2), ("_law_two", 3)]) (by rfl) sc_law_same.nd (RZ.pi_zipA (by rfl) T.zip (pa_cons (pv 0) (pa_cons (pv 1) pa_nil))) (blkOk_by (own := [("_law_my_one", 2), ("_law_two", 3)]) (N := n_law_same) (sc := defScope s_law_same) (by decide +kernel)) (fun _ _ _ _ _ => (g_tup (K := K) (n := 2) rfl (pgs_cons (pg_name (i := 2) sc_law_same.nd rfl (.inl rfl)) (pgs_cons (pg_name (i := 3) sc_law_same.nd rfl (.inl rfl)) pgs_nil)))) (fun _ _ _ _ _ => pts_nil) (fun _ _ _ _ _ => (pe_cal c_law_same hr (by rfl) (pa_cons (pv 2) (pa_cons (pv 3) pa_nil))))) pa_nil)))))
    pss_nil)
  (pss_cons (ps_if (pt_cmpR op_ne (pe_callB (c_isi (K := K)) (by rfl) T.isinstance (by decide +kernel) (pa_cons (pv 1) (pa_cons (pe_bltn (v := .ty "bool") (by rfl) T.bool (by decide +kernel) rfl) pa_nil))) (pe_callB (c_isi (K := K)) (by rfl) T.isinstance (by decide +kernel) (pa_cons (pv 0) (pa_cons (pe_bltn (v := .ty "bool") (by rfl) T.bool (by decide +kernel) rfl) pa_nil))) (nomark _))
    (pss_one (ps_ret pe_bl))
    pss_nil)
  (pss_cons (ps_if (pt_cmpR op_ne (pe_callB (c_isi (K := K)) (by rfl) T.isinstance (by decide +kernel) (pa_cons (pv 1) (pa_cons (pe_bltn (v := .ty "str") (by rfl) T.str (by decide +kernel) rfl) pa_nil))) (pe_callB (c_isi (K := K)) (by rfl) T.isinstance (by decide +kernel) (pa_cons (pv 0) (pa_cons (pe_bltn (v := .ty "str") (by rfl) T.str (by decide +kernel) rfl) pa_nil))) (nomark _))
    (pss_one (ps_ret pe_bl))
    pss_nil)
  (pss_one (ps_ret (pe_and (pe_cmpR op_eq (pe_cmpR op_isN (pv 1) pe_non (nomark _)) (pe_cmpR op_isN (pv 0) pe_non (nomark _)) (nomark _)) (pe_one (pe_cmpR op_eq (pv 0) (pv 1) (nomark _)))))))))))), ?_⟩
      rcases h with ⟨rfl, h⟩ | ⟨a, b, xs, ys, rfl, rfl, ha, hb, hl, hz, hi⟩ | ⟨a, b, xs, ys, rfl, rfl, ha, hb, hl, hz, hi⟩
      · -- numbers, texts, truths, None
        obtain ⟨t, b1, b2, ty, k1, k2, k3, k4, k5, hsc⟩ : ∃ (t : String) (b1 b2 : Bool), (∀ H', TyOf K H' x (.type t)) ∧ kitB t "dict" = some false ∧ kitB t "tuple" = some false ∧ kitB t "list" = some false ∧ kitB t "bool" = some b1 ∧ kitB t "str" = some b2 ∧ scal x x = true := by
          rcases h with ⟨i, rfl⟩ | ⟨z, rfl⟩ | ⟨b, rfl⟩ | rfl
          · exact ⟨"int", false, false, fun _ => .int i, by decide +kernel, by decide +kernel, by decide +kernel, by decide +kernel, by decide +kernel, rfl⟩
          · exact ⟨"str", false, true, fun _ => .str z, by decide +kernel, by decide +kernel, by decide +kernel, by decide +kernel, by decide +kernel, rfl⟩
          · exact ⟨"bool", true, false, fun _ => .bl b, by decide +kernel, by decide +kernel, by decide +kernel, by decide +kernel, by decide +kernel, rfl⟩
          · exact ⟨"NoneType", false, false, fun _ => .non, by decide +kernel, by decide +kernel, by decide +kernel, by decide +kernel, by decide +kernel, rfl⟩
        have kA : PySem.W.kitAny K (.type t) [.type "list", .type "tuple"] = some false := kitAny_cons (kit_ty k3) (fun _ => kitAny_cons (kit_ty k2) (fun _ => kitAny_nil) (fun z => by cases z)) (fun z => by cases z)
        refine ⟨x, rfl, _, _, _, _, false, rfl, .ty "dict", .base (ty _), kit_ty k1, false, rfl, iteF ?_⟩
        refine ⟨x, rfl, _, _, _, _, false, rfl, .ty "tuple", .base (ty _), kit_ty k2, x, rfl, _, _, _, _, false, rfl, .ty "tuple", .base (ty _), kit_ty k2, rfl, _, rfl, iteNS rfl ?_⟩
        refine ⟨x, rfl, _, _, _, _, false, rfl, .ty "list", .base (ty _), kit_ty k3, x, rfl, _, _, _, _, false, rfl, .ty "list", .base (ty _), kit_ty k3, rfl, _, rfl, iteNS rfl ?_⟩
        refine ⟨x, rfl, by show 2 ≤ sizeLine; decide, fun tp etp => ⟨x, tp, _, _, [.type "list", .type "tuple"], false, rfl, upd_same, .cons (.ty "list") (.cons (.ty "tuple") .nil), .base (ty _), kA, false, rfl, iteF ?_⟩⟩
        refine ⟨x, rfl, _, _, _, _, b1, rfl, .ty "bool", .base (ty _), kit_ty k4, x, rfl, _, _, _, _, b1, rfl, .ty "bool", .base (ty _), kit_ty k4, rfl, _, rfl, iteNS rfl ?_⟩
        refine ⟨x, rfl, _, _, _, _, b2, rfl, .ty "str", .base (ty _), kit_ty k5, x, rfl, _, _, _, _, b2, rfl, .ty "str", .base (ty _), kit_ty k5, rfl, _, rfl, iteNS rfl ?_⟩
        refine ⟨x, rfl, rfl, x, rfl, rfl, rfl, true, by rw [decide_eq_true rfl], iteT ⟨x, rfl, x, rfl, hsc, ?_⟩⟩
        rw [decide_eq_true rfl]
        exact q _ (same_upd etp)
      · -- two tuples
        have kA : PySem.W.kitAny K (.type "tuple") [.type "list", .type "tuple"] = some true := kitAny_cons (kit_ty (show kitB "tuple" "list" = some false by decide +kernel)) (fun _ => kitAny_cons (kit_ty (show kitB "tuple" "tuple" = some true by decide +kernel)) (fun z => by cases z) (fun _ => rfl)) (fun z => by cases z)
        refine ⟨.ref b, rfl, _, _, _, _, false, rfl, .ty "dict", .base (.tup hb), kit_ty (by decide +kernel), false, rfl, iteF ?_⟩
        refine ⟨.ref b, rfl, _, _, _, _, true, rfl, .ty "tuple", .base (.tup hb), kit_ty (by decide +kernel), .ref a, rfl, _, _, _, _, true, rfl, .ty "tuple", .base (.tup ha), kit_ty (by decide +kernel), rfl, _, rfl, iteNS rfl ?_⟩
        refine ⟨.ref b, rfl, _, _, _, _, false, rfl, .ty "list", .base (.tup hb), kit_ty (by decide +kernel), .ref a, rfl, _, _, _, _, false, rfl, .ty "list", .base (.tup ha), kit_ty (by decide +kernel), rfl, _, rfl, iteNS rfl ?_⟩
        refine ⟨.ref b, rfl, by show 2 ≤ sizeLine; decide, fun tp etp => ?_⟩
        have s1 := same_upd (o := .tup [.ty "list", .ty "tuple"]) etp
        have ha := s1 _ _ ha
        have hb := s1 _ _ hb
        refine ⟨.ref b, tp, _, _, [.type "list", .type "tuple"], true, rfl, upd_same, .cons (.ty "list") (.cons (.ty "tuple") .nil), .base (.tup hb), kA, true, rfl, iteT ?_⟩
        refine ⟨.ref a, rfl, a, _, rfl, .inr (SqT.of ha), .ref b, rfl, b, _, rfl, .inr (SqT.of hb), rfl, _, rfl, ?_⟩
        rw [hl]
        refine iteNS rfl ?_
        refine ⟨.ref a, rfl, .ref b, rfl, a, b, xs, ys, rfl, .inr ⟨SqT.of ha, SqT.of hb, fun D eD => ?_⟩⟩
        have naD : a ≠ D := ne_of_none ha eD
        have nbD : b ≠ D := ne_of_none hb eD
        refine it_zipT hl (fun j H' => H' D = some (.lst ((List.replicate j true).map V.bl)) ∧ ∀ c o, c ≠ D → (upd H tp (.tup [.ty "list", .ty "tuple"])) c = some o → H' c = some o) ⟨upd_same, fun c o n e => by rw [upd_ne n]; exact e⟩ (fun j H' ⟨_, k⟩ => ⟨SqT.of (k _ _ naD ha), SqT.of (k _ _ nbD hb)⟩) ?_ ?_
        · rintro j u v Tt H1 hu hv ⟨e1, k1⟩ nT
          have hj := (List.getElem?_eq_some_iff.mp hu).1
          have sT := same_upd (o := .tup [u, v]) nT
          have sA : Same H (upd H1 Tt (.tup [u, v])) := fun c o e => sT _ _ (k1 _ _ (ne_of_none (s1 _ _ e) eD) (s1 _ _ e))
          refine ⟨Tt, [u, v], rfl, SqT.of upd_same, rfl, u, [v], rfl, v, [], rfl, rfl, rfl, u, rfl, v, rfl, u, v, rfl, (hi j u v hu hv).same sA, fun H2 s2 => ?_⟩
          refine ⟨_, s2 _ _ (sT _ _ e1), by rw [List.length_map, List.length_replicate]; exact small1000 (by omega), ?_, fun c o n e => ?_⟩
          · rw [upd_same, List.replicate_succ', List.map_append]
            rfl
          · rw [upd_ne n]
            exact s2 _ _ (sT _ _ (k1 _ _ n e))
        · rintro H1 ⟨e1, k1⟩
          refine ⟨D, _, rfl, SqL.of e1, ?_⟩
          rw [all_rep]
          exact q _ fun c o e => k1 _ _ (ne_of_none (s1 _ _ e) eD) (s1 _ _ e)
      · -- two lists
        have kA : PySem.W.kitAny K (.type "list") [.type "list", .type "tuple"] = some true := kitAny_cons (kit_ty (show kitB "list" "list" = some true by decide +kernel)) (fun z => by cases z) (fun _ => rfl)
        refine ⟨.ref b, rfl, _, _, _, _, false, rfl, .ty "dict", .base (.lst hb), kit_ty (by decide +kernel), false, rfl, iteF ?_⟩
        refine ⟨.ref b, rfl, _, _, _, _, false, rfl, .ty "tuple", .base (.lst hb), kit_ty (by decide +kernel), .ref a, rfl, _, _, _, _, false, rfl, .ty "tuple", .base (.lst ha), kit_ty (by decide +kernel), rfl, _, rfl, iteNS rfl ?_⟩
        refine ⟨.ref b, rfl, _, _, _, _, true, rfl, .ty "list", .base (.lst hb), kit_ty (by decide +kernel), .ref a, rfl, _, _, _, _, true, rfl, .ty "list", .base (.lst ha), kit_ty (by decide +kernel), rfl, _, rfl, iteNS rfl ?_⟩
        refine ⟨.ref b, rfl, by show 2 ≤ sizeLine; decide, fun tp etp => ?_⟩
        have s1 := same_upd (o := .tup [.ty "list", .ty "tuple"]) etp
        have ha := s1 _ _ ha
        have hb := s1 _ _ hb
        refine ⟨.ref b, tp, _, _, [.type "list", .type "tuple"], true, rfl, upd_same, .cons (.ty "list") (.cons (.ty "tuple") .nil), .base (.lst hb), kA, true, rfl, iteT ?_⟩
        refine ⟨.ref a, rfl, a, _, rfl, .inl (SqL.of ha), .ref b, rfl, b, _, rfl, .inl (SqL.of hb), rfl, _, rfl, ?_⟩
        rw [hl]
        refine iteNS rfl ?_
        refine ⟨.ref a, rfl, .ref b, rfl, a, b, xs, ys, rfl, .inl ⟨SqL.of ha, SqL.of hb, fun D eD => ?_⟩⟩
        have naD : a ≠ D := ne_of_none ha eD
        have nbD : b ≠ D := ne_of_none hb eD
        refine it_zipL hl (fun j H' => H' D = some (.lst ((List.replicate j true).map V.bl)) ∧ ∀ c o, c ≠ D → (upd H tp (.tup [.ty "list", .ty "tuple"])) c = some o → H' c = some o) ⟨upd_same, fun c o n e => by rw [upd_ne n]; exact e⟩ (fun j H' ⟨_, k⟩ => ⟨SqL.of (k _ _ naD ha), SqL.of (k _ _ nbD hb)⟩) ?_ ?_
        · rintro j u v Tt H1 hu hv ⟨e1, k1⟩ nT
          have hj := (List.getElem?_eq_some_iff.mp hu).1
          have sT := same_upd (o := .tup [u, v]) nT
          have sA : Same H (upd H1 Tt (.tup [u, v])) := fun c o e => sT _ _ (k1 _ _ (ne_of_none (s1 _ _ e) eD) (s1 _ _ e))
          refine ⟨Tt, [u, v], rfl, SqT.of upd_same, rfl, u, [v], rfl, v, [], rfl, rfl, rfl, u, rfl, v, rfl, u, v, rfl, (hi j u v hu hv).same sA, fun H2 s2 => ?_⟩
          refine ⟨_, s2 _ _ (sT _ _ e1), by rw [List.length_map, List.length_replicate]; exact small1000 (by omega), ?_, fun c o n e => ?_⟩
          · rw [upd_same, List.replicate_succ', List.map_append]
            rfl
          · rw [upd_ne n]
            exact s2 _ _ (sT _ _ (k1 _ _ n e))
        · rintro H1 ⟨e1, k1⟩
          refine ⟨D, _, rfl, SqL.of e1, ?_⟩
          rw [all_rep]
          exact q _ fun c o e => k1 _ _ (ne_of_none (s1 _ _ e) eD) (s1 _ _ e)
end
end Bw
set_option Elab.async false
set_option linter.all false
set_option maxRecDepth 100000
set_option maxHeartbeats 4000000
namespace Bw
open PySem PySem.Spec PyProof.Rows L2
/-! ### rows by their addresses -/
def RefsAt (H : Hp) (as : List Addr) (rows : List (List Int)) : Prop := as.length = rows.length ∧ ∀ (i : Nat) (r : List Int), rows[i]? = some r → ∃ b, as[i]? = some b ∧ H b = some (.tup (r.map V.int))
theorem RefsAt.tab {H : Hp} {a : Addr} {as : List Addr} {rows : List (List Int)} (h : RefsAt H as rows) (e : H a = some (.tup (as.map V.ref))) : TabAt H a rows := ⟨as, e, h.1, h.2⟩
theorem TabAt.refs {H : Hp} {a : Addr} {rows : List (List Int)} (h : TabAt H a rows) : ∃ as : List Addr, H a = some (.tup (as.map V.ref)) ∧ RefsAt H as rows := by
  obtain ⟨as, e, l, k⟩ := h
  exact ⟨as, e, l, k⟩
theorem RefsAt.same {H H' : Hp} {as : List Addr} {rows : List (List Int)} (s : Same H H') (h : RefsAt H as rows) : RefsAt H' as rows := ⟨h.1, fun i r e => by
  obtain ⟨b, e1, e2⟩ := h.2 i r e
  exact ⟨b, e1, s _ _ e2⟩⟩
theorem RefsAt.append {H : Hp} {as bs : List Addr} {rows more : List (List Int)} (h : RefsAt H as rows) (k : RefsAt H bs more) : RefsAt H (as ++ bs) (rows ++ more) := by
  refine ⟨by rw [List.length_append, List.length_append, h.1, k.1], fun i r e => ?_⟩
  rw [List.getElem?_append] at e
  split at e
  · next hi =>
    obtain ⟨b, e1, e2⟩ := h.2 i r e
    exact ⟨b, by rw [List.getElem?_append, if_pos (by rw [h.1]; exact hi)]; exact e1, e2⟩
  · next hi =>
    obtain ⟨b, e1, e2⟩ := k.2 _ r e
    exact ⟨b, by rw [List.getElem?_append, if_neg (by rw [h.1]; exact hi), h.1]; exact e1, e2⟩
theorem RefsAt.take {H : Hp} {as : List Addr} {rows : List (List Int)} (h : RefsAt H as rows) (n : Nat) : RefsAt H (as.take n) (rows.take n) := by
  refine ⟨by rw [List.length_take, List.length_take, h.1], fun i r e => ?_⟩
  rw [List.getElem?_take] at e
  split at e
  · next hi =>
    obtain ⟨b, e1, e2⟩ := h.2 i r e
    exact ⟨b, by rw [List.getElem?_take, if_pos hi]; exact e1, e2⟩
  · cases e
theorem RefsAt.drop {H : Hp} {as : List Addr} {rows : List (List Int)} (h : RefsAt H as rows) (n : Nat) : RefsAt H (as.drop n) (rows.drop n) := by
  refine ⟨by rw [List.length_drop, List.length_drop, h.1], fun i r e => ?_⟩
  rw [List.getElem?_drop] at e
  obtain ⟨b, e1, e2⟩ := h.2 _ r e
  exact ⟨b, by rw [List.getElem?_drop]; exact e1, e2⟩
theorem cut_take (xs : List V) (n : Nat) : cutV xs none (some (n : Int)) = xs.take n := by
  unfold cutV
  rw [HT.sIx_nat, HT.sIx_none, List.drop_zero, Nat.sub_zero]
  by_cases h : n ≤ xs.length
  · rw [Nat.min_eq_left h]
  · rw [Nat.min_eq_right (by omega), List.take_of_length_le (Nat.le_refl _), List.take_of_length_le (by omega)]
theorem cut_drop (xs : List V) (n : Nat) : cutV xs (some (n : Int)) none = xs.drop n := by
  unfold cutV
  rw [HT.sIx_nat, HT.sIx_none]
  by_cases h : n ≤ xs.length
  · rw [Nat.min_eq_left h, List.take_of_length_le]
    rw [List.length_drop]
    exact Nat.le_refl _
  · rw [Nat.min_eq_right (by omega), List.drop_of_length_le (Nat.le_refl _), List.drop_of_length_le (by omega), List.take_nil]
/-! ### what is being gathered in a comprehension -/
def Acc (H0 H' : Hp) (D : Addr) (G : Nat → List Int) (i : Nat) : Prop := ∃ ts : List Addr, ts.length = i ∧ (∀ (k : Nat) (b : Addr), ts[k]? = some b → H' b = some (.tup ((G k).map V.int))) ∧ H' D = some (.lst (ts.map V.ref)) ∧ ∀ b o, b ≠ D → H0 b = some o → H' b = some o
theorem Acc.zero {H0 : Hp} {D : Addr} {G : Nat → List Int} : Acc H0 (upd H0 D (.lst [])) D G 0 := ⟨[], rfl, fun k b e => by simp at e, upd_same, fun b o n e => by rw [upd_ne n]; exact e⟩
theorem Acc.next {H0 H1 H2 : Hp} {D p : Addr} {G : Nat → List Int} {i : Nat} (h : Acc H0 H1 D G i) (s : Same H1 H2) (hp : H2 p = some (.tup ((G i).map V.int))) (hi : i ≤ 1000) :
    ∃ acc, H2 D = some (.lst acc) ∧ acc.length < sizeLine ∧ Acc H0 (upd H2 D (.lst (acc ++ [.ref p]))) D G (i + 1) := by
  obtain ⟨ts, et, hts, eD, k⟩ := h
  have eD2 := s _ _ eD
  have npD : p ≠ D := ne_of hp eD2 (by intro z; cases z)
  refine ⟨_, eD2, by rw [List.length_map]; exact small1000 (by omega), ts ++ [p], by rw [List.length_append, et]; rfl, fun k c e => ?_, ?_, fun c o nc e => ?_⟩
  · rw [List.getElem?_append] at e
    split at e
    · have hc := s _ _ (hts k c e)
      rw [upd_ne (ne_of hc eD2 (by intro z; cases z))]
      exact hc
    · next hk =>
      have h2 := (List.getElem?_eq_some_iff.mp e).1
      rw [List.length_singleton] at h2
      have hk2 : k = i := by omega
      subst hk2
      have z : k - ts.length = 0 := by omega
      rw [z] at e
      have : p = c := Option.some.inj e
      subst this
      rw [upd_ne npD]
      exact hp
  · rw [upd_same, List.map_append]
    rfl
  · rw [upd_ne nc]
    exact s _ _ (k _ _ nc e)
theorem Acc.get {H0 H1 : Hp} {D : Addr} {G : Nat → List Int} {n : Nat} (h : Acc H0 H1 D G n) : ∃ ts : List Addr, H1 D = some (.lst (ts.map V.ref)) ∧ RefsAt H1 ts ((List.range n).map G) := by
  obtain ⟨ts, et, hts, eD, k⟩ := h
  refine ⟨ts, eD, by rw [et, List.length_map, List.length_range], fun i r e => ?_⟩
  have hi : i < n := by
    have := (List.getElem?_eq_some_iff.mp e).1
    rw [List.length_map, List.length_range] at this
    exact this
  have e2 : G i = r := by
    rw [List.getElem?_map, List.getElem?_range hi] at e
    exact Option.some.inj e
  subst e2
  exact ⟨_, List.getElem?_eq_getElem (by omega), hts i _ (List.getElem?_eq_getElem (by omega))⟩
theorem Acc.stay {H0 H1 : Hp} {D : Addr} {G : Nat → List Int} {n : Nat} (h : Acc H0 H1 D G n) {b : Addr} {o : HO} (n : H0 D = none) (e : H0 b = some o) : H1 b = some o := by
  obtain ⟨ts, et, hts, eD, k⟩ := h
  exact k _ _ (ne_of_none e n) e
def AccI (H0 H' : Hp) (D : Addr) (g : Nat → Int) (i : Nat) : Prop := H' D = some (.lst ((matRow i g).map V.int)) ∧ ∀ b o, b ≠ D → H0 b = some o → H' b = some o
theorem AccI.zero {H0 : Hp} {D : Addr} {g : Nat → Int} : AccI H0 (upd H0 D (.lst [])) D g 0 := ⟨upd_same, fun b o n e => by rw [upd_ne n]; exact e⟩
theorem AccI.next {H0 H1 H2 : Hp} {D : Addr} {g : Nat → Int} {i : Nat} {y : Int} (h : AccI H0 H1 D g i) (s : Same H1 H2) (hy : y = g i) (hi : i ≤ 1000) : ∃ acc, H2 D = some (.lst acc) ∧ acc.length < sizeLine ∧ AccI H0 (upd H2 D (.lst (acc ++ [.int y]))) D g (i + 1) := by
  refine ⟨_, s _ _ h.1, by rw [List.length_map, matRow_len]; exact small1000 hi, ?_, fun b o n e => by rw [upd_ne n]; exact s _ _ (h.2 _ _ n e)⟩
  rw [upd_same, hy]
  unfold matRow
  rw [List.range_succ, List.map_append, List.map_append]
  rfl
theorem AccI.stay {H0 H1 : Hp} {D : Addr} {g : Nat → Int} {n : Nat} (h : AccI H0 H1 D g n) {b : Addr} {o : HO} (n : H0 D = none) (e : H0 b = some o) : H1 b = some o := h.2 _ _ (ne_of_none e n) e
/-! ### readings -/
theorem rep_done {K : PySem.W.Frag} {H : Hp} {Q : VK} {z0 : Addr} {m : Nat} (h0 : H z0 = some (.tup [.int 0])) (h1 : 1 ≤ m) (h8 : m ≤ 8) (q : ∀ (z : Addr) (H' : Hp), Same H H' → H' z = some (.tup ((matRow m fun _ => 0).map V.int)) → Q (.ref z) H') : rRep1 K (.ref z0) (.int m) H Q := by
  refine ⟨z0, m, _, rfl, rfl, SqT.of h0, (fun e => by cases e), by omega, by omega, by show 1 ≤ 1000; decide, fun e => ?_, fun _ p hp => ?_⟩
  · have : m = 1 := by omega
    subst this
    exact q z0 H (.refl _) h0
  · refine q p _ (same_upd hp) ?_
    rw [upd_same, Int.toNat_natCast, rep_flat]
theorem cat_done {K : PySem.W.Frag} {H : Hp} {Q : VK} {a b : Addr} {xs ys : List V} (hx : H a = some (.tup xs)) (hy : H b = some (.tup ys)) (nx : xs ≠ []) (ny : ys ≠ []) (lx : xs.length ≤ 500) (ly : ys.length ≤ 500) (q : ∀ (p : Addr) (H' : Hp), Same H H' → H' p = some (.tup (xs ++ ys)) → Q (.ref p) H') : rCatA K (.ref a) (.ref b) H Q :=
  ⟨a, b, xs, ys, rfl, rfl, SqT.of hx, SqT.of hy, Nat.le_of_lt (small1000 (by omega)), fun e => absurd e nx, fun _ e => absurd e ny, fun _ _ p hp => q p _ (same_upd hp) upd_same⟩
theorem sl_done {K : PySem.W.Frag} {H : Hp} {Q : VK} {a : Addr} {xs : List V} {n : Nat} (hx : H a = some (.tup xs)) (q : ∀ (p : Addr) (H' : Hp), Same H H' → H' p = some (.tup (xs.take n)) → Q (.ref p) H') : rSlA K (.ref a) none (some (n : Int)) H Q := by
  refine ⟨a, xs, rfl, SqT.of hx, fun e => ?_, fun _ p hp => q p _ (same_upd hp) (by rw [upd_same, cut_take])⟩
  have e2 := e.2
  rw [HT.sIx_nat] at e2
  refine q a H (.refl _) ?_
  rw [List.take_of_length_le (by omega)]
  exact hx
/-! ### other tables -/
def uRow (n k : Nat) : List Int := matRow n fun j => if k = j then 1 else 0
def uRows (n : Nat) : List (List Int) := (List.range n).map (uRow n)
def negRow (r : List Int) : List Int := r.map fun t => -t
def negRows (rows : List (List Int)) : List (List Int) := rows.map negRow
def zRow (n : Nat) : List Int := matRow n fun _ => 0
def sideRows (r1 : List (List Int)) (n1 : Nat) (r2 : List (List Int)) (n2 : Nat) : List (List Int) :=
  ((r1.map (· ++ zRow n2)).take n1 ++ (r2.map (zRow n1 ++ ·)).take n2 ++ (r1.map (· ++ zRow n2)).drop n1) ++ (r2.map (zRow n1 ++ ·)).drop n2
theorem mat_of (r : List Int) (h : Int → Int) : (matRow r.length fun j => h (r.getD j 0)) = r.map h := by
  apply List.ext_getElem?
  intro k
  by_cases hk : k < r.length
  · rw [matRow_get hk, List.getElem?_map, List.getElem?_eq_getElem hk, List.getD_eq_getElem?_getD, List.getElem?_eq_getElem hk]
    rfl
  · rw [List.getElem?_eq_none (by rw [matRow_len]; omega), List.getElem?_eq_none (by rw [List.length_map]; omega)]
theorem rows_of (rows : List (List Int)) (h : List Int → List Int) : ((List.range rows.length).map fun k => h (rows.getD k [])) = rows.map h := by
  apply List.ext_getElem?
  intro k
  by_cases hk : k < rows.length
  · rw [List.getElem?_map, List.getElem?_map, List.getElem?_range hk, List.getElem?_eq_getElem hk]
    show some (h (rows.getD k [])) = _
    rw [List.getD_eq_getElem?_getD, List.getElem?_eq_getElem hk]
    rfl
  · rw [List.getElem?_eq_none (by rw [List.length_map, List.length_range]; omega), List.getElem?_eq_none (by rw [List.length_map]; omega)]
theorem neg_neg (rows : List (List Int)) : negRows (negRows rows) = rows := by
  unfold negRows negRow
  rw [List.map_map]
  have e : ((fun r : List Int => r.map fun t => -t) ∘ fun r : List Int => r.map fun t => -t) = id := by
    funext r
    show (r.map fun t => -t).map (fun t => -t) = r
    rw [List.map_map]
    have e2 : ((fun t : Int => -t) ∘ fun t : Int => -t) = id := by
      funext t
      exact Int.neg_neg t
    rw [e2, List.map_id]
  rw [e, List.map_id]
theorem negRows_get {rows : List (List Int)} {i : Nat} : (negRows rows).getD i [] = negRow (rows.getD i []) := by
  unfold negRows
  rw [List.getD_eq_getElem?_getD, List.getElem?_map, List.getD_eq_getElem?_getD]
  cases rows[i]? <;> rfl
theorem ent_neg (rows : List (List Int)) (i j : Nat) : ent (negRows rows) i j = -(ent rows i j) := by
  unfold ent
  rw [negRows_get]
  unfold negRow
  rw [List.getD_eq_getElem?_getD, List.getElem?_map, List.getD_eq_getElem?_getD (l := rows.getD i [])]
  cases (rows.getD i [])[j]? <;> rfl
theorem TabOk.neg {rows : List (List Int)} {n : Nat} (O : TabOk rows n) : TabOk (negRows rows) n := by
  obtain ⟨d, d0, dv⟩ := O.even
  refine ⟨O.n1, O.n4, ?_, ?_, fun r hr => ?_, fun r hr t ht => ?_, d, d0, fun i j hi hj => ?_⟩
  · unfold negRows
    rw [List.length_map]
    exact O.len
  · unfold negRows
    rw [List.length_map]
    exact O.len4
  · obtain ⟨r', h', rfl⟩ := List.mem_map.mp hr
    unfold negRow
    rw [List.length_map]
    exact O.wide _ h'
  · obtain ⟨r', h', rfl⟩ := List.mem_map.mp hr
    obtain ⟨t', h2, rfl⟩ := List.mem_map.mp ht
    have := O.tie _ h' _ h2
    omega
  · have := dv i j hi hj
    rw [ent_neg, ent_neg, Int.mul_neg, Int.mul_neg]
    omega
theorem ent_prin {rows : List (List Int)} {n : Nat} (hl : n ≤ rows.length) {i j : Nat} (hi : i < n) : ent (rows.take n ++ uRows n) i j = ent rows i j := by
  unfold ent
  have e : (rows.take n ++ uRows n).getD i [] = rows.getD i [] := by
    rw [List.getD_eq_getElem?_getD, List.getElem?_append, if_pos (by rw [List.length_take]; omega), List.getElem?_take, if_pos hi, List.getD_eq_getElem?_getD]
  rw [e]
theorem uRows_mem {n : Nat} {r : List Int} (h : r ∈ uRows n) : r.length = n ∧ ∀ t ∈ r, -50 ≤ t ∧ t ≤ 50 := by
  unfold uRows at h
  obtain ⟨k, _, rfl⟩ := List.mem_map.mp h
  unfold uRow
  refine ⟨matRow_len .., fun t ht => ?_⟩
  unfold matRow at ht
  obtain ⟨j, _, rfl⟩ := List.mem_map.mp ht
  split <;> omega
theorem uRows_len (n : Nat) : (uRows n).length = n := by
  unfold uRows
  rw [List.length_map, List.length_range]
theorem TabOk.prin {rows : List (List Int)} {n : Nat} (O : TabOk rows n) : TabOk (rows.take n ++ uRows n) n := by
  obtain ⟨d, d0, dv⟩ := O.even
  have hl := O.len
  have h4 := O.n4
  refine ⟨O.n1, O.n4, ?_, ?_, fun r hr => ?_, fun r hr t ht => ?_, d, d0, fun i j hi hj => ?_⟩
  · rw [List.length_append, List.length_take, uRows_len]
    omega
  · rw [List.length_append, List.length_take, uRows_len]
    omega
  · rcases List.mem_append.mp hr with hr | hr
    · exact O.wide _ (List.mem_of_mem_take hr)
    · exact (uRows_mem hr).1
  · rcases List.mem_append.mp hr with hr | hr
    · exact O.tie _ (List.mem_of_mem_take hr) _ ht
    · exact (uRows_mem hr).2 _ ht
  · rw [ent_prin hl hi, ent_prin hl hj]
    exact dv i j hi hj
theorem prin_prin {rows : List (List Int)} {n : Nat} (hl : n ≤ rows.length) : (rows.take n ++ uRows n).take n ++ uRows n = rows.take n ++ uRows n := by
  have e : (rows.take n ++ uRows n).take n = rows.take n := by
    rw [List.take_append_of_le_length (by rw [List.length_take]; omega), List.take_take, Nat.min_self]
  rw [e]
/-- two tables alike are the same by the law's own looking -/
theorem al_tab {H : Hp} {a b : Addr} {rows : List (List Int)} (ha : TabAt H a rows) (hb : TabAt H b rows) (hz : rows.length ≤ 1000) (hw : ∀ r ∈ rows, r.length ≤ 1000) : Al 3 H (.ref a) (.ref b) := by
  obtain ⟨as, a1, a2, a3⟩ := ha
  obtain ⟨bs, b1, b2, b3⟩ := hb
  refine .inr (.inl ⟨a, b, _, _, rfl, rfl, a1, b1, by rw [List.length_map, List.length_map, a2, b2], by rw [List.length_map, a2]; exact hz, fun j u v hu hv => ?_⟩)
  have hj : j < rows.length := by
    have := (List.getElem?_eq_some_iff.mp hu).1
    rw [List.length_map, a2] at this
    exact this
  obtain ⟨x, x1, x2⟩ := a3 j _ (List.getElem?_eq_getElem hj)
  obtain ⟨y, y1, y2⟩ := b3 j _ (List.getElem?_eq_getElem hj)
  rw [List.getElem?_map, x1] at hu
  rw [List.getElem?_map, y1] at hv
  cases hu
  cases hv
  refine .inr (.inl ⟨x, y, _, _, rfl, rfl, x2, y2, rfl, by rw [List.length_map]; exact hw _ (List.getElem_mem hj), fun k u v hu hv => ?_⟩)
  obtain ⟨t, _, rfl⟩ := int_at hu
  rw [hu] at hv
  cases hv
  exact .inl ⟨rfl, .inl ⟨t, rfl⟩⟩
end Bw
set_option Elab.async false
set_option linter.all false
set_option maxRecDepth 100000
set_option maxHeartbeats 4000000
namespace Bw
open PySem PySem.Spec PyProof.Rows L2
/-! ### the errors' own __init__ -/
section
variable {P : Program} {w : World} {K : PySem.W.Frag} {mg : Str → Option Value} {base : Heap}
abbrev s_bud_init : Stmt := inClass (topS 1) 0
theorem sc_bud_init : FnScope ["self", "word"] ["self", "word"] (defScope s_bud_init) := ⟨rfl, rfl, rfl, by decide +kernel, rfl, by decide +kernel, by decide +kernel⟩
def vV (K : PySem.W.Frag) : Prop := PySem.W.findCls K (.type "ValueError") (.type "type") "__init__" = some (.val (.builtin "ValueError.__init__"))
def spBudInit (K : PySem.W.Frag) : Sp := fun vs H Q _ => ∃ (a C : Addr) (x : V), vs = [.ref a, x] ∧ OexC K C ∧ PySem.W.findIn K (.ref C) "word" = some none ∧ H a = some (exo a C none) ∧ ∀ dx, H dx = none → dx ≠ a → Q .non (upd (upd H dx (exd dx [("word", x)])) a (exo a C (some dx)))
theorem ok_budinit {f : Addr} {fd : FuncData} {k : Nat} (F : Fun K "__init__" "BudError.__init__" s_bud_init f fd) (T : Tx mg) (v : vV K) : FnOk P w K mg base CX0 (k + 1) f fd ["self", "word"] (spBudInit K) := by
  refine F.ok sc_bud_init (fun vs H Q E h => ?_) (fun cdv A outer s H vs Q E hr h => ?_)
  · obtain ⟨a, C, x, rfl, _⟩ := h
    rfl
  · obtain ⟨a, C, x, rfl, O, nw, ha, q⟩ := h
    refine ⟨_, pss_cons (ps_expr (pe_veinit (by rfl) T.ValueError v (pa_cons (pv 0) (pa_cons (pv 1) pa_nil)))) (pss_one (ps_ost (pv 0) (pv 1))), ?_⟩
    refine ⟨.ref a, rfl, x, rfl, a, C, [x], rfl, by show 1 ≤ 1000; decide, O, ha, ?_⟩
    exact ⟨x, rfl, .ref a, rfl, a, C, rfl, O, nw, .inl ⟨ha, q⟩⟩
abbrev s_great_init : Stmt := inClass (topS 4) 0
theorem sc_great_init : FnScope ["self"] ["self"] (defScope s_great_init) := ⟨rfl, rfl, rfl, by decide +kernel, rfl, by decide +kernel, by decide +kernel⟩
def greatFs : List (Str × V) := [("word", .str "great")]
def spGreatInit (K : PySem.W.Frag) : Sp := fun vs H Q _ => ∃ (a C : Addr), vs = [.ref a] ∧ OexC K C ∧ PySem.W.findIn K (.ref C) "word" = some none ∧ H a = some (exo a C none) ∧
  ∀ (dx : Addr) (H' : Hp), H dx = none → dx ≠ a → H' a = some (exo a C (some dx)) → H' dx = some (exd dx greatFs) → (∀ b, b ≠ a → b ≠ dx → H' b = H b) → Q .non H'
theorem ok_greatinit {f fB CB : Addr} {fd fdB : FuncData} {k : Nat} (F : Fun K "__init__" "Great.__init__" s_great_init f fd) (T : Tx mg) (TB : ClsFn K mg "BudError" "__init__" CB fB) (FB : FnOk P w K mg base CX0 k fB fdB ["self", "word"] (spBudInit K)) (bB : Binds K fdB ["self", "word"] []) : FnOk P w K mg base CX0 (k + 1) f fd ["self"] (spGreatInit K) := by
  refine F.ok sc_great_init (fun vs H Q E h => ?_) (fun cdv A outer s H vs Q E hr h => ?_)
  · obtain ⟨a, C, rfl, _⟩ := h
    rfl
  · obtain ⟨a, C, rfl, O, nw, ha, q⟩ := h
    refine ⟨_, pss_one (ps_expr (pe_cfun TB FB hr (by rfl) bB pass0 (pa_cons (pv 0) (pa_cons pe_str pa_nil)))), ?_⟩
    refine ⟨.ref a, rfl, a, C, _, rfl, O, nw, ha, fun dx ed nd => ?_⟩
    refine q dx _ ed nd upd_same ?_ fun b n1 n2 => ?_
    · rw [upd_ne nd, upd_same]
      rfl
    · rw [upd_ne n1, upd_ne n2]
end
/-- what the written part says of Great -/
structure GreatC (K : PySem.W.Frag) (mg : Str → Option Value) (C f : Addr) : Prop where
  g : mg "Great" = some (.ref C)
  oex : OexC K C
  iC : PySem.W.findIn K (.ref C) "__init__" = some (some (.ref f))
  tI : PySem.W.typeIn K (.ref f) = some (.type "function")
  nw : PySem.W.findIn K (.ref C) "word" = some none
  te : PySem.W.exmOne K (.ref C) (.ref C) = some true
/-! ### tables turned -/
def turnE (B : Nat → Nat → Int) (k i j : Nat) : Int :=
  if i = k ∨ j = k then -(B i j) else if 0 < B i k ∧ 0 < B k j then B i j + B i k * B k j else if B i k < 0 ∧ B k j < 0 then B i j - B i k * B k j else B i j
def turnT (rows : List (List Int)) (n k : Nat) : List (List Int) := (List.range rows.length).map fun i => matRow n (turnE (ent rows) k i)
structure WdOk (rows : List (List Int)) (n : Nat) : Prop where
  n1 : 1 ≤ n
  n4 : n ≤ 4
  len : n ≤ rows.length
  len8 : rows.length ≤ 8
  wide : ∀ r ∈ rows, r.length = n
  tie : ∀ r ∈ rows, ∀ t ∈ r, -50 ≤ t ∧ t ≤ 50
theorem WdOk.bd {rows : List (List Int)} {n i j : Nat} (O : WdOk rows n) (hi : i < rows.length) (hj : j < n) : -50 ≤ ent rows i j ∧ ent rows i j ≤ 50 := by
  have h := row_len O.wide hi
  have hj2 : j < (rows.getD i []).length := by omega
  have e : ent rows i j = (rows.getD i [])[j] := by
    unfold ent
    rw [List.getD_eq_getElem?_getD (i := j), List.getElem?_eq_getElem hj2]
    rfl
  rw [e]
  refine O.tie (rows.getD i []) ?_ _ (List.getElem_mem hj2)
  rw [List.getD_eq_getElem?_getD, List.getElem?_eq_getElem hi]
  exact List.getElem_mem hi
theorem turnT_len (rows : List (List Int)) (n k : Nat) : (turnT rows n k).length = rows.length := by
  unfold turnT
  rw [List.length_map, List.length_range]
theorem turnT_wide {rows : List (List Int)} {n k : Nat} : ∀ r ∈ turnT rows n k, r.length = n := fun r hr => by
  obtain ⟨i, _, rfl⟩ := List.mem_map.mp hr
  exact matRow_len _ _
theorem turnT_ent {rows : List (List Int)} {n k i j : Nat} (hi : i < rows.length) (hj : j < n) : ent (turnT rows n k) i j = turnE (ent rows) k i j := by
  have e : (turnT rows n k).getD i [] = matRow n (turnE (ent rows) k i) := by
    unfold turnT
    rw [List.getD_eq_getElem?_getD, List.getElem?_map, List.getElem?_range hi]
    rfl
  show ((turnT rows n k).getD i []).getD j 0 = _
  rw [e]
  exact matRow_getD hj
def fits (rows : List (List Int)) (n k : Nat) : Prop := ∀ r ∈ turnT rows n k, ∀ t ∈ r, -50 ≤ t ∧ t ≤ 50
theorem TabAt.entry {K : PySem.W.Frag} {H : Hp} {a : Addr} {rows : List (List Int)} {n i j : Nat} {Q : VK} (h : TabAt H a rows) (w : ∀ r ∈ rows, r.length = n) (hi : i < rows.length) (hj : j < n) {P : V → Hp → Prop} :
    ∃ (as : List Addr) (b : Addr), H a = some (.tup (as.map V.ref)) ∧ (as.map V.ref)[i]? = some (.ref b) ∧ H b = some (.tup ((rows.getD i []).map V.int)) ∧ ((rows.getD i []).map V.int)[j]? = some (.int (ent rows i j)) := by
  obtain ⟨as, b, h1, h2, h3⟩ := h.row hi
  exact ⟨as, b, h1, h2, h3, ent_get w hi hj⟩
/-! ### a row turned -/
def newRow (row up down : List Int) (k : Nat) : List Int :=
  if row.getD k 0 = 0 then row else matRow row.length fun j => row.getD j 0 + row.getD k 0 * (if 0 < row.getD k 0 then up else down).getD j 0
theorem getD_at {r : List Int} {j : Nat} {x : Int} (h : r[j]? = some x) : r.getD j 0 = x := by
  rw [List.getD_eq_getElem?_getD, h]
  rfl
theorem at_getD {r : List Int} {j : Nat} (h : j < r.length) : (r.map V.int)[j]? = some (.int (r.getD j 0)) := by
  rw [List.getElem?_map, List.getElem?_eq_getElem h, List.getD_eq_getElem?_getD, List.getElem?_eq_getElem h]
  rfl
section
variable {P : Program} {w : World} {K : PySem.W.Frag} {mg : Str → Option Value} {base : Heap}
abbrev s_turned_row : Stmt := topS 19
abbrev n_turned_row : List Str := ["row", "up", "down", "place", "tie", "old", "often"]
theorem sc_turned_row : FnScope n_turned_row ["row", "up", "down", "place"] (defScope s_turned_row) := ⟨rfl, rfl, rfl, by decide +kernel, rfl, by decide +kernel, by decide +kernel⟩
def spTRow : Sp := fun vs H Q _ => ∃ (r u d : Addr) (row up down : List Int) (k : Nat), vs = [.ref r, .ref u, .ref d, .int k] ∧ H r = some (.tup (row.map V.int)) ∧ H u = some (.lst (up.map V.int)) ∧ H d = some (.lst (down.map V.int)) ∧ k < row.length ∧ row.length ≤ 4 ∧ up.length = row.length ∧ down.length = row.length ∧ (∀ t ∈ row, -50 ≤ t ∧ t ≤ 50) ∧
  ∀ (b : Addr) (H' : Hp), Same H H' → H' b = some (.tup ((newRow row up down k).map V.int)) → Q (.ref b) H'
theorem ok_trow {f : Addr} {fd : FuncData} (F : Fun K "turned_row" "turned_row" s_turned_row f fd) (T : Tx mg) : FnOk P w K mg base CX0 1 f fd ["row", "up", "down", "place"] spTRow := by
  refine F.ok sc_turned_row (fun vs H Q E h => ?_) (fun cdv A outer s H vs Q E hr h => ?_)
  · obtain ⟨r, u, d, row, up, down, k, rfl, _⟩ := h
    rfl
  · obtain ⟨r, u, d, row, up, down, k, rfl, h1, hu, hd, hk, l4, lu, ld, hb, q⟩ := h
    refine ⟨_, (pss_cons (ps_set (i := 4) sc_turned_row.nd rfl (.inr rfl) (pe_ix (i_tup (K := K)) (pv 0) (pv 3) (fun _ _ => rfl)))
  (pss_cons (ps_if (pt_cmpR op_eq (pv 4) pe_int (nomark _))
    (pss_one (ps_ret (pv 0)))
    pss_nil)
  (pss_one (ps_ret (pe_callTy (c_tup (K := K)) (by rfl) T.tuple (by decide +kernel) (pa_cons (pe_lc (own := [("old", 5), ("often", 6)]) (by rfl) sc_turned_row.nd (p_zipM (K := K) (by rfl) T.zip (pa_cons (pv 0) (pa_cons (pe_ifExp (pt_cmpR op_gt (pv 4) pe_int (nomark _)) (pv 1) (pv 2)) pa_nil))) (blkOk_by (own := [("old", 5), ("often", 6)]) (N := n_turned_row) (sc := defScope s_turned_row) (by decide +kernel)) (fun _ _ _ _ _ => (g_tup (K := K) (n := 2) rfl (pgs_cons (pg_name (i := 5) sc_turned_row.nd rfl (.inl rfl)) (pgs_cons (pg_name (i := 6) sc_turned_row.nd rfl (.inl rfl)) pgs_nil)))) (fun _ _ _ _ _ => pts_nil) (fun _ _ _ _ _ => (pe_op op_add (pv 5) (pe_op op_mul (pv 4) (pv 6))))) pa_nil)))))), ?_⟩
    have ek := at_getD hk
    have hbk : -50 ≤ row.getD k 0 ∧ row.getD k 0 ≤ 50 := by
      rw [List.getD_eq_getElem?_getD, List.getElem?_eq_getElem hk]
      exact hb _ (List.getElem_mem hk)
    generalize et : row.getD k 0 = t at ek hbk
    refine ⟨.ref r, rfl, .int k, rfl, r, _, _, .int t, rfl, rfl, SqT.of h1, atI_nat ek, ?_⟩
    refine ⟨.int t, rfl, rfl, _, rfl, ite2 (fun e => ?_) (fun e => ?_)⟩
    · have e := V.int.inj (of_decide_eq_true e)
      refine ⟨.ref r, rfl, q r H (.refl _) ?_⟩
      unfold newRow
      rw [if_pos (et.trans e)]
      exact h1
    · have e : t ≠ 0 := fun z => e (decide_eq_true (by rw [z]))
      refine ⟨.ref r, rfl, .int t, rfl, _, _, rfl, rfl, _, rfl, ite2 (fun e2 => ?_) (fun e2 => ?_)⟩
      · have e2 : 0 < t := of_decide_eq_true e2
        refine ⟨.ref u, rfl, r, u, _, _, rfl, .inl ⟨SqT.of h1, SqL.of hu, fun D eD => ?_⟩⟩
        have lmin : row.length = min (row.map V.int).length (up.map V.int).length := by
          rw [List.length_map, List.length_map, lu, Nat.min_self]
        refine lc_it (walk_zipG (xs := row.map V.int) (ys := up.map V.int) lmin) (fun i H' => AccI H H' D (fun j => row.getD j 0 + t * up.getD j 0) i) AccI.zero (fun i H' _ hA => ⟨SqT.of (hA.stay eD h1), SqL.of (hA.stay eD hu)⟩) ?_ ?_
        · rintro i v H3 H3' hi hA ⟨U, x', y', rfl, eU, rfl, ex', ey'⟩
          obtain ⟨x, ex, rfl⟩ := int_at ex'
          obtain ⟨y, ey, rfl⟩ := int_at ey'
          refine ⟨U, _, rfl, SqT.of upd_same, rfl, _, _, rfl, _, _, rfl, rfl, rfl, .int x, rfl, .int t, rfl, .int y, rfl, _, _, rfl, rfl, .inl ⟨by omega, by omega⟩, _, _, rfl, rfl, ?_⟩
          exact hA.next (same_upd eU) (by rw [getD_at ex, getD_at ey]) (by omega)
        · rintro H3 hA
          refine ⟨D, _, rfl, .inl ⟨SqL.of hA.1, fun p hp => ?_⟩⟩
          refine q p _ (fun b o e => same_upd hp _ _ (hA.stay eD e)) ?_
          rw [upd_same]
          unfold newRow
          rw [et, if_neg e, if_pos e2]
      · have e2 : ¬ 0 < t := fun z => e2 (decide_eq_true z)
        refine ⟨.ref d, rfl, r, d, _, _, rfl, .inl ⟨SqT.of h1, SqL.of hd, fun D eD => ?_⟩⟩
        have lmin : row.length = min (row.map V.int).length (down.map V.int).length := by
          rw [List.length_map, List.length_map, ld, Nat.min_self]
        refine lc_it (walk_zipG (xs := row.map V.int) (ys := down.map V.int) lmin) (fun i H' => AccI H H' D (fun j => row.getD j 0 + t * down.getD j 0) i) AccI.zero (fun i H' _ hA => ⟨SqT.of (hA.stay eD h1), SqL.of (hA.stay eD hd)⟩) ?_ ?_
        · rintro i v H3 H3' hi hA ⟨U, x', y', rfl, eU, rfl, ex', ey'⟩
          obtain ⟨x, ex, rfl⟩ := int_at ex'
          obtain ⟨y, ey, rfl⟩ := int_at ey'
          refine ⟨U, _, rfl, SqT.of upd_same, rfl, _, _, rfl, _, _, rfl, rfl, rfl, .int x, rfl, .int t, rfl, .int y, rfl, _, _, rfl, rfl, .inl ⟨by omega, by omega⟩, _, _, rfl, rfl, ?_⟩
          exact hA.next (same_upd eU) (by rw [getD_at ex, getD_at ey]) (by omega)
        · rintro H3 hA
          refine ⟨D, _, rfl, .inl ⟨SqL.of hA.1, fun p hp => ?_⟩⟩
          refine q p _ (fun b o e => same_upd hp _ _ (hA.stay eD e)) ?_
          rw [upd_same]
          unfold newRow
          rw [et, if_neg e, if_neg e2]
end
end Bw
set_option Elab.async false
set_option linter.all false
set_option maxRecDepth 100000
set_option maxHeartbeats 4000000
namespace Bw
open PySem PySem.Spec PyProof.Rows L2
theorem Same.updN {H H' : Hp} {D : Addr} {o : HO} (s : Same H H') (h : H D = none) : Same H (upd H' D o) := fun c u e => by
  rw [upd_ne (ne_of_none e h)]
  exact s _ _ e
def bigT (t : Int) : Bool := decide ((if t < 0 then -t else t) > 50)
def bigR (rows : List (List Int)) : Bool := rows.any fun r => r.any bigT
theorem bigT_iff (t : Int) : bigT t = false ↔ -50 ≤ t ∧ t ≤ 50 := by
  unfold bigT
  rw [decide_eq_false_iff_not]
  constructor
  · intro h
    split at h <;> omega
  · rintro ⟨h1, h2⟩
    split <;> omega
theorem bigR_iff (rows : List (List Int)) : bigR rows = false ↔ ∀ r ∈ rows, ∀ t ∈ r, -50 ≤ t ∧ t ≤ 50 := by
  unfold bigR
  rw [List.any_eq_false]
  constructor
  · intro h r hr t ht
    have h1 := h r hr
    have h2 : r.any bigT = false := by
      cases e : r.any bigT with
      | false => rfl
      | true => exact absurd e h1
    have h3 := List.any_eq_false.mp h2 t ht
    refine (bigT_iff t).mp ?_
    cases e : bigT t with
    | false => rfl
    | true => exact absurd e h3
  · intro h r hr z
    obtain ⟨t, ht, e⟩ := List.any_eq_true.mp z
    rw [(bigT_iff t).mpr (h r hr t ht)] at e
    cases e
theorem bigR_take {rows : List (List Int)} {i : Nat} {r : List Int} (h : rows[i]? = some r) : bigR (rows.take (i + 1)) = (bigR (rows.take i) || r.any bigT) := by
  unfold bigR
  rw [List.take_succ, h, List.any_append]
  show (_ || (r.any bigT || false)) = _
  rw [Bool.or_false]
theorem any_take {r : List Int} {j : Nat} {t : Int} (h : r[j]? = some t) : (r.take (j + 1)).any bigT = ((r.take j).any bigT || bigT t) := by
  rw [List.take_succ, h, List.any_append]
  show (_ || (bigT t || false)) = _
  rw [Bool.or_false]
section
variable {P : Program} {w : World} {K : PySem.W.Frag} {mg : Str → Option Value} {base : Heap}
abbrev s_turned_table : Stmt := topS 20
abbrev n_turned_table : List Str := ["table", "place", "own", "up", "down", "rows", "tie", "row"]
theorem sc_turned_table : FnScope n_turned_table ["table", "place"] (defScope s_turned_table) := ⟨rfl, rfl, rfl, by decide +kernel, rfl, by decide +kernel, by decide +kernel⟩
def spTurn (C : Addr) : Sp := fun vs H Q E => ∃ (a : Addr) (rows : List (List Int)) (n k : Nat), vs = [.ref a, .int k] ∧ TabAt H a rows ∧ WdOk rows n ∧ k < n ∧
  (fits rows n k → ∀ (b : Addr) (H' : Hp), Same H H' → TabAt H' b (turnT rows n k) → Q (.ref b) H') ∧
  (¬ fits rows n k → ∀ (d : Addr) (H' : Hp), Same H H' → H' d = some (.xd greatFs) → E (.ref C) (some d) H')
def upE (B : Nat → Nat → Int) (k j : Nat) : Int := if j = k then -2 else if B k j > 0 then B k j else 0
def dnE (B : Nat → Nat → Int) (k j : Nat) : Int := if j = k then -2 else if -(B k j) > 0 then -(B k j) else 0
theorem new_turn {rows : List (List Int)} {n k i : Nat} (w : ∀ r ∈ rows, r.length = n) (hi : i < rows.length) (hk : k < n) (hik : i ≠ k) :
    newRow (rows.getD i []) (matRow n (upE (ent rows) k)) (matRow n (dnE (ent rows) k)) k = matRow n (turnE (ent rows) k i) := by
  have lr := row_len w hi
  unfold newRow
  have ek : (rows.getD i []).getD k 0 = ent rows i k := rfl
  rw [ek, lr]
  by_cases e : ent rows i k = 0
  · rw [if_pos e]
    apply List.ext_getElem?
    intro j
    by_cases hj : j < n
    · rw [matRow_get hj, List.getElem?_eq_getElem (by omega)]
      congr 1
      have e1 : (rows.getD i [])[j]'(by omega) = ent rows i j := by
        unfold ent
        rw [List.getD_eq_getElem?_getD (i := j), List.getElem?_eq_getElem (by omega)]
        rfl
      rw [e1]
      unfold turnE
      by_cases hjk : j = k
      · subst hjk
        rw [if_pos (.inr rfl), e]
        rfl
      · have hnk : ¬ (i = k ∨ j = k) := fun z => z.elim hik hjk
        rw [if_neg hnk, e, if_neg (by omega), if_neg (by omega)]
    · rw [List.getElem?_eq_none (by omega), List.getElem?_eq_none (by rw [matRow_len]; omega)]
  · rw [if_neg e]
    unfold matRow
    refine List.map_congr_left fun j hj => ?_
    have hj : j < n := List.mem_range.mp hj
    show ent rows i j + _ * List.getD (if 0 < ent rows i k then matRow n (upE (ent rows) k) else matRow n (dnE (ent rows) k)) j 0 = _
    unfold turnE
    by_cases hp : 0 < ent rows i k
    · rw [if_pos hp, matRow_getD hj]
      unfold upE
      by_cases hjk : j = k
      · subst hjk
        rw [if_pos rfl, if_pos (.inr rfl)]
        omega
      · have hnk : ¬ (i = k ∨ j = k) := fun z => z.elim hik hjk
        rw [if_neg hjk, if_neg hnk]
        by_cases hb : ent rows k j > 0
        · have hb2 : 0 < ent rows i k ∧ 0 < ent rows k j := ⟨hp, hb⟩
          rw [if_pos hb, if_pos hb2]
        · have hb2 : ¬ (0 < ent rows i k ∧ 0 < ent rows k j) := fun z => hb z.2
          have hb3 : ¬ (ent rows i k < 0 ∧ ent rows k j < 0) := fun z => by omega
          rw [if_neg hb, if_neg hb2, if_neg hb3, Int.mul_zero, Int.add_zero]
    · rw [if_neg hp, matRow_getD hj]
      have hn : ent rows i k < 0 := by omega
      unfold dnE
      by_cases hjk : j = k
      · subst hjk
        rw [if_pos rfl, if_pos (.inr rfl)]
        omega
      · have hnk : ¬ (i = k ∨ j = k) := fun z => z.elim hik hjk
        have hb2 : ¬ (0 < ent rows i k ∧ 0 < ent rows k j) := fun z => hp z.1
        rw [if_neg hjk, if_neg hnk, if_neg hb2]
        by_cases hb : ent rows k j < 0
        · have hb3 : ent rows i k < 0 ∧ ent rows k j < 0 := ⟨hn, hb⟩
          have hb4 : -(ent rows k j) > 0 := by omega
          rw [if_pos hb4, if_pos hb3, Int.mul_neg]
          omega
        · have hb3 : ¬ (ent rows i k < 0 ∧ ent rows k j < 0) := fun z => hb z.2
          have hb4 : ¬ (-(ent rows k j) > 0) := by omega
          rw [if_neg hb4, if_neg hb3, Int.mul_zero, Int.add_zero]
theorem own_turn {rows : List (List Int)} {n k : Nat} (w : ∀ r ∈ rows, r.length = n) (hk : k < rows.length) :
    matRow n (fun j => -((rows.getD k []).getD j 0)) = matRow n (turnE (ent rows) k k) := by
  unfold matRow
  refine List.map_congr_left fun j hj => ?_
  unfold turnE
  rw [if_pos (.inl rfl)]
  rfl
theorem big_row {r : List Int} {m l : Int} (hm : m ∈ r) (hmx : ∀ y ∈ r, y ≤ m) (hl : l ∈ r) (hlx : ∀ y ∈ r, l ≤ y) : r.any bigT = (decide (m > 50) || decide (l < -50)) := by
  rw [Bool.eq_iff_iff, List.any_eq_true, Bool.or_eq_true, decide_eq_true_iff, decide_eq_true_iff]
  constructor
  · rintro ⟨x, hx, e⟩
    unfold bigT at e
    have e := of_decide_eq_true e
    have h1 := hmx x hx
    have h2 := hlx x hx
    split at e
    · right; omega
    · left; omega
  · rintro (h | h)
    · refine ⟨m, hm, decide_eq_true ?_⟩
      rw [if_neg (by omega)]
      exact h
    · refine ⟨l, hl, decide_eq_true ?_⟩
      rw [if_pos (by omega)]
      omega
theorem big_max {r : List Int} {m : Int} (hm : m ∈ r) (h : m > 50) : r.any bigT = true := by
  rw [List.any_eq_true]
  refine ⟨m, hm, decide_eq_true ?_⟩
  rw [if_neg (by omega)]
  exact h
theorem set_mat {n j : Nat} {b : Nat → Int} {v : Int} : ((matRow n b).map V.int).set j (.int v) = (matRow n (fun i => if i = j then v else b i)).map V.int := by
  rw [← List.map_set, matRow_set]
theorem ix_nat {n k : Nat} (h : k < n) : ixN n (k : Int) = some k := by
  unfold ixN
  rw [if_pos (by omega), if_pos (by omega), Int.toNat_natCast]
theorem ok_turn {f C fI : Addr} {fd fdI : FuncData} (F : Fun K "turned_table" "turned_table" s_turned_table f fd) (T : Tx mg) (c_turned_row : Cal P w K mg base CX0 1 "turned_row" ["row", "up", "down", "place"] spTRow)
    (TG : GreatC K mg C fI) (FI : FnOk P w K mg base CX0 2 fI fdI ["self"] (spGreatInit K)) (bI : Binds K fdI ["self"] []) : FnOk P w K mg base (L2.CX P w) 4 f fd ["table", "place"] (spTurn C) := by
  refine F.okX sc_turned_table (fun vs H Q E h => ?_) (fun cdv A outer s H vs Q E hr h => ?_)
  · obtain ⟨a, rows, n, k, rfl, _⟩ := h
    rfl
  · obtain ⟨a, rows, n, k, rfl, hT, O, hk, q, qE⟩ := h
    have hr1 := hr.mono (show 1 ≤ 3 by decide)
    refine ⟨_, (pss_cons (ps_set (i := 2) sc_turned_table.nd rfl (.inl rfl) (pe_ix (i_tup (K := K)) (pv 0) (pv 1) (fun _ _ => rfl)))
  (pss_cons (ps_set (i := 3) sc_turned_table.nd rfl (.inr rfl) (pe_lc (own := [("tie", 6)]) (by rfl) sc_turned_table.nd (p_tup (K := K) (pv 2)) (blkOk_by (own := [("tie", 6)]) (N := n_turned_table) (sc := defScope s_turned_table) (by decide +kernel)) (fun _ _ _ _ _ => (pg_name (i := 6) sc_turned_table.nd rfl (.inl rfl))) (fun _ _ _ _ _ => pts_nil) (fun _ _ _ _ _ => (pe_callB (call_max2 rfl) (by rfl) T.max (by decide +kernel) (pa_cons pe_int (pa_cons (pv 6) pa_nil))))))
  (pss_cons (ps_set (i := 4) sc_turned_table.nd rfl (.inr rfl) (pe_lc (own := [("tie", 6)]) (by rfl) sc_turned_table.nd (p_tup (K := K) (pv 2)) (blkOk_by (own := [("tie", 6)]) (N := n_turned_table) (sc := defScope s_turned_table) (by decide +kernel)) (fun _ _ _ _ _ => (pg_name (i := 6) sc_turned_table.nd rfl (.inl rfl))) (fun _ _ _ _ _ => pts_nil) (fun _ _ _ _ _ => (pe_callB (call_max2 rfl) (by rfl) T.max (by decide +kernel) (pa_cons pe_int (pa_cons (pe_un un_neg (pv 6)) pa_nil))))))
  (pss_cons (ps_asg (pe_un un_neg pe_int) (pg_sub (pv 3) (pv 1) set_list))
  (pss_cons (ps_asg (pe_un un_neg pe_int) (pg_sub (pv 4) (pv 1) set_list))
  (pss_cons (ps_setLc (i := 5) (own := [("row", 7)]) (by rfl) sc_turned_table.nd rfl rfl (sw_true rfl rfl rfl (by decide +kernel)) (p_tup (K := K) (pv 0)) (blkOk_by (own := [("row", 7)]) (N := n_turned_table) (sc := defScope s_turned_table) (by decide +kernel)) (fun _ _ _ _ _ => (pg_name (i := 7) sc_turned_table.nd rfl (.inl rfl))) (fun _ _ _ _ _ => pts_nil) (fun _ _ _ _ _ => (pe_cal c_turned_row hr1 (by rfl) (pa_cons (pv 7) (pa_cons (pv 3) (pa_cons (pv 4) (pa_cons (pv 1) pa_nil)))))))
  (pss_cons (ps_asg (pe_callTy (c_tup (K := K)) (by rfl) T.tuple (by decide +kernel) (pa_cons (pe_lc (own := [("tie", 6)]) (by rfl) sc_turned_table.nd (p_tup (K := K) (pv 2)) (blkOk_by (own := [("tie", 6)]) (N := n_turned_table) (sc := defScope s_turned_table) (by decide +kernel)) (fun _ _ _ _ _ => (pg_name (i := 6) sc_turned_table.nd rfl (.inl rfl))) (fun _ _ _ _ _ => pts_nil) (fun _ _ _ _ _ => (pe_un un_neg (pv 6)))) pa_nil)) (pg_sub (pv 5) (pv 1) set_list))
  (pss_cons (ps_if (pt_val (pe_callB (c_any (K := K) rfl) (by rfl) T.any (by decide +kernel) (pa_cons (pe_lc (own := [("row", 7)]) (by rfl) sc_turned_table.nd (p_list (K := K) (pv 5)) (blkOk_by (own := [("row", 7)]) (N := n_turned_table) (sc := defScope s_turned_table) (by decide +kernel)) (fun _ _ _ _ _ => (pg_name (i := 7) sc_turned_table.nd rfl (.inl rfl))) (fun _ _ _ _ _ => pts_nil) (fun _ _ _ _ _ => (pe_or (pe_cmpR op_gt (pe_callB (c_maxT (K := K) rfl) (by rfl) T.max (by decide +kernel) (pa_cons (pv 7) pa_nil)) (pe_gint (by rfl) T.MOST_TIE) (nomark _)) (pe_one (pe_cmpR op_lt (pe_callB (c_minT (K := K) rfl) (by rfl) T.min (by decide +kernel) (pa_cons (pv 7) pa_nil)) (pe_un un_neg (pe_gint (by rfl) T.MOST_TIE)) (nomark _)))))) pa_nil)))
    (pss_one (ps_raise rfl (takes_of rfl rfl rfl rfl) (pmk_oex0 TG.oex TG.iC TG.tI FI hr bI pass0 (by rfl) TG.g)))
    pss_nil)
  (pss_one (ps_ret (pe_callTy (c_tup (K := K)) (by rfl) T.tuple (by decide +kernel) (pa_cons (pv 5) pa_nil)))))))))))), ?_⟩
    have h1 := O.n1
    have h4 := O.n4
    have hl := O.len
    have hl8 := O.len8
    have hkr : k < rows.length := by omega
    obtain ⟨as, ha, hR⟩ := hT.refs
    have las : as.length = rows.length := hR.1
    obtain ⟨as', c, g1, g2, g3⟩ := hT.row hkr
    have eas : as'.map V.ref = as.map V.ref := HO.tup.inj (Option.some.inj (g1.symm.trans ha))
    rw [eas] at g2
    have lk := row_len O.wide hkr
    refine ⟨.ref a, rfl, .int k, rfl, a, _, _, .ref c, rfl, rfl, SqT.of ha, atI_nat g2, ?_⟩
    -- up
    refine ⟨.ref c, rfl, c, rfl, ⟨_, SqT.of g3⟩, fun U eU => ?_⟩
    refine lc_tup (K := K) (a := c) (xs := (rows.getD k []).map V.int) (fun j H' => AccI H H' U (fun j => if (rows.getD k []).getD j 0 > 0 then (rows.getD k []).getD j 0 else 0) j) AccI.zero (fun j H' _ hA => SqT.of (hA.stay eU g3)) ?_ ?_
    · rintro j v H1 hv hA
      obtain ⟨x, ex, rfl⟩ := int_at hv
      have hj := (List.getElem?_eq_some_iff.mp ex).1
      refine ⟨rfl, .int x, rfl, _, _, rfl, ?_⟩
      exact hA.next (.refl _) (by rw [getD_at ex]) (by omega)
    · rintro H1 hA
      rw [List.length_map, lk] at hA
      have s1 : Same H H1 := fun b o e => hA.stay eU e
      have e1 : H1 U = some (.lst ((matRow n fun j => if (rows.getD k []).getD j 0 > 0 then (rows.getD k []).getD j 0 else 0).map V.int)) := hA.1
      clear hA
      -- down
      refine ⟨.ref c, rfl, c, rfl, ⟨_, SqT.of (s1 _ _ g3)⟩, fun D eD => ?_⟩
      refine lc_tup (K := K) (a := c) (xs := (rows.getD k []).map V.int) (fun j H' => AccI H1 H' D (fun j => if -((rows.getD k []).getD j 0) > 0 then -((rows.getD k []).getD j 0) else 0) j) AccI.zero (fun j H' _ hA => SqT.of (hA.stay eD (s1 _ _ g3))) ?_ ?_
      · rintro j v H2 hv hA
        obtain ⟨x, ex, rfl⟩ := int_at hv
        have hj := (List.getElem?_eq_some_iff.mp ex).1
        refine ⟨rfl, .int x, rfl, _, rfl, _, _, rfl, ?_⟩
        exact hA.next (.refl _) (by rw [getD_at ex]) (by omega)
      · rintro H2 hA
        rw [List.length_map, lk] at hA
        have s2 : Same H1 H2 := fun b o e => hA.stay eD e
        have e2 : H2 D = some (.lst ((matRow n fun j => if -((rows.getD k []).getD j 0) > 0 then -((rows.getD k []).getD j 0) else 0).map V.int)) := hA.1
        clear hA
        have nUD : U ≠ D := ne_of_none e1 eD
        -- up[place] = -2, down[place] = -2
        have ixk : ∀ b : Nat → Int, ixN ((matRow n b).map V.int).length (k : Int) = some k := fun b => by
          rw [List.length_map, matRow_len]
          exact ix_nat hk
        refine ⟨2, rfl, .ref U, rfl, .int k, rfl, U, _, k, k, rfl, rfl, s2 _ _ e1, ixk _, ?_⟩
        refine ⟨2, rfl, .ref D, rfl, .int k, rfl, D, _, k, k, rfl, rfl, (upd_ne (fun z => nUD z.symm)).trans e2, ixk _, ?_⟩
        rw [set_mat, set_mat]
        have eU3 : (upd (upd H2 U (.lst ((matRow n (upE (ent rows) k)).map V.int))) D (.lst ((matRow n (dnE (ent rows) k)).map V.int))) U = some (.lst ((matRow n (upE (ent rows) k)).map V.int)) := by
          rw [upd_ne nUD, upd_same]
        have eD3 : (upd (upd H2 U (.lst ((matRow n (upE (ent rows) k)).map V.int))) D (.lst ((matRow n (dnE (ent rows) k)).map V.int))) D = some (.lst ((matRow n (dnE (ent rows) k)).map V.int)) := upd_same
        have s3 : Same H (upd (upd H2 U (.lst ((matRow n (upE (ent rows) k)).map V.int))) D (.lst ((matRow n (dnE (ent rows) k)).map V.int))) := fun b o e => by
          rw [upd_ne (ne_of_none (s1 _ _ e) eD), upd_ne (ne_of_none e eU)]
          exact s2 _ _ (s1 _ _ e)
        have fu : (matRow n fun i => if i = k then (-2 : Int) else if (rows.getD k []).getD i 0 > 0 then (rows.getD k []).getD i 0 else 0) = matRow n (upE (ent rows) k) := rfl
        have fd : (matRow n fun i => if i = k then (-2 : Int) else if -((rows.getD k []).getD i 0) > 0 then -((rows.getD k []).getD i 0) else 0) = matRow n (dnE (ent rows) k) := rfl
        generalize ee : (upd (upd H2 U (.lst ((matRow n (upE (ent rows) k)).map V.int))) D (.lst ((matRow n (dnE (ent rows) k)).map V.int))) = H3 at eU3 eD3 s3
        have ee2 : (upd (upd H2 U (.lst ((matRow n fun i => if i = k then (-2 : Int) else if (rows.getD k []).getD i 0 > 0 then (rows.getD k []).getD i 0 else 0).map V.int))) D (.lst ((matRow n fun i => if i = k then (-2 : Int) else if -((rows.getD k []).getD i 0) > 0 then -((rows.getD k []).getD i 0) else 0).map V.int))) = H3 := ee
        rw [ee2]
        clear ee ee2 fu fd
        have ha3 := s3 _ _ ha
        have g33 := s3 _ _ g3
        have hR3 := hR.same s3
        -- rows
        refine ⟨.ref a, rfl, a, rfl, ⟨_, SqT.of ha3⟩, fun R eR => ?_⟩
        refine lc_tup (K := K) (a := a) (xs := as.map V.ref) (fun i H' => Acc H3 H' R (fun i => newRow (rows.getD i []) (matRow n (upE (ent rows) k)) (matRow n (dnE (ent rows) k)) k) i) Acc.zero (fun i H' _ hA => SqT.of (hA.stay eR ha3)) ?_ ?_
        · rintro i v H4 hv hA
          rw [List.getElem?_map] at hv
          obtain ⟨t, et, rfl⟩ := Option.map_eq_some_iff.mp hv
          have hi : i < rows.length := by
            have := (List.getElem?_eq_some_iff.mp et).1
            omega
          obtain ⟨b, eb, hb⟩ := hR3.2 i _ (List.getElem?_eq_getElem hi)
          rw [et] at eb
          cases eb
          have er : rows[i] = rows.getD i [] := by
            rw [List.getD_eq_getElem?_getD, List.getElem?_eq_getElem hi]
            rfl
          have hmem := O.tie _ (List.getElem_mem hi)
          rw [er] at hb hmem
          have lr := row_len O.wide hi
          refine ⟨rfl, .ref t, rfl, .ref U, rfl, .ref D, rfl, .int k, rfl, t, U, D, _, _, _, k, rfl, hA.stay eR hb, hA.stay eR eU3, hA.stay eR eD3, by omega, by omega, by rw [matRow_len]; omega, by rw [matRow_len]; omega, hmem, fun p H5 s5 hp => ?_⟩
          exact hA.next s5 hp (by omega)
        · rintro H4 hA
          rw [List.length_map, las] at hA
          obtain ⟨ts, eR4, hR4⟩ := hA.get
          have s4 : Same H3 H4 := fun b o e => hA.stay eR e
          have s04 := s3.trans s4
          clear hA
          -- own row
          refine ⟨.ref c, rfl, c, rfl, ⟨_, SqT.of (s04 _ _ g3)⟩, fun L eL => ?_⟩
          refine lc_tup (K := K) (a := c) (xs := (rows.getD k []).map V.int) (fun j H' => AccI H4 H' L (fun j => -((rows.getD k []).getD j 0)) j) AccI.zero (fun j H' _ hA => SqT.of (hA.stay eL (s04 _ _ g3))) ?_ ?_
          · rintro j v H5 hv hA
            obtain ⟨x, ex, rfl⟩ := int_at hv
            have hj := (List.getElem?_eq_some_iff.mp ex).1
            refine ⟨rfl, .int x, rfl, _, rfl, ?_⟩
            exact hA.next (.refl _) (by rw [getD_at ex]) (by omega)
          · rintro H5 hA
            rw [List.length_map, lk] at hA
            have s5 : Same H4 H5 := fun b o e => hA.stay eL e
            refine ⟨L, _, rfl, .inl ⟨SqL.of hA.1, fun p hp => ?_⟩⟩
            rw [own_turn O.wide hkr]
            have lts : ts.length = rows.length := by
              rw [hR4.1, List.length_map, List.length_range]
            have sp := s5.trans (same_upd (o := .tup ((matRow n (turnE (ent rows) k k)).map V.int)) hp)
            refine ⟨.ref R, rfl, .int k, rfl, R, _, k, k, rfl, rfl, sp _ _ eR4, ?_, ?_⟩
            · rw [List.length_map, lts]
              exact ix_nat hkr
            have eset : (ts.map V.ref).set k (.ref p) = (ts.set k p).map V.ref := by
              rw [List.map_set]
            rw [eset]
            have hR6 : RefsAt (upd (upd H5 p (.tup ((matRow n (turnE (ent rows) k k)).map V.int))) R (.lst ((ts.set k p).map V.ref))) (ts.set k p) (turnT rows n k) := by
              refine ⟨by rw [List.length_set, lts, turnT_len], fun i r e => ?_⟩
              have hi : i < rows.length := by
                have := (List.getElem?_eq_some_iff.mp e).1
                rw [turnT_len] at this
                exact this
              have er : r = matRow n (turnE (ent rows) k i) := by
                unfold turnT at e
                rw [List.getElem?_map, List.getElem?_range hi] at e
                exact (Option.some.inj e).symm
              subst er
              by_cases hik : i = k
              · subst hik
                refine ⟨p, by rw [List.getElem?_set_self (by omega)], ?_⟩
                rw [upd_ne (ne_of_none (s5 _ _ eR4) hp).symm, upd_same]
              · obtain ⟨b, eb, hb⟩ := hR4.2 i _ (by rw [List.getElem?_map, List.getElem?_range hi]; rfl)
                refine ⟨b, by rw [List.getElem?_set_ne (fun z => hik z.symm)]; exact eb, ?_⟩
                have nbR : b ≠ R := fun z => by
                  rw [z, eR4] at hb
                  cases hb
                rw [upd_ne nbR, sp _ _ hb]
                show some (HO.tup ((newRow (rows.getD i []) (matRow n (upE (ent rows) k)) (matRow n (dnE (ent rows) k)) k).map V.int)) = _
                rw [new_turn O.wide hi hk hik]
            have eR6 : (upd (upd H5 p (.tup ((matRow n (turnE (ent rows) k k)).map V.int))) R (.lst ((ts.set k p).map V.ref))) R = some (.lst ((ts.set k p).map V.ref)) := upd_same
            have s6 : Same H (upd (upd H5 p (.tup ((matRow n (turnE (ent rows) k k)).map V.int))) R (.lst ((ts.set k p).map V.ref))) := fun b o e => by
              rw [upd_ne (ne_of_none (s3 _ _ e) eR)]
              exact sp _ _ (s04 _ _ e)
            have lts2 : (ts.set k p).length = rows.length := by
              rw [List.length_set, lts]
            generalize (upd (upd H5 p (.tup ((matRow n (turnE (ent rows) k k)).map V.int))) R (.lst ((ts.set k p).map V.ref))) = H6 at hR6 eR6 s6
            clear sp hp hA s5 eL s4 s04 eR4 hR4 eset
            generalize ts.set k p = us at hR6 eR6 lts2
            -- any
            refine ⟨.ref R, rfl, R, rfl, ⟨_, SqL.of eR6⟩, fun L eL => ?_⟩
            refine lc_list (K := K) (a := R) (xs := us.map V.ref) (fun i H' => ∃ bs : List Bool, H' L = some (.lst (bs.map V.bl)) ∧ bs.any id = bigR ((turnT rows n k).take i) ∧ bs.length = i ∧ Same H6 H') ⟨[], upd_same, rfl, rfl, same_upd eL⟩ (fun i H' _ ⟨_, _, _, _, s⟩ => SqL.of (s _ _ eR6)) ?_ ?_
            · rintro i v H7 ev ⟨bs, e7, hb7, l7, s7⟩
              rw [List.getElem?_map] at ev
              obtain ⟨t, et, rfl⟩ := Option.map_eq_some_iff.mp ev
              have hi : i < rows.length := by
                have := (List.getElem?_eq_some_iff.mp et).1
                omega
              have er : (turnT rows n k)[i]? = some (matRow n (turnE (ent rows) k i)) := by
                unfold turnT
                rw [List.getElem?_map, List.getElem?_range hi]
                rfl
              obtain ⟨b, eb, hb⟩ := hR6.2 i _ er
              rw [et] at eb
              cases eb
              have lr : (matRow n (turnE (ent rows) k i)).length = n := matRow_len _ _
              generalize matRow n (turnE (ent rows) k i) = r at er hb lr
              have hb := s7 _ _ hb
              have fin : ∀ z : Bool, z = r.any bigT → ∃ acc, H7 L = some (.lst acc) ∧ acc.length < sizeLine ∧ ∃ bs : List Bool, (upd H7 L (.lst (acc ++ [.bl z]))) L = some (.lst (bs.map V.bl)) ∧ bs.any id = bigR ((turnT rows n k).take (i + 1)) ∧ bs.length = i + 1 ∧ Same H6 (upd H7 L (.lst (acc ++ [.bl z]))) := fun z ez => by
                refine ⟨_, e7, by rw [List.length_map]; exact small1000 (by omega), bs ++ [z], ?_, ?_, by rw [List.length_append, l7]; rfl, Same.updN s7 eL⟩
                · rw [upd_same, List.map_append]
                  rfl
                · rw [List.any_append, hb7, bigR_take er, ez]
                  show (_ || (_ || false)) = _
                  rw [Bool.or_false]
                  rfl
              refine ⟨rfl, .ref t, rfl, t, r, rfl, SqT.of hb, by omega, fun m hm hmx => ⟨_, _, rfl, rfl, _, rfl, ite2 (fun e => ?_) (fun e => ?_)⟩⟩
              · exact fin true (big_max hm (of_decide_eq_true e)).symm
              · refine ⟨.ref t, rfl, t, r, rfl, SqT.of hb, by omega, fun l hl hlx => ⟨_, rfl, _, _, rfl, rfl, ?_⟩⟩
                refine fin _ ?_
                rw [big_row hm hmx hl hlx]
                have e : decide (m > 50) = false := by
                  cases z : decide (m > 50) with
                  | false => rfl
                  | true => exact absurd z e
                rw [e, Bool.false_or]
            · rintro H7 ⟨bs, e7, hb7, _, s7⟩
              rw [List.length_map, lts2, List.take_of_length_le (by rw [turnT_len]; exact Nat.le_refl _)] at hb7
              refine ⟨L, _, rfl, SqL.of e7, ?_⟩
              rw [hb7]
              have s07 := s6.trans s7
              refine ⟨_, rfl, ite2 (fun hz => ?_) (fun hz => ?_)⟩
              · have hf : ¬ fits rows n k := fun z => by
                  rw [(bigR_iff _).mpr z] at hz
                  cases hz
                refine ⟨by show 0 ≤ 1000; decide, fun x ex => ?_⟩
                refine ⟨x, C, rfl, TG.oex, TG.nw, upd_same, fun dx H8 ed nd hx hd hk => ?_⟩
                have ed2 : H7 dx = none := by
                  rw [upd_ne nd] at ed
                  exact ed
                refine ⟨rfl, dx, _, hx, hd, ed2, qE hf dx _ (fun c o e => ?_) upd_same⟩
                have e2 := s07 _ _ e
                have n1 : c ≠ x := ne_of_none e2 ex
                have n2 : c ≠ dx := ne_of_none e2 ed2
                rw [upd_ne n2, del_ne n1, hk c n1 n2, upd_ne n1]
                exact e2
              · have hf : fits rows n k := (bigR_iff _).mp (by
                  cases e : bigR (turnT rows n k) with
                  | false => rfl
                  | true => exact absurd e hz)
                refine ⟨.ref R, rfl, R, _, rfl, .inl ⟨SqL.of (s7 _ _ eR6), fun p hp => ?_⟩⟩
                have sp := same_upd (o := .tup (us.map V.ref)) hp
                exact q hf p _ (s07.trans sp) (((hR6.same s7).same sp).tab upd_same)
end
end Bw
set_option Elab.async false
set_option linter.all false
set_option maxRecDepth 100000
set_option maxHeartbeats 4000000
namespace Bw
open PySem PySem.Spec PyProof.Rows L2
def fitB (rows : List (List Int)) (n k : Nat) : Bool := !bigR (turnT rows n k)
theorem fitB_iff {rows : List (List Int)} {n k : Nat} : fitB rows n k = true ↔ fits rows n k := by
  unfold fitB
  rw [Bool.not_eq_true', bigR_iff]
  exact Iff.rfl
def walkR (n : Nat) : List (List Int) → List Int → Option (List (List Int))
  | rows, [] => some rows
  | rows, z :: zs => if 0 ≤ z ∧ z < n ∧ fitB rows n z.toNat = true then walkR n (turnT rows n z.toNat) zs else none
theorem walkR_cons (n : Nat) (rows : List (List Int)) (z : Int) (zs : List Int) : walkR n rows (z :: zs) = if 0 ≤ z ∧ z < n ∧ fitB rows n z.toNat = true then walkR n (turnT rows n z.toNat) zs else none := rfl
theorem WdOk.turn {rows : List (List Int)} {n k : Nat} (O : WdOk rows n) (h : fits rows n k) : WdOk (turnT rows n k) n := ⟨O.n1, O.n4, by rw [turnT_len]; exact O.len, by rw [turnT_len]; exact O.len8, turnT_wide, h⟩
def holdsB (rows : List (List Int)) (n : Nat) (zs : List Int) (x y : Int) : Bool := match walkR n (rows.take n) zs with
  | none => false
  | some r => decide (0 ≤ x ∧ x < n) && (decide (0 ≤ y ∧ y < n) && decide (ent r x.toNat y.toNat * ent r y.toNat x.toNat ≤ -4))
theorem walkR_ok {n : Nat} : ∀ {zs : List Int} {rows r : List (List Int)}, WdOk rows n → rows.length = n → walkR n rows zs = some r → WdOk r n ∧ r.length = n
  | [], rows, r, O, l, e => by
    cases (Option.some.inj e)
    exact ⟨O, l⟩
  | z :: zs, rows, r, O, l, e => by
    unfold walkR at e
    split at e
    · next h => exact walkR_ok (O.turn (fitB_iff.mp h.2.2)) (by rw [turnT_len]; exact l) e
    · cases e
section
variable {P : Program} {w : World} {K : PySem.W.Frag} {mg : Str → Option Value} {base : Heap}
abbrev s_is_bud : Stmt := topS 23
abbrev n_is_bud : List Str := ["rows", "number"]
theorem sc_is_bud : FnScope n_is_bud ["rows", "number"] (defScope s_is_bud) := ⟨rfl, rfl, rfl, by decide +kernel, rfl, by decide +kernel, by decide +kernel⟩
def spIsBud : Sp := fun vs H Q _ => ∃ (a : Addr) (rows : List (List Int)) (z : Int), vs = [.ref a, .int z] ∧ TabAt H a rows ∧ Q (.bl (decide (0 ≤ z ∧ z < rows.length))) H
theorem ok_isbud {f : Addr} {fd : FuncData} (F : Fun K "is_bud" "is_bud" s_is_bud f fd) (T : Tx mg) (c_is_number : Cal P w K mg base CX0 1 "is_number" ["thing"] spIsNum) : FnOk P w K mg base CX0 2 f fd ["rows", "number"] spIsBud := by
  refine F.ok sc_is_bud (fun vs H Q E h => ?_) (fun cdv A outer s H vs Q E hr h => ?_)
  · obtain ⟨a, rows, z, rfl, _⟩ := h
    rfl
  · obtain ⟨a, rows, z, rfl, hT, q⟩ := h
    refine ⟨_, (pss_one (ps_ret (pe_and (pe_cal c_is_number hr (by rfl) (pa_cons (pv 1) pa_nil)) (pe_one (pe_chain op_le op_lt pe_int (pv 1) (pe_callB (c_len (K := K)) (by rfl) T.len PySem.boot_len (pa_cons (pv 0) pa_nil))))))), ?_⟩
    obtain ⟨as, h1, h2, _⟩ := hT
    refine ⟨.int z, rfl, z, rfl, true, rfl, ?_⟩
    refine ⟨.int z, rfl, _, _, rfl, rfl, _, rfl, ite2 (fun e => ?_) (fun e => ?_)⟩
    · have e := of_decide_eq_true e
      refine ⟨.ref a, rfl, a, _, rfl, .inr (SqT.of h1), _, _, rfl, rfl, ?_⟩
      rw [List.length_map, h2]
      have ed : decide (0 ≤ z ∧ z < (rows.length : Int)) = decide (z < (rows.length : Int)) := decide_eq_decide.mpr ⟨fun y => y.2, fun y => ⟨e, y⟩⟩
      rw [ed] at q
      exact q
    · have ed : decide (0 ≤ z ∧ z < (rows.length : Int)) = false := decide_eq_false fun y => e (decide_eq_true y.1)
      rw [ed] at q
      exact q
abbrev s_rows_behind : Stmt := topS 24
abbrev n_rows_behind : List Str := ["rows", "walk", "place"]
theorem sc_rows_behind : FnScope n_rows_behind ["rows", "walk"] (defScope s_rows_behind) := ⟨rfl, rfl, rfl, by decide +kernel, rfl, by decide +kernel, by decide +kernel⟩
def spBehind : Sp := fun vs H Q _ => ∃ (a b : Addr) (rows : List (List Int)) (n : Nat) (zs : List Int), vs = [.ref a, .ref b] ∧ TabAt H a rows ∧ WdOk rows n ∧ rows.length = n ∧ H b = some (.tup (zs.map V.int)) ∧
  (walkR n rows zs = none → ∀ H', Same H H' → Q .non H') ∧ ∀ r, walkR n rows zs = some r → ∀ (c : Addr) (H' : Hp), Same H H' → TabAt H' c r → Q (.ref c) H'
theorem ok_behind {f C fI fT : Addr} {fd fdT : FuncData} (F : Fun K "rows_behind" "rows_behind" s_rows_behind f fd) (T : Tx mg) (TG : GreatC K mg C fI) (c_is_bud : Cal P w K mg base CX0 2 "is_bud" ["rows", "number"] spIsBud)
    (FT : FnOk P w K mg base (L2.CX P w) 4 fT fdT ["table", "place"] (spTurn C)) (gT : mg "turned_table" = some (.ref fT)) (kT : PySem.W.keepIn K (.ref fT) = true) (bT : Binds K fdT ["table", "place"] []) : FnOk P w K mg base CX0 5 f fd ["rows", "walk"] spBehind := by
  refine F.ok sc_rows_behind (fun vs H Q E h => ?_) (fun cdv A outer s H vs Q E hr h => ?_)
  · obtain ⟨a, b, rows, n, zs, rfl, _⟩ := h
    rfl
  · obtain ⟨a, b, rows, n, zs, rfl, hT, O, hl, hb, q0, q1⟩ := h
    have hr2 := hr.mono (show 2 ≤ 4 by decide)
    refine ⟨_, (pss_cons (ps_for PassesOwn.never rfl (p_tup (K := K) (pv 1)) (pg_name (i := 2) sc_rows_behind.nd rfl (.inl rfl))
    (pss_cons (ps_if (pt_not (pt_val (pe_cal c_is_bud hr2 (by rfl) (pa_cons (pv 0) (pa_cons (pv 2) pa_nil)))))
      (pss_one (ps_ret pe_non))
      pss_nil)
    (pss_one (ps_try_only rfl rfl ⟨rfl, by decide, .inl TG.g⟩ takes0
      (fun W pn xe tk _ => pss_one (ps_set (i := 0) sc_rows_behind.nd rfl (.inl rfl) (pe_callS FT hr (by rfl) gT kT bT (fun σ => passAt tk σ) (pa_cons (pv 0) (pa_cons (pv 2) pa_nil)))))
      (fun a oe cls d pn _ _ => pss_one (ps_ret pe_non))))))
  (pss_one (ps_ret (pv 0)))), ?_⟩
    refine ⟨.ref b, rfl, b, rfl, ⟨_, SqT.of hb⟩, ?_⟩
    refine for_tup (K := K) (a := b) (xs := zs.map V.int) (fun i σ H' => ∃ (c : Addr) (y2 : Option V) (r : List (List Int)), σ = [some (.ref c), some (.ref b), y2] ∧ Same H H' ∧ TabAt H' c r ∧ WdOk r n ∧ r.length = n ∧ walkR n rows zs = walkR n r (zs.drop i))
      ⟨a, none, rows, rfl, .refl _, hT, O, hl, rfl⟩ (fun i σ H' _ ⟨_, _, _, _, s, _⟩ => SqT.of (s _ _ hb)) ?_ ?_
    · rintro i v σ H1 hv ⟨c, y2, r, rfl, s1, hT1, O1, l1, ew⟩
      obtain ⟨z, ez, rfl⟩ := int_at hv
      have edr : zs.drop i = z :: zs.drop (i + 1) := by
        have hi := (List.getElem?_eq_some_iff.mp ez).1
        rw [List.drop_eq_getElem_cons hi]
        congr 1
        exact Option.some.inj ((List.getElem?_eq_getElem hi).symm.trans ez)
      rw [edr, walkR_cons] at ew
      refine ⟨.ref c, rfl, .int z, rfl, c, r, z, rfl, hT1, ?_⟩
      rw [l1]
      by_cases hz : 0 ≤ z ∧ z < (n : Int)
      · rw [decide_eq_true hz]
        refine ⟨true, rfl, iteF ?_⟩
        obtain ⟨k, rfl⟩ : ∃ k : Nat, z = (k : Int) := ⟨z.toNat, by omega⟩
        have hk : k < n := by omega
        rw [Int.toNat_natCast] at ew
        refine ⟨.ref c, rfl, .int k, rfl, c, r, n, k, rfl, hT1, O1, hk, fun hf d H2 s2 hT2 => ?_, fun hf d H2 s2 hd => ?_⟩
        · rw [if_pos ⟨hz.1, hz.2, fitB_iff.mpr hf⟩] at ew
          exact ⟨d, _, turnT r n k, rfl, s1.trans s2, hT2, O1.turn hf, by rw [turnT_len]; exact l1, ew⟩
        · rw [if_neg (fun y => hf (fitB_iff.mp y.2.2))] at ew
          exact ⟨true, TG.te, fun _ x hx => q0 ew _ (s1.trans s2), fun z => nomatch z⟩
      · rw [decide_eq_false hz]
        rw [if_neg (fun y => hz ⟨y.1, y.2.1⟩)] at ew
        exact ⟨false, rfl, iteT (q0 ew _ s1)⟩
    · rintro σ H1 ⟨c, y2, r, rfl, s1, hT1, O1, l1, ew⟩
      rw [List.length_map, List.drop_length] at ew
      exact ⟨.ref c, rfl, q1 r ew c H1 s1 hT1⟩
abbrev s_endless_holds : Stmt := topS 25
abbrev n_endless_holds : List Str := ["table", "walk", "one", "other", "rows"]
theorem sc_endless_holds : FnScope n_endless_holds ["table", "walk", "one", "other"] (defScope s_endless_holds) := ⟨rfl, rfl, rfl, by decide +kernel, rfl, by decide +kernel, by decide +kernel⟩
def spHolds : Sp := fun vs H Q _ => ∃ (a b : Addr) (rows : List (List Int)) (n : Nat) (zs : List Int) (x y : Int), vs = [.ref a, .ref b, .int x, .int y] ∧ TabAt H a rows ∧ TabOk rows n ∧ H b = some (.tup (zs.map V.int)) ∧ ∀ H', Same H H' → Q (.bl (holdsB rows n zs x y)) H'
theorem TabOk.sq {rows : List (List Int)} {n : Nat} (O : TabOk rows n) : WdOk (rows.take n) n := by
  have h1 := O.n1
  have h2 := O.len
  have h4 := O.n4
  exact ⟨O.n1, O.n4, by rw [List.length_take]; omega, by rw [List.length_take]; omega, fun r hr => O.wide r (List.mem_of_mem_take hr), fun r hr => O.tie r (List.mem_of_mem_take hr)⟩
theorem ok_holds {f : Addr} {fd : FuncData} (F : Fun K "endless_holds" "endless_holds" s_endless_holds f fd) (T : Tx mg) (c_check_table : Cal P w K mg base CX0 5 "check_table" ["table"] spGood) (c_bud_count : Cal P w K mg base CX0 1 "bud_count" ["table"] spBuds)
    (c_rows_behind : Cal P w K mg base CX0 5 "rows_behind" ["rows", "walk"] spBehind) (c_is_bud : Cal P w K mg base CX0 2 "is_bud" ["rows", "number"] spIsBud) : FnOk P w K mg base CX0 6 f fd ["table", "walk", "one", "other"] spHolds := by
  refine F.ok sc_endless_holds (fun vs H Q E h => ?_) (fun cdv A outer s H vs Q E hr h => ?_)
  · obtain ⟨a, b, rows, n, zs, x, y, rfl, _⟩ := h
    rfl
  · obtain ⟨a, b, rows, n, zs, x, y, rfl, hT, O, hb, q⟩ := h
    have hr1 := hr.mono (show 1 ≤ 5 by decide)
    have hr2 := hr.mono (show 2 ≤ 5 by decide)
    refine ⟨_, (pss_cons (ps_expr (pe_cal c_check_table hr (by rfl) (pa_cons (pv 0) pa_nil)))
  (pss_cons (ps_set (i := 4) sc_endless_holds.nd rfl (.inl rfl) (pe_cal c_rows_behind hr (by rfl) (pa_cons (pe_slice (l_tup (K := K)) (pv 0) po_none (po_some (pe_cal c_bud_count hr1 (by rfl) (pa_cons (pv 0) pa_nil)))) (pa_cons (pv 1) pa_nil))))
  (C8.pss_cut (ps_if (PW.pt (pw_or (pt_cmpR op_isN (pv 4) pe_non (nomark _)) (pw_or (pt_not (pt_val (pe_cal c_is_bud hr2 (by rfl) (pa_cons (pv 4) (pa_cons (pv 2) pa_nil))))) (pw_or1 (pt_not (pt_val (pe_cal c_is_bud hr2 (by rfl) (pa_cons (pv 4) (pa_cons (pv 3) pa_nil)))))))))
    (pss_one (ps_ret pe_bl))
    pss_nil)
  (pss_one (ps_ret (pe_cmpR op_le (pe_op op_mul (pe_ix (i_tup (K := K)) (pe_ix (i_tup (K := K)) (pv 4) (pv 2) (fun _ _ => rfl)) (pv 3) (fun _ _ => rfl)) (pe_ix (i_tup (K := K)) (pe_ix (i_tup (K := K)) (pv 4) (pv 3) (fun _ _ => rfl)) (pv 2) (fun _ _ => rfl))) (pe_gint (by rfl) T.ENDLESS_TIES) (nomark _))))))), ?_⟩
    have h1 := O.n1
    have hl := O.len
    refine ⟨.ref a, rfl, a, rows, n, rfl, hT, O, fun H1 s1 => ?_⟩
    have hT1 := hT.same s1
    obtain ⟨as, ha, hR⟩ := hT1.refs
    refine ⟨.ref a, rfl, .ref a, rfl, a, rows, n, rfl, hT1, by omega, O.wide, ?_⟩
    refine ⟨n, rfl, sl_done ha fun c H2 s2 hc => ?_⟩
    have hTc : TabAt H2 c (rows.take n) := by
      refine ((hR.same s2).take n).tab ?_
      rw [hc, List.map_take]
    have lt : (rows.take n).length = n := by
      rw [List.length_take]
      omega
    have s02 := s1.trans s2
    refine ⟨.ref b, rfl, c, b, rows.take n, n, zs, rfl, hTc, O.sq, lt, s02 _ _ hb, fun ew H3 s3 => ?_, fun r ew d H3 s3 hTd => ?_⟩
    · have ez : holdsB rows n zs x y = false := by
        unfold holdsB
        rw [ew]
      rw [ez] at q
      refine ⟨fun _ _ => False, ?_, fun _ _ z => z.elim⟩
      exact ⟨.non, rfl, rfl, _, rfl, iteT (iteT (q _ (s02.trans s3)))⟩
    · obtain ⟨Or, lr⟩ := walkR_ok O.sq lt ew
      have ez : holdsB rows n zs x y = (decide (0 ≤ x ∧ x < n) && (decide (0 ≤ y ∧ y < n) && decide (ent r x.toNat y.toNat * ent r y.toNat x.toNat ≤ -4))) := by
        unfold holdsB
        rw [ew]
      rw [ez] at q
      have q3 := q _ (s02.trans s3)
      refine ⟨fun σ H' => σ = [some (.ref a), some (.ref b), some (.int x), some (.int y), some (.ref d)] ∧ H' = H3 ∧ (0 ≤ x ∧ x < (n : Int)) ∧ 0 ≤ y ∧ y < (n : Int), ?_, ?_⟩
      · refine ⟨.ref d, rfl, rfl, _, rfl, iteF ?_⟩
        refine ⟨.ref d, rfl, .int x, rfl, d, r, x, rfl, hTd, ?_⟩
        rw [lr]
        by_cases hx : 0 ≤ x ∧ x < (n : Int)
        · rw [decide_eq_true hx]
          refine ⟨true, rfl, iteF ?_⟩
          refine ⟨.ref d, rfl, .int y, rfl, d, r, y, rfl, hTd, ?_⟩
          rw [lr]
          by_cases hy : 0 ≤ y ∧ y < (n : Int)
          · rw [decide_eq_true hy]
            exact ⟨true, rfl, iteF ⟨rfl, rfl, hx, hy⟩⟩
          · rw [decide_eq_false hy]
            rw [decide_eq_false hy, Bool.false_and, Bool.and_false] at q3
            exact ⟨false, rfl, iteT q3⟩
        · rw [decide_eq_false hx]
          rw [decide_eq_false hx, Bool.false_and] at q3
          exact ⟨false, rfl, iteT (iteT q3)⟩
      · rintro σ H' ⟨rfl, rfl, hx, hy⟩
        rw [decide_eq_true hx, decide_eq_true hy, Bool.true_and, Bool.true_and] at q3
        obtain ⟨i, rfl⟩ : ∃ i : Nat, x = (i : Int) := ⟨x.toNat, by omega⟩
        obtain ⟨j, rfl⟩ : ∃ j : Nat, y = (j : Int) := ⟨y.toNat, by omega⟩
        rw [Int.toNat_natCast, Int.toNat_natCast] at q3
        have hi : i < n := by omega
        have hj : j < n := by omega
        obtain ⟨bs, p, f1, f2, f3⟩ := hTd.row (i := i) (by omega)
        obtain ⟨bs', p', g1, g2, g3⟩ := hTd.row (i := j) (by omega)
        have eas : bs'.map V.ref = bs.map V.ref := HO.tup.inj (Option.some.inj (g1.symm.trans f1))
        rw [eas] at g2
        have e1 := ent_get Or.wide (show i < r.length by omega) hj
        have e2 := ent_get Or.wide (show j < r.length by omega) hi
        have b1 := Or.bd (show i < r.length by omega) hj
        refine ⟨.ref d, rfl, .int i, rfl, d, _, _, .ref p, rfl, rfl, SqT.of f1, atI_nat f2, .int j, rfl, p, _, _, .int (ent r i j), rfl, rfl, SqT.of f3, atI_nat e1, ?_⟩
        refine ⟨.ref d, rfl, .int j, rfl, d, _, _, .ref p', rfl, rfl, SqT.of f1, atI_nat g2, .int i, rfl, p', _, _, .int (ent r j i), rfl, rfl, SqT.of g3, atI_nat e2, ?_⟩
        exact ⟨_, _, rfl, rfl, .inl ⟨by omega, by omega⟩, _, _, rfl, rfl, q3⟩
end
end Bw
set_option Elab.async false
set_option linter.all false
set_option maxRecDepth 100000
set_option maxHeartbeats 4000000
namespace Bw
open PySem PySem.Spec PyProof.Rows L2
theorem half_turn (x y : Int) : ((if x < 0 then -x else x) * y + x * (if y < 0 then -y else y)) / 2 = if 0 < x ∧ 0 < y then x * y else if x < 0 ∧ y < 0 then -(x * y) else 0 := by
  by_cases hx : x < 0
  · rw [if_pos hx]
    by_cases hy : y < 0
    · rw [if_pos hy, if_neg (by omega), if_pos ⟨hx, hy⟩, Int.neg_mul, Int.mul_neg]
      omega
    · rw [if_neg hy, if_neg (by omega), if_neg (by omega), Int.neg_mul]
      omega
  · rw [if_neg hx]
    by_cases hy : y < 0
    · rw [if_pos hy, if_neg (by omega), if_neg (by omega), Int.mul_neg]
      omega
    · rw [if_neg hy]
      by_cases h0 : 0 < x ∧ 0 < y
      · rw [if_pos h0]
        omega
      · rw [if_neg h0, if_neg (by omega)]
        have : x * y = 0 := by
          by_cases h1 : x = 0
          · rw [h1, Int.zero_mul]
          · have h2 : y = 0 := by omega
            rw [h2, Int.mul_zero]
        omega
section
variable {P : Program} {w : World} {K : PySem.W.Frag} {mg : Str → Option Value} {base : Heap}
abbrev s_law_turn : Stmt := topS 32
abbrev n_law_turn : List Str := ["_law_ties", "_law_place", "_law_found", "_law_i", "_law_row", "_law_j", "_law_tie", "_law_my_one", "_law_my_other"]
theorem sc_law_turn : FnScope n_law_turn ["_law_ties", "_law_place"] (defScope s_law_turn) := ⟨rfl, rfl, rfl, by decide +kernel, rfl, by decide +kernel, by decide +kernel⟩
def spLTurn : Sp := fun vs H Q _ => ∃ (a : Addr) (rows : List (List Int)) (n k : Nat), vs = [.ref a, .int k] ∧ TabAt H a rows ∧ WdOk rows n ∧ k < n ∧ ∀ (b : Addr) (H' : Hp), Same H H' → TabAt H' b (turnT rows n k) → Q (.ref b) H'
theorem ok_lturn {f : Addr} {fd : FuncData} (F : Fun K "_law_turn" "_law_turn" s_law_turn f fd) (T : Tx mg) : FnOk P w K mg base CX0 1 f fd ["_law_ties", "_law_place"] spLTurn := by
  refine F.ok sc_law_turn (fun vs H Q E h => ?_) (fun cdv A outer s H vs Q E hr h => ?_)
  · obtain ⟨a, rows, n, k, rfl, _⟩ := h
    rfl
  · obtain ⟨a, rows, n, k, rfl, hT, O, hk, q⟩ := h
    refine ⟨_, (pss_cons (ps_set (i := 2) sc_law_turn.nd rfl (.inl rfl) (pe_lst pa_nil))
  (pss_cons (ps_for PassesOwn.never rfl (pi_range1 (by rfl) T.range (pa_cons (pe_callB (c_len (K := K)) (by rfl) T.len PySem.boot_len (pa_cons (pv 0) pa_nil)) pa_nil)) (pg_name (i := 3) sc_law_turn.nd rfl (.inl rfl))
    (pss_cons (ps_set (i := 4) sc_law_turn.nd rfl (.inl rfl) (pe_lst pa_nil))
    (pss_cons (ps_for PassesOwn.never rfl (pi_range1 (by rfl) T.range (pa_cons (pe_callB (c_len (K := K)) (by rfl) T.len PySem.boot_len (pa_cons (pe_ix (i_tup (K := K)) (pv 0) pe_int (fun _ _ => rfl)) pa_nil)) pa_nil)) (pg_name (i := 5) sc_law_turn.nd rfl (.inl rfl))
      (pss_cons (ps_set (i := 6) sc_law_turn.nd rfl (.inl rfl) (pe_ix (i_tup (K := K)) (pe_ix (i_tup (K := K)) (pv 0) (pv 3) (fun _ _ => rfl)) (pv 5) (fun _ _ => rfl)))
      (C8.pss_cut (ps_if (PW.pt (pw_or (pt_cmpR op_eq (pv 3) (pv 1) (nomark _)) (pw_or1 (pt_cmpR op_eq (pv 5) (pv 1) (nomark _)))))
        (pss_one (ps_set (i := 6) sc_law_turn.nd rfl (.inl rfl) (pe_op op_sub pe_int (pv 6))))
        (pss_cons (ps_par (i := 7) (j := 8) (by rfl) sc_law_turn.nd rfl rfl (by decide) rfl rfl (pa_cons (pe_ix (i_tup (K := K)) (pe_ix (i_tup (K := K)) (pv 0) (pv 3) (fun _ _ => rfl)) (pv 1) (fun _ _ => rfl)) (pa_cons (pe_ix (i_tup (K := K)) (pe_ix (i_tup (K := K)) (pv 0) (pv 1) (fun _ _ => rfl)) (pv 5) (fun _ _ => rfl)) pa_nil)) (by rfl))
        (pss_one (ps_set (i := 6) sc_law_turn.nd rfl (.inl rfl) (pe_op op_add (pv 6) (pe_op op_fdiv (pe_op op_add (pe_op op_mul (pe_callB call_abs (by rfl) T.abs (by decide +kernel) (pa_cons (pv 7) pa_nil)) (pv 8)) (pe_op op_mul (pv 7) (pe_callB call_abs (by rfl) T.abs (by decide +kernel) (pa_cons (pv 8) pa_nil)))) pe_int))))))
      (pss_one (ps_expr (pe_bm PySem.F.plainAttrs_list PySem.F.slot_list_append PySem.F.type_list_append mt_append (pv 4) (pa_cons (pv 6) pa_nil)))))))
    (pss_one (ps_expr (pe_bm PySem.F.plainAttrs_list PySem.F.slot_list_append PySem.F.type_list_append mt_append (pv 2) (pa_cons (pe_callTy (c_tup (K := K)) (by rfl) T.tuple (by decide +kernel) (pa_cons (pv 4) pa_nil)) pa_nil)))))))
  (pss_one (ps_ret (pe_callTy (c_tup (K := K)) (by rfl) T.tuple (by decide +kernel) (pa_cons (pv 2) pa_nil)))))), ?_⟩
    have h1 := O.n1
    have h4 := O.n4
    have hl := O.len
    have hl8 := O.len8
    have hkr : k < rows.length := by omega
    obtain ⟨as, ha, hR⟩ := hT.refs
    have las : as.length = rows.length := hR.1
    refine ⟨Nat.zero_le _, fun D eD => ?_⟩
    refine ⟨.ref a, rfl, a, _, rfl, .inr (SqT.of (same_upd eD _ _ ha)), _, rfl, by rw [List.length_map]; omega, by rw [List.length_map]; omega, ?_⟩
    rw [List.length_map, las]
    refine for_range (fun i σ H' => ∃ (y3 y4 y5 y6 y7 y8 : Option V), σ = [some (.ref a), some (.int k), some (.ref D), y3, y4, y5, y6, y7, y8] ∧ Acc H H' D (fun i => matRow n (turnE (ent rows) k i)) i)
      ⟨none, none, none, none, none, none, rfl, Acc.zero⟩ ?_ ?_
    · rintro i σ H3 hi ⟨y3, y4, y5, y6, y7, y8, rfl, hA⟩
      have hi : i < rows.length := hi
      have e0 : (0 : Int) + (i : Int) = (i : Int) := by omega
      rw [e0]
      have s3 : Same H H3 := fun b o e => hA.stay eD e
      refine ⟨Nat.zero_le _, fun D2 eD2 => ?_⟩
      obtain ⟨as0, b0, f1, f2, f3⟩ := (hT.same s3).row (i := 0) (by omega)
      have sD2 := same_upd (o := .lst []) eD2
      refine ⟨.ref a, rfl, a, _, 0, .ref b0, rfl, rfl, SqT.of (sD2 _ _ f1), atI_nat (j := 0) f2, b0, _, rfl, .inr (SqT.of (sD2 _ _ f3)), _, rfl, by rw [List.length_map, row_len O.wide (by omega)]; omega, by rw [List.length_map, row_len O.wide (by omega)]; omega, ?_⟩
      rw [List.length_map, row_len O.wide (by omega)]
      refine for_range (fun j σ H' => ∃ (y5 y6 y7 y8 : Option V), σ = [some (.ref a), some (.int k), some (.ref D), some (.int i), some (.ref D2), y5, y6, y7, y8] ∧ AccI H3 H' D2 (fun j => turnE (ent rows) k i j) j)
        ⟨_, _, _, _, rfl, AccI.zero⟩ ?_ ?_
      · rintro j σ H4 hj ⟨y5, y6, y7, y8, rfl, hI⟩
        have hj : j < n := hj
        have e1 : (0 : Int) + (j : Int) = (j : Int) := by omega
        rw [e1]
        have s4 : Same H H4 := fun b o e => hI.stay eD2 (s3 _ _ e)
        obtain ⟨as1, b, g1, g2, g3⟩ := (hT.same s4).row hi
        obtain ⟨as2, c, k1, k2, k3⟩ := (hT.same s4).row hkr
        have eas : as2.map V.ref = as1.map V.ref := HO.tup.inj (Option.some.inj (k1.symm.trans g1))
        rw [eas] at k2
        have x1 := ent_get O.wide hi hj
        have x2 := ent_get O.wide hi hk
        have x3 := ent_get O.wide hkr hj
        have b2 := O.bd hi hk
        have b3 := O.bd hkr hj
        refine ⟨.ref a, rfl, .int i, rfl, a, _, _, .ref b, rfl, rfl, SqT.of g1, atI_nat g2, .int j, rfl, b, _, _, .int (ent rows i j), rfl, rfl, SqT.of g3, atI_nat x1, ?_⟩
        refine ⟨fun σ H5 => ∃ (y7 y8 : Option V) (t : Int), σ = [some (.ref a), some (.int k), some (.ref D), some (.int i), some (.ref D2), some (.int j), some (.int t), y7, y8] ∧ H5 = H4 ∧ t = turnE (ent rows) k i j, ?_, ?_⟩
        · have yes : i = k ∨ j = k → (0 : Int) - ent rows i j = turnE (ent rows) k i j := fun h => by
            unfold turnE
            rw [if_pos h]
            omega
          refine ⟨.int i, rfl, .int k, rfl, rfl, _, rfl, ite2 (fun e => iteT ?_) (fun e => ?_)⟩
          · have e := V.int.inj (of_decide_eq_true e)
            exact ⟨.int (ent rows i j), rfl, _, _, rfl, rfl, _, _, _, rfl, rfl, yes (.inl (by omega))⟩
          · refine ⟨.int j, rfl, .int k, rfl, rfl, _, rfl, ite2 (fun e => ?_) (fun e2 => ?_)⟩
            · have e := V.int.inj (of_decide_eq_true e)
              exact ⟨.int (ent rows i j), rfl, _, _, rfl, rfl, _, _, _, rfl, rfl, yes (.inr (by omega))⟩
            · have hn : ¬ (i = k ∨ j = k) := fun z => by
                rcases z with z | z
                · exact e (decide_eq_true (by rw [z]))
                · exact e2 (decide_eq_true (by rw [z]))
              refine ⟨.ref a, rfl, .int i, rfl, a, _, _, .ref b, rfl, rfl, SqT.of g1, atI_nat g2, .int k, rfl, b, _, _, .int (ent rows i k), rfl, rfl, SqT.of g3, atI_nat x2, ?_⟩
              refine ⟨.ref a, rfl, .int k, rfl, a, _, _, .ref c, rfl, rfl, SqT.of g1, atI_nat k2, .int j, rfl, c, _, _, .int (ent rows k j), rfl, rfl, SqT.of k3, atI_nat x3, _, _, rfl, ?_⟩
              refine ⟨.int (ent rows i j), rfl, .int (ent rows i k), rfl, _, rfl, .int (ent rows k j), rfl, _, _, rfl, rfl, .inr ⟨by omega, by omega⟩, .int (ent rows i k), rfl, .int (ent rows k j), rfl, _, rfl, _, _, rfl, rfl, .inl ⟨by omega, by omega⟩, _, _, rfl, rfl, _, _, rfl, rfl, ⟨by decide, by decide⟩, _, _, rfl, rfl, _, _, _, rfl, rfl, ?_⟩
              rw [half_turn]
              unfold turnE
              rw [if_neg hn]
              split
              · rfl
              · split
                · omega
                · omega
        · rintro σ H5 ⟨y7, y8, t, rfl, rfl, rfl⟩
          obtain ⟨acc, e5, l5, hI5⟩ := hI.next (y := turnE (ent rows) k i j) (.refl _) rfl (by omega)
          exact ⟨.ref D2, rfl, .inl ⟨rfl, _, SqL.of e5⟩, .int _, rfl, D2, _, _, rfl, rfl, e5, l5, _, _, _, _, rfl, hI5⟩
      · rintro σ H4 ⟨y5, y6, y7, y8, rfl, hI⟩
        rw [Int.toNat_natCast] at hI
        obtain ⟨ts, _, _, eD3, _⟩ := id hA
        refine ⟨.ref D, rfl, .inl ⟨rfl, _, SqL.of (hI.stay eD2 eD3)⟩, .ref D2, rfl, D2, _, rfl, .inl ⟨SqL.of hI.1, fun p hp => ?_⟩⟩
        obtain ⟨acc, e5, l5, hA5⟩ := hA.next (p := p) (H2 := upd H4 p (.tup ((matRow n fun j => turnE (ent rows) k i j).map V.int))) (fun b o e => same_upd hp _ _ (hI.stay eD2 e)) upd_same (by omega)
        exact ⟨D, _, _, rfl, rfl, e5, l5, _, _, _, _, _, _, rfl, hA5⟩
    · rintro σ H3 ⟨y3, y4, y5, y6, y7, y8, rfl, hA⟩
      rw [Int.toNat_natCast] at hA
      obtain ⟨ts, eD3, hR3⟩ := hA.get
      have s3 : Same H H3 := fun b o e => hA.stay eD e
      refine ⟨.ref D, rfl, D, _, rfl, .inl ⟨SqL.of eD3, fun p hp => ?_⟩⟩
      have sp := same_upd (o := .tup (ts.map V.ref)) hp
      exact q p _ (s3.trans sp) ((hR3.same sp).tab upd_same)
/-! ### the widest tie -/
abbrev s_law_wide_ties : Stmt := topS 33
abbrev n_law_wide_ties : List Str := ["_law_ties", "_law_row", "_law_tie"]
theorem sc_law_wide_ties : FnScope n_law_wide_ties ["_law_ties"] (defScope s_law_wide_ties) := ⟨rfl, rfl, rfl, by decide +kernel, rfl, by decide +kernel, by decide +kernel⟩
def spWideT : Sp := fun vs H Q _ => ∃ (a : Addr) (rows : List (List Int)) (n : Nat), vs = [.ref a] ∧ TabAt H a rows ∧ 1 ≤ n ∧ n ≤ 4 ∧ 1 ≤ rows.length ∧ rows.length ≤ 8 ∧ (∀ r ∈ rows, r.length = n) ∧ ∀ (m : Int) (H' : Hp), Same H H' → (m ≤ 50 ↔ bigR rows = false) → Q (.int m) H'
def absI (t : Int) : Int := if t < 0 then -t else t
theorem ok_wideT {f : Addr} {fd : FuncData} (F : Fun K "_law_wide_ties" "_law_wide_ties" s_law_wide_ties f fd) (T : Tx mg) : FnOk P w K mg base CX0 1 f fd ["_law_ties"] spWideT := by
  refine F.ok sc_law_wide_ties (fun vs H Q E h => ?_) (fun cdv A outer s H vs Q E hr h => ?_)
  · obtain ⟨a, rows, n, rfl, _⟩ := h
    rfl
  · obtain ⟨a, rows, n, rfl, hT, n1, n4, r1, r8, hw, q⟩ := h
    refine ⟨_, (pss_one (ps_ret (pe_callB (c_max (K := K) rfl) (by rfl) T.max (by decide +kernel) (pa_cons (pe_lc (own := [("_law_row", 1)]) (by rfl) sc_law_wide_ties.nd (p_tup (K := K) (pv 0)) (blkOk_by (own := [("_law_row", 1)]) (N := n_law_wide_ties) (sc := defScope s_law_wide_ties) (by decide +kernel)) (fun _ _ _ _ _ => (pg_name (i := 1) sc_law_wide_ties.nd rfl (.inl rfl))) (fun _ _ _ _ _ => pts_nil) (fun _ _ _ _ _ => (pe_callB (c_max (K := K) rfl) (by rfl) T.max (by decide +kernel) (pa_cons (pe_lc (own := [("_law_tie", 2)]) (by rfl) sc_law_wide_ties.nd (p_tup (K := K) (pv 1)) (blkOk_by (own := [("_law_tie", 2)]) (N := n_law_wide_ties) (sc := { kind := .function, names := [(".0", .local), ("_law_row", .local), ("max", .globalImplicit)], isGenerator := false, isCoroutine := false }) (by decide +kernel)) (fun _ _ _ _ _ => (pg_name (i := 2) sc_law_wide_ties.nd rfl (.inl rfl))) (fun _ _ _ _ _ => pts_nil) (fun _ _ _ _ _ => (pe_callB call_abs (by rfl) T.abs (by decide +kernel) (pa_cons (pv 2) pa_nil)))) pa_nil)))) pa_nil)))), ?_⟩
    obtain ⟨as, ha, hR⟩ := hT.refs
    refine ⟨.ref a, rfl, a, rfl, ⟨_, SqT.of ha⟩, fun D eD => ?_⟩
    refine lc_tup (K := K) (a := a) (xs := as.map V.ref) (fun i H' => ∃ ms : List Int, H' D = some (.lst (ms.map V.int)) ∧ ms.length = i ∧ ((∀ m ∈ ms, m ≤ 50) ↔ bigR (rows.take i) = false) ∧ Same H H') ⟨[], upd_same, rfl, by simp [bigR], same_upd eD⟩ (fun i H' _ ⟨_, _, _, _, s⟩ => SqT.of (s _ _ ha)) ?_ ?_
    · rintro i v H1 hv ⟨ms, e1, l1, hm1, s1⟩
      rw [List.getElem?_map] at hv
      obtain ⟨t, et, rfl⟩ := Option.map_eq_some_iff.mp hv
      have hi : i < rows.length := by
        have := (List.getElem?_eq_some_iff.mp et).1
        rw [hR.1] at this
        exact this
      obtain ⟨b, eb, hb⟩ := hR.2 i _ (List.getElem?_eq_getElem hi)
      rw [et] at eb
      cases eb
      have er : rows[i]? = some rows[i] := List.getElem?_eq_getElem hi
      have lr := hw _ (List.getElem_mem hi)
      generalize rows[i] = r at hb er lr
      have hb1 := s1 _ _ hb
      refine ⟨rfl, .ref t, rfl, t, rfl, ⟨_, SqT.of hb1⟩, fun D2 eD2 => ?_⟩
      refine lc_tup (K := K) (a := t) (xs := r.map V.int) (fun j H' => H' D2 = some (.lst (((r.take j).map absI).map V.int)) ∧ Same H1 H') ⟨upd_same, same_upd eD2⟩ (fun j H' _ ⟨_, s⟩ => SqT.of (s _ _ hb1)) ?_ ?_
      · rintro j v H2 hv ⟨e2, s2⟩
        obtain ⟨x, ex, rfl⟩ := int_at hv
        have hj := (List.getElem?_eq_some_iff.mp ex).1
        refine ⟨rfl, .int x, rfl, x, rfl, _, e2, by rw [List.length_map, List.length_map, List.length_take]; exact small1000 (by omega), ?_, Same.updN s2 eD2⟩
        rw [upd_same, List.take_succ, ex, List.map_append, List.map_append]
        rfl
      · rintro H2 ⟨e2, s2⟩
        rw [List.length_map, List.take_length] at e2
        refine ⟨D2, _, rfl, SqL.of e2, by rw [List.length_map]; omega, fun m hm hmx => ?_⟩
        refine ⟨_, s2 _ _ e1, by rw [List.length_map]; exact small1000 (by omega), ms ++ [m], ?_, by rw [List.length_append, l1]; rfl, ?_, Same.updN (s1.trans s2) eD⟩
        · rw [upd_same, List.map_append]
          rfl
        · rw [bigR_take er, Bool.or_eq_false_iff, ← hm1]
          have hr : r.any bigT = false ↔ m ≤ 50 := by
            rw [List.any_eq_false]
            constructor
            · intro h
              obtain ⟨x, hx, rfl⟩ := List.mem_map.mp hm
              have hb : bigT x = false := by
                cases e : bigT x with
                | false => rfl
                | true => exact absurd e (h x hx)
              have := (bigT_iff x).mp hb
              unfold absI
              split <;> omega
            · intro h x hx z
              have h2 := hmx (absI x) (List.mem_map_of_mem hx)
              unfold absI at h2
              have : bigT x = false := (bigT_iff x).mpr (by split at h2 <;> omega)
              rw [this] at z
              cases z
          rw [hr]
          constructor
          · intro h
            exact ⟨fun y hy => h y (List.mem_append_left _ hy), h m (List.mem_append_right _ (List.mem_singleton.mpr rfl))⟩
          · rintro ⟨ha, hb⟩ y hy
            rcases List.mem_append.mp hy with hy | hy
            · exact ha y hy
            · rw [List.mem_singleton.mp hy]
              exact hb
    · rintro H1 ⟨ms, e1, l1, hm1, s1⟩
      rw [List.length_map, hR.1] at l1 hm1
      rw [List.take_length] at hm1
      refine ⟨D, ms, rfl, SqL.of e1, by omega, fun m hm hmx => ?_⟩
      refine q m H1 s1 ?_
      rw [← hm1]
      exact ⟨fun h y hy => Int.le_trans (hmx y hy) h, fun h => h m hm⟩
/-! ### places -/
abbrev s_law_places : Stmt := topS 37
abbrev n_law_places : List Str := ["_law_feed_here", "_law_many", "_law_most", "_law_k"]
theorem sc_law_places : FnScope n_law_places ["_law_feed_here", "_law_many", "_law_most"] (defScope s_law_places) := ⟨rfl, rfl, rfl, by decide +kernel, rfl, by decide +kernel, by decide +kernel⟩
def spPlaces : Sp := fun vs H Q _ => ∃ (f l : Addr) (n m : Nat), vs = [.ref f, .int n, .int m] ∧ FeedAt H f l ∧ 1 ≤ n ∧ n ≤ 4 ∧ m ≤ 60 ∧ ∀ (L : Addr) (zs : List Int) (H' : Hp), SameBut f H H' → FeedAt H' f l → H L = none → H' L = some (.lst (zs.map V.int)) → zs.length ≤ m → (∀ z ∈ zs, 0 ≤ z ∧ z < (n : Int)) → Q (.ref L) H'
theorem ok_places {f : Addr} {fd : FuncData} (F : Fun K "_law_places" "_law_places" s_law_places f fd) (T : Tx mg) (c_law_draw : Cal P w K mg base CX0 1 "_law_draw" ["_law_feed_here", "_law_many"] spDraw) : FnOk P w K mg base CX0 2 f fd ["_law_feed_here", "_law_many", "_law_most"] spPlaces := by
  refine F.ok sc_law_places (fun vs H Q E h => ?_) (fun cdv A outer s H vs Q E hr h => ?_)
  · obtain ⟨f, l, n, m, rfl, _⟩ := h
    rfl
  · obtain ⟨f, l, n, m, rfl, hf, n1, n4, m60, q⟩ := h
    refine ⟨_, (pss_one (ps_ret (pe_lc (own := [("_law_k", 3)]) (by rfl) sc_law_places.nd (pi_range1 (by rfl) T.range (pa_cons (pe_cal c_law_draw hr (by rfl) (pa_cons (pv 0) (pa_cons (pe_op op_add (pv 2) pe_int) pa_nil))) pa_nil)) (blkOk_by (own := [("_law_k", 3)]) (N := n_law_places) (sc := defScope s_law_places) (by decide +kernel)) (fun _ _ _ _ _ => (pg_name (i := 3) sc_law_places.nd rfl (.inl rfl))) (fun _ _ _ _ _ => pts_nil) (fun _ _ _ _ _ => (pe_cal c_law_draw hr (by rfl) (pa_cons (pv 0) (pa_cons (pv 1) pa_nil))))))), ?_⟩
    refine ⟨.ref f, rfl, .int m, rfl, _, _, rfl, rfl, f, l, _, rfl, hf, by omega, by omega, fun u H1 u0 u1 sb1 hf1 => ?_⟩
    refine ⟨u, rfl, by omega, by omega, fun D eD => ?_⟩
    have D0 : H D = none := sb1.none hf1 eD
    have nDf : D ≠ f := hf1.ne eD
    refine lc_range (fun j H' => ∃ zs : List Int, H' D = some (.lst (zs.map V.int)) ∧ zs.length = j ∧ (∀ z ∈ zs, 0 ≤ z ∧ z < (n : Int)) ∧ SameBut f H H' ∧ FeedAt H' f l) ⟨[], upd_same, rfl, by simp, sb1.updN D0, hf1.put nDf (hf1.ne2 eD)⟩ ?_ ?_
    · rintro j H2 hj ⟨zs, e2, l2, hz, sb2, hf2⟩
      refine ⟨rfl, .ref f, rfl, .int n, rfl, f, l, n, rfl, hf2, by omega, by omega, fun v H3 v0 v1 sb3 hf3 => ?_⟩
      refine ⟨_, sb3 _ _ nDf e2, by rw [List.length_map]; exact small1000 (by omega), zs ++ [v], ?_, by rw [List.length_append, l2]; rfl, fun z hz' => ?_, (sb2.trans sb3).updN D0, hf3.put nDf (hf.ne2 D0)⟩
      · rw [upd_same, List.map_append]
        rfl
      · rcases List.mem_append.mp hz' with h | h
        · exact hz z h
        · rw [List.mem_singleton.mp h]
          exact ⟨v0, v1⟩
    · rintro H2 ⟨zs, e2, l2, hz, sb2, hf2⟩
      exact q D zs H2 sb2 hf2 D0 e2 (by omega) hz
end
end Bw
set_option Elab.async false
set_option linter.all false
set_option maxRecDepth 100000
set_option maxHeartbeats 4000000
namespace Bw
open PySem PySem.Spec PyProof.Rows L2
/-- four keywords, from behind -/
def backL {α : Type} : List α → List α → List α
  | [], [a, b, c, d] => [d, c, b, a]
  | _, _ => []
theorem holdsB_swap (rows : List (List Int)) (n : Nat) (zs : List Int) (x y : Int) : holdsB rows n zs y x = holdsB rows n zs x y := by
  unfold holdsB
  cases walkR n (rows.take n) zs with
  | none => rfl
  | some r =>
    show (decide (0 ≤ y ∧ y < (n : Int)) && (decide (0 ≤ x ∧ x < (n : Int)) && decide (ent r y.toNat x.toNat * ent r x.toNat y.toNat ≤ -4))) = (decide (0 ≤ x ∧ x < (n : Int)) && (decide (0 ≤ y ∧ y < (n : Int)) && decide (ent r x.toNat y.toNat * ent r y.toNat x.toNat ≤ -4)))
    rw [Int.mul_comm]
    generalize decide (0 ≤ y ∧ y < (n : Int)) = A
    generalize decide (0 ≤ x ∧ x < (n : Int)) = B
    cases A <;> cases B <;> rfl
theorem FeedAt.neN {H : Hp} {f l b : Addr} {o : HO} (h : FeedAt H f l) (e : H b = some o) (n : ∀ xs, o ≠ .lst xs) : b ≠ f := by
  obtain ⟨_, _, _, _, _, _, b', _⟩ := h
  intro z
  subst z
  rw [e] at b'
  exact n _ (Option.some.inj b')
theorem last_ok : TabOk [[0, 2], [-2, 0], [9, 9]] 2 := by
  refine ⟨by decide, by decide, by decide, by decide, by decide, by decide, fun _ => 1, fun i _ => (by decide : (0 : Int) < 1), fun i j hi hj => ?_⟩
  have h1 : i = 0 ∨ i = 1 := by omega
  have h2 : j = 0 ∨ j = 1 := by omega
  rcases h1 with rfl | rfl <;> rcases h2 with rfl | rfl <;> decide
/-- what stays all along a turn -/
structure Wt (f l a : Addr) (rows : List (List Int)) (L : Addr) (zs : List Int) (H : Hp) : Prop where
  feed : FeedAt H f l
  tab : TabAt H a rows
  lst : H L = some (.lst (zs.map V.int))
  nL : L ≠ f
  nl : L ≠ l
theorem Wt.same {f l a L : Addr} {rows : List (List Int)} {zs : List Int} {H H' : Hp} (h : Wt f l a rows L zs H) (s : Same H H') : Wt f l a rows L zs H' := ⟨h.feed.same s, h.tab.same s, s _ _ h.lst, h.nL, h.nl⟩
theorem Wt.but {f l a L : Addr} {rows : List (List Int)} {zs : List Int} {H H' : Hp} (h : Wt f l a rows L zs H) (s : SameBut f H H') (hf : FeedAt H' f l) : Wt f l a rows L zs H' := ⟨hf, h.tab.but s h.feed, s _ _ h.nL h.lst, h.nL, h.nl⟩
section
variable {P : Program} {w : World} {K : PySem.W.Frag} {mg : Str → Option Value} {base : Heap}
abbrev s_law : Stmt := topS 38
abbrev n_law : List Str := ["_law_script", "_law_feed_here", "_law_turn_here", "_law_ties", "_law_many", "_law_walk_now", "_law_my_one", "_law_my_other", "_law_here", "_law_good", "_law_place", "_law_due", "_law_handed", "_law_rows"]
theorem sc_law : FnScope n_law ["_law_script"] (defScope s_law) := ⟨rfl, rfl, rfl, by decide +kernel, rfl, by decide +kernel, by decide +kernel⟩
def spLaw (K : PySem.W.Frag) : Sp := fun vs H Q _ => ∃ (a : Addr) (ns : List Int), vs = [.ref a] ∧ SqL K H a (ns.map V.int) ∧ ns.length ≤ 63 ∧ ∀ H', Q (.bl true) H'
theorem ok_law {f fH : Addr} {fd fdH : FuncData} (F : Fun K "law" "law" s_law f fd) (T : Tx mg)
    (c_law_feed : Cal P w K mg base CX0 1 "_law_feed" ["_law_script"] (spFeed K)) (c_law_draw : Cal P w K mg base CX0 1 "_law_draw" ["_law_feed_here", "_law_many"] spDraw) (c_law_pick : Cal P w K mg base CX0 2 "_law_pick" ["_law_feed_here", "_law_row"] spPick)
    (c_law_table : Cal P w K mg base CX0 4 "_law_table" ["_law_feed_here", "_law_most_buds", "_law_most_roots"] spTable) (c_law_same : Cal P w K mg base CX0 3 "_law_same" ["_law_found", "_law_due"] (spSame 2)) (c_law_turn : Cal P w K mg base CX0 1 "_law_turn" ["_law_ties", "_law_place"] spLTurn)
    (c_law_wide_ties : Cal P w K mg base CX0 1 "_law_wide_ties" ["_law_ties"] spWideT) (c_law_places : Cal P w K mg base CX0 2 "_law_places" ["_law_feed_here", "_law_many", "_law_most"] spPlaces) (c_endless_holds : Cal P w K mg base CX0 6 "endless_holds" ["table", "walk", "one", "other"] spHolds)
    (FH : FnOk P w K mg base CX0 6 fH fdH ["table", "walk", "one", "other"] spHolds) (gH : mg "endless_holds" = some (.ref fH)) (kH : PySem.W.keepIn K (.ref fH) = true) (kbH : KBinds K fdH ["table", "walk", "one", "other"] ["other", "one", "walk", "table"] backL backL) :
    FnOk P w K mg base CX0 7 f fd ["_law_script"] (spLaw K) := by
  refine F.ok sc_law (fun vs H Q E h => ?_) (fun cdv A outer s H vs Q E hr h => ?_)
  · obtain ⟨a, ns, rfl, _⟩ := h
    rfl
  · obtain ⟨a, ns, rfl, hS, hlen, q⟩ := h
    have hr1 := hr.mono (show 1 ≤ 6 by decide)
    have hr2 := hr.mono (show 2 ≤ 6 by decide)
    have hr3 := hr.mono (show 3 ≤ 6 by decide)
    have hr4 := hr.mono (show 4 ≤ 6 by decide)
    refine ⟨_, (pss_cons (ps_set (i := 1) sc_law.nd rfl (.inl rfl) (pe_cal c_law_feed hr1 (by rfl) (pa_cons (pv 0) pa_nil)))
  (pss_cons (ps_for PassesOwn.never rfl (pi_range1 (by rfl) T.range (pa_cons pe_int pa_nil)) (pg_name (i := 2) sc_law.nd rfl (.inl rfl))
    (pss_cons (ps_set (i := 3) sc_law.nd rfl (.inl rfl) (pe_cal c_law_table hr4 (by rfl) (pa_cons (pv 1) (pa_cons pe_int (pa_cons pe_int pa_nil)))))
    (pss_cons (ps_set (i := 4) sc_law.nd rfl (.inl rfl) (pe_callB (c_len (K := K)) (by rfl) T.len PySem.boot_len (pa_cons (pe_ix (i_tup (K := K)) (pv 3) pe_int (fun _ _ => rfl)) pa_nil)))
    (pss_cons (ps_set (i := 5) sc_law.nd rfl (.inl rfl) (pe_cal c_law_places hr2 (by rfl) (pa_cons (pv 1) (pa_cons (pv 4) (pa_cons pe_int pa_nil)))))
    (C8.pss_cut (ps_if (pt_cmpR op_eq (pe_cal c_law_draw hr1 (by rfl) (pa_cons (pv 1) (pa_cons pe_int pa_nil))) pe_int (nomark _))
      (pss_one (ps_expr (p_bmR (K := K) PySem.F.plainAttrs_list PySem.F.slot_list_insert PySem.F.type_list_insert mt_insert (pv 5) (pa_cons (pe_cal c_law_draw hr1 (by rfl) (pa_cons (pv 1) (pa_cons (pe_op op_add (pe_callB (c_len (K := K)) (by rfl) T.len PySem.boot_len (pa_cons (pv 5) pa_nil)) pe_int) pa_nil))) (pa_cons (pe_cal c_law_pick hr2 (by rfl) (pa_cons (pv 1) (pa_cons (pe_lst (pa_cons (pe_un un_neg pe_int) (pa_cons (pv 4) (pa_cons (pe_op op_pow pe_int pe_int) pa_nil)))) pa_nil))) pa_nil)))))
      pss_nil)
    (pss_cons (ps_par (i := 6) (j := 7) (by rfl) sc_law.nd rfl rfl (by decide) rfl rfl (pa_cons (pe_cal c_law_draw hr1 (by rfl) (pa_cons (pv 1) (pa_cons (pv 4) pa_nil))) (pa_cons (pe_cal c_law_draw hr1 (by rfl) (pa_cons (pv 1) (pa_cons (pv 4) pa_nil))) pa_nil)) (by rfl))
    (C8.pss_cut (ps_if (pt_cmpR op_eq (pe_cal c_law_draw hr1 (by rfl) (pa_cons (pv 1) (pa_cons pe_int pa_nil))) pe_int (nomark _))
      (pss_one (ps_set (i := 7) sc_law.nd rfl (.inl rfl) (pe_cal c_law_pick hr2 (by rfl) (pa_cons (pv 1) (pa_cons (pe_lst (pa_cons (pe_un un_neg pe_int) (pa_cons (pv 4) (pa_cons (pe_op op_add (pv 4) (pe_cal c_law_draw hr1 (by rfl) (pa_cons (pv 1) (pa_cons (pe_op op_pow pe_int pe_int) pa_nil)))) pa_nil)))) pa_nil)))))
      pss_nil)
    (pss_cons (ps_par (i := 8) (j := 9) (by rfl) sc_law.nd rfl rfl (by decide) rfl rfl (pa_cons (pe_slice (l_tup (K := K)) (pv 3) po_none (po_some (pv 4))) (pa_cons pe_bl pa_nil)) (by rfl))
    (pss_cons (ps_for PassesOwn.never rfl (p_list (K := K) (pv 5)) (pg_name (i := 10) sc_law.nd rfl (.inl rfl))
      (C8.pss_cut (ps_set (i := 9) sc_law.nd rfl (.inl rfl) (pe_and (pv 9) (pe_one (pe_chain op_le op_lt pe_int (pv 10) (pv 4)))))
      (pss_one (ps_if (pt_val (pv 9))
        (pss_cons (ps_set (i := 8) sc_law.nd rfl (.inl rfl) (pe_cal c_law_turn hr1 (by rfl) (pa_cons (pv 8) (pa_cons (pv 10) pa_nil))))
        (pss_one (ps_set (i := 9) sc_law.nd rfl (.inl rfl) (pe_cmpR op_le (pe_cal c_law_wide_ties hr1 (by rfl) (pa_cons (pv 8) pa_nil)) pe_int (nomark _)))))
        pss_nil))))
    (C8.pss_cut (ps_set (i := 9) sc_law.nd rfl (.inl rfl) (pe_and (pv 9) (pe_one (pe_chain op_le op_lt pe_int (pv 7) (pv 4)))))
    (C8.pss_cut (ps_set (i := 11) sc_law.nd rfl (.inl rfl) (pe_and (pv 9) (pe_one (pe_cmpR op_le (pe_op op_mul (pe_ix (i_tup (K := K)) (pe_ix (i_tup (K := K)) (pv 8) (pv 6) (fun _ _ => rfl)) (pv 7) (fun _ _ => rfl)) (pe_ix (i_tup (K := K)) (pe_ix (i_tup (K := K)) (pv 8) (pv 7) (fun _ _ => rfl)) (pv 6) (fun _ _ => rfl))) (pe_un un_neg pe_int) (nomark _)))))
    (pss_cons (ps_set (i := 12) sc_law.nd rfl (.inl rfl) (pe_callTy (c_tup (K := K)) (by rfl) T.tuple (by decide +kernel) (pa_cons (pv 5) pa_nil)))
    (pss_cons (ps_if (pt_not (pt_val (pe_cal c_law_same hr3 (by rfl) (pa_cons (pe_cal c_endless_holds hr (by rfl) (pa_cons (pv 3) (pa_cons (pv 12) (pa_cons (pv 6) (pa_cons (pv 7) pa_nil))))) (pa_cons (pv 11) pa_nil)))))
      (pss_one (ps_ret pe_bl))
      pss_nil)
    (pss_one (ps_if (pt_not (pt_val (pe_cal c_law_same hr3 (by rfl) (pa_cons (pe_callK0 FH hr (by rfl) gH kH kbH pass0 (pk_cons (pv 6) (pk_cons (pv 7) (pk_cons (pv 12) (pk_cons (pv 3) pk_nil))))) (pa_cons (pv 11) pa_nil)))))
      (pss_one (ps_ret pe_bl))
      pss_nil)))))))))))))))
  (pss_cons (ps_set (i := 13) sc_law.nd rfl (.inl rfl) (pe_tup (pa_cons (pe_tup (pa_cons pe_int (pa_cons pe_int pa_nil))) (pa_cons (pe_tup (pa_cons (pe_un un_neg pe_int) (pa_cons pe_int pa_nil))) (pa_cons (pe_tup (pa_cons pe_int (pa_cons pe_int pa_nil))) pa_nil)))))
  (pss_one (ps_ret (pe_cal c_law_same hr3 (by rfl) (pa_cons (pe_lst (pa_cons (pe_cal c_endless_holds hr (by rfl) (pa_cons (pv 13) (pa_cons (pe_tup pa_nil) (pa_cons pe_int (pa_cons pe_int pa_nil))))) (pa_cons (pe_cal c_endless_holds hr (by rfl) (pa_cons (pv 13) (pa_cons (pe_tup pa_nil) (pa_cons pe_int (pa_cons pe_int pa_nil))))) pa_nil))) (pa_cons (pe_lst (pa_cons pe_bl (pa_cons pe_bl pa_nil))) pa_nil)))))))), ?_⟩
    refine ⟨.ref a, rfl, a, ns, rfl, hS, fun f l H1 s1 nf hf1 => ?_⟩
    clear hS s1 hlen
    refine ⟨4, rfl, by decide, by decide, ?_⟩
    refine for_range (fun i σ H' => ∃ (y2 y3 y4 y5 y6 y7 y8 y9 y10 y11 y12 : Option V), σ = [some (.ref a), some (.ref f), y2, y3, y4, y5, y6, y7, y8, y9, y10, y11, y12, none] ∧ FeedAt H' f l)
      ⟨none, none, none, none, none, none, none, none, none, none, none, rfl, hf1⟩ ?_ ?_
    · rintro i σ H2 hi ⟨y2, y3, y4, y5, y6, y7, y8, y9, y10, y11, y12, rfl, hf2⟩
      refine ⟨.ref f, rfl, f, l, 4, 2, rfl, hf2, by decide, by decide, by decide, fun a1 rows n H3 sb3 hf3 hT O m1 l1 => ?_⟩
      have x1 := O.n1
      have x4 := O.n4
      have xl := O.len
      obtain ⟨as, b0, ha, f0, g0⟩ := hT.row (i := 0) (by omega)
      refine ⟨.ref a1, rfl, a1, _, 0, .ref b0, rfl, rfl, SqT.of ha, atI_nat (j := 0) f0, b0, _, rfl, .inr (SqT.of g0), ?_⟩
      rw [List.length_map, row_len O.wide (by omega)]
      clear ha f0 g0 as b0 hf2 sb3
      refine ⟨.ref f, rfl, .int n, rfl, f, l, n, 5, rfl, hf3, x1, x4, by decide, fun L zs0 H4 sb4 hf4 L0 eL lz hz => ?_⟩
      have W4 : Wt f l a1 rows L zs0 H4 := ⟨hf4, hT.but sb4 hf3, eL, hf3.ne L0, hf3.ne2 L0⟩
      clear hT hf3 sb4 hf4 L0 eL hz
      -- a place that is none
      refine ⟨fun σ H' => ∃ zs : List Int, σ = [some (.ref a), some (.ref f), some (.int (0 + (i : Int))), some (.ref a1), some (.int n), some (.ref L), y6, y7, y8, y9, y10, y11, y12, none] ∧ Wt f l a1 rows L zs H' ∧ zs.length ≤ 6, ?_, ?_⟩
      · refine ⟨.ref f, rfl, f, l, 6, rfl, W4.feed, by decide, by decide, fun u H5 u0 u1 sb5 hf5 => ⟨rfl, _, rfl, ite2 (fun _ => ?_) (fun _ => ?_)⟩⟩
        · have W5 := W4.but sb5 hf5
          refine ⟨.ref L, rfl, .inl ⟨rfl, _, SqL.of W5.lst⟩, .ref f, rfl, .ref L, rfl, L, _, rfl, .inl (SqL.of W5.lst), _, _, rfl, rfl, f, l, _, rfl, W5.feed, by omega, by rw [List.length_map]; omega, fun t H6 t0 t1 sb6 hf6 => ?_⟩
          have W6 := W5.but sb6 hf6
          refine ⟨.ref f, rfl, 1, rfl, .int n, rfl, 10, 20, rfl, rfl, ⟨by decide, by decide, by decide⟩, by show 3 ≤ sizeLine; decide, fun o eo => ?_⟩
          have so := same_upd (o := .lst [.int (-1), .int n, .int (10 ^ Int.toNat 20)]) eo
          refine ⟨f, l, o, _, rfl, W6.feed.same so, upd_same, W6.feed.ne eo, by show 0 < 3; decide, by show 3 < 1000; decide, fun v H7 hv sb7 hf7 => ?_⟩
          have W7 := (W6.same so).but sb7 hf7
          obtain ⟨z, rfl⟩ : ∃ z : Int, v = .int z := by
            simp only [List.mem_cons, List.not_mem_nil, or_false] at hv
            rcases hv with rfl | rfl | rfl <;> exact ⟨_, rfl⟩
          rw [List.length_map] at t1
          refine ⟨L, _, t, .int z, rfl, rfl, W7.lst, by rw [List.length_map]; exact small1000 (by omega), t0, by omega, ?_⟩
          refine ⟨zs0.take t.toNat ++ [z] ++ zs0.drop t.toNat, rfl, ⟨W7.feed.put W7.nL W7.nl, ?_, ?_, W7.nL, W7.nl⟩, ?_⟩
          · obtain ⟨as2, z1, z2, z3⟩ := W7.tab
            refine ⟨as2, by rw [upd_ne (ne_of z1 W7.lst (by intro z; cases z))]; exact z1, z2, fun i r e => ?_⟩
            obtain ⟨b, w1, w2⟩ := z3 i r e
            exact ⟨b, w1, by rw [upd_ne (ne_of w2 W7.lst (by intro z; cases z))]; exact w2⟩
          · rw [upd_same, List.map_append, List.map_append, List.map_take, List.map_drop]
            rfl
          · rw [List.length_append, List.length_append, List.length_take, List.length_drop]
            show _ + 1 + _ ≤ 6
            omega
        · exact ⟨zs0, rfl, W4.but sb5 hf5, by omega⟩
      · rintro σ H5 ⟨zs, rfl, W5, lz⟩
        clear W4
        -- two buds
        refine ⟨.ref f, rfl, .int n, rfl, f, l, n, rfl, W5.feed, by omega, by omega, fun x H6 x0 x1' sb6 hf6 => ?_⟩
        have W6 := W5.but sb6 hf6
        refine ⟨.ref f, rfl, .int n, rfl, f, l, n, rfl, W6.feed, by omega, by omega, fun y' H7 y0' y1' sb7 hf7 => ⟨_, _, rfl, ?_⟩⟩
        have W7 := W6.but sb7 hf7
        clear W5 W6 sb6 hf6 sb7 hf7
        refine ⟨fun σ H' => ∃ y : Int, σ = [some (.ref a), some (.ref f), some (.int (0 + (i : Int))), some (.ref a1), some (.int n), some (.ref L), some (.int x), some (.int y), y8, y9, y10, y11, y12, none] ∧ Wt f l a1 rows L zs H', ?_, ?_⟩
        · refine ⟨.ref f, rfl, f, l, 6, rfl, W7.feed, by decide, by decide, fun u H8 u0 u1 sb8 hf8 => ⟨rfl, _, rfl, ite2 (fun _ => ?_) (fun _ => ?_)⟩⟩
          · have W8 := W7.but sb8 hf8
            refine ⟨.ref f, rfl, 1, rfl, .int n, rfl, .int n, rfl, .ref f, rfl, 10, 9, rfl, rfl, ⟨by decide, by decide, by decide⟩, f, l, _, rfl, W8.feed, by decide, by decide, fun t H9 t0 t1 sb9 hf9 => ?_⟩
            have W9 := W8.but sb9 hf9
            refine ⟨_, _, rfl, rfl, by show 3 ≤ sizeLine; decide, fun o eo => ?_⟩
            have so := same_upd (o := .lst [.int (-1), .int n, .int ((n : Int) + t)]) eo
            refine ⟨f, l, o, _, rfl, W9.feed.same so, upd_same, W9.feed.ne eo, by show 0 < 3; decide, by show 3 < 1000; decide, fun v H10 hv sb10 hf10 => ?_⟩
            obtain ⟨z, rfl⟩ : ∃ z : Int, v = .int z := by
              simp only [List.mem_cons, List.not_mem_nil, or_false] at hv
              rcases hv with rfl | rfl | rfl <;> exact ⟨_, rfl⟩
            exact ⟨z, rfl, (W9.same so).but sb10 hf10⟩
          · exact ⟨y', rfl, W7.but sb8 hf8⟩
        · rintro σ H8 ⟨y, rfl, W8⟩
          clear W7
          -- here, good
          obtain ⟨as, ha, hR⟩ := W8.tab.refs
          refine ⟨.ref a1, rfl, .int n, rfl, n, rfl, sl_done ha fun c0 H9 s9 hc => ⟨_, _, rfl, ?_⟩⟩
          have hTc : TabAt H9 c0 (rows.take n) := by
            refine ((hR.same s9).take n).tab ?_
            rw [hc, List.map_take]
          have lt : (rows.take n).length = n := by
            rw [List.length_take]
            omega
          have W9 := W8.same s9
          clear W8 ha hR hc s9
          refine ⟨.ref L, rfl, L, rfl, ⟨_, SqL.of W9.lst⟩, ?_⟩
          refine for_list (K := K) (a := L) (xs := zs.map V.int) (fun j σ H' => ∃ (c : Addr) (g : Bool) (y10 : Option V), σ = [some (.ref a), some (.ref f), some (.int (0 + (i : Int))), some (.ref a1), some (.int n), some (.ref L), some (.int x), some (.int y), some (.ref c), some (.bl g), y10, y11, y12, none] ∧ Same H9 H' ∧
              (g = true → ∃ r, TabAt H' c r ∧ WdOk r n ∧ r.length = n ∧ walkR n (rows.take n) zs = walkR n r (zs.drop j)) ∧ (g = false → walkR n (rows.take n) zs = none))
            ⟨c0, true, y10, rfl, .refl _, fun _ => ⟨_, hTc, O.sq, lt, rfl⟩, fun z => Bool.noConfusion z⟩ (fun j σ H' _ ⟨_, _, _, _, s, _⟩ => SqL.of (s _ _ W9.lst)) ?_ ?_
          · rintro j v σ H10 hv ⟨c, g, y10, rfl, s10, hg1, hg0⟩
            obtain ⟨z, ez, rfl⟩ := int_at hv
            have edr : zs.drop j = z :: zs.drop (j + 1) := by
              have hi := (List.getElem?_eq_some_iff.mp ez).1
              rw [List.drop_eq_getElem_cons hi]
              congr 1
              exact Option.some.inj ((List.getElem?_eq_getElem hi).symm.trans ez)
            refine ⟨fun σ H' => ∃ g2 : Bool, σ = [some (.ref a), some (.ref f), some (.int (0 + (i : Int))), some (.ref a1), some (.int n), some (.ref L), some (.int x), some (.int y), some (.ref c), some (.bl g2), some (.int z), y11, y12, none] ∧ H10 = H' ∧ g2 = (g && decide (0 ≤ z ∧ z < (n : Int))), ?_, ?_⟩
            · refine ⟨.bl g, rfl, g, rfl, ?_⟩
              cases g with
              | false => exact ⟨false, rfl, rfl, rfl⟩
              | true =>
                refine ⟨.int z, rfl, _, _, rfl, rfl, _, rfl, ite2 (fun e => ?_) (fun e => ?_)⟩
                · have e := of_decide_eq_true e
                  refine ⟨.int n, rfl, _, _, rfl, rfl, _, rfl, rfl, ?_⟩
                  rw [Bool.true_and]
                  exact decide_eq_decide.mpr ⟨fun y => ⟨e, y⟩, fun y => y.2⟩
                · refine ⟨false, rfl, rfl, ?_⟩
                  rw [Bool.true_and]
                  exact (decide_eq_false fun y => e (decide_eq_true y.1)).symm
            · rintro σ H' ⟨g2, rfl, rfl, eg2⟩
              refine ⟨.bl g2, rfl, g2, rfl, ite2 (fun hg2 => ?_) (fun hg2 => ?_)⟩
              · have hgz : g = true ∧ 0 ≤ z ∧ z < (n : Int) := by
                  rw [hg2] at eg2
                  have := Bool.and_eq_true_iff.mp eg2.symm
                  exact ⟨this.1, of_decide_eq_true this.2⟩
                obtain ⟨r, hTr, Or, lr, ew⟩ := hg1 hgz.1
                rw [edr, walkR_cons] at ew
                obtain ⟨k, rfl⟩ : ∃ k : Nat, z = (k : Int) := ⟨z.toNat, by omega⟩
                have hk : k < n := by omega
                rw [Int.toNat_natCast] at ew
                refine ⟨.ref c, rfl, .int k, rfl, c, r, n, k, rfl, hTr, Or, hk, fun c2 H11 s11 hT11 => ?_⟩
                refine ⟨.ref c2, rfl, c2, turnT r n k, n, rfl, hT11, Or.n1, Or.n4, by rw [turnT_len]; omega, by rw [turnT_len]; omega, turnT_wide, fun m H12 s12 hm => ⟨_, _, rfl, rfl, ?_⟩⟩
                refine ⟨c2, decide (m ≤ 50), _, rfl, (s10.trans s11).trans s12, fun e => ?_, fun e => ?_⟩
                · have hb := hm.mp (of_decide_eq_true e)
                  have hf : fits r n k := (bigR_iff _).mp hb
                  rw [if_pos ⟨hgz.2.1, hgz.2.2, fitB_iff.mpr hf⟩] at ew
                  exact ⟨_, hT11.same s12, Or.turn hf, by rw [turnT_len]; exact lr, ew⟩
                · have hb : ¬ fits r n k := fun hf => (of_decide_eq_false e) (hm.mpr ((bigR_iff _).mpr hf))
                  rw [if_neg (fun z => hb (fitB_iff.mp z.2.2))] at ew
                  exact ew
              · have hg2 : g2 = false := by
                  cases g2 with
                  | false => rfl
                  | true => exact absurd rfl hg2
                refine ⟨c, g2, _, rfl, s10, fun e => absurd (hg2.symm.trans e) Bool.false_ne_true, fun _ => ?_⟩
                cases g with
                | false => exact hg0 rfl
                | true =>
                  obtain ⟨r, hTr, Or, lr, ew⟩ := hg1 rfl
                  rw [edr, walkR_cons] at ew
                  rw [hg2, Bool.true_and] at eg2
                  have hz := of_decide_eq_false eg2.symm
                  rw [if_neg (fun y => hz ⟨y.1, y.2.1⟩)] at ew
                  exact ew
          · rintro σ H10 ⟨c, g, y10, rfl, s10, hg1, hg0⟩
            rw [List.length_map, List.drop_length] at hg1
            have W10 := W9.same s10
            clear W9
            -- good
            refine ⟨fun σ H' => ∃ g2 : Bool, σ = [some (.ref a), some (.ref f), some (.int (0 + (i : Int))), some (.ref a1), some (.int n), some (.ref L), some (.int x), some (.int y), some (.ref c), some (.bl g2), y10, y11, y12, none] ∧ H10 = H' ∧ g2 = (g && decide (0 ≤ y ∧ y < (n : Int))), ?_, ?_⟩
            · refine ⟨.bl g, rfl, g, rfl, ?_⟩
              cases g with
              | false => exact ⟨false, rfl, rfl, rfl⟩
              | true =>
                refine ⟨.int y, rfl, _, _, rfl, rfl, _, rfl, ite2 (fun e => ?_) (fun e => ?_)⟩
                · have e := of_decide_eq_true e
                  refine ⟨.int n, rfl, _, _, rfl, rfl, _, rfl, rfl, ?_⟩
                  rw [Bool.true_and]
                  exact decide_eq_decide.mpr ⟨fun y => ⟨e, y⟩, fun y => y.2⟩
                · refine ⟨false, rfl, rfl, ?_⟩
                  rw [Bool.true_and]
                  exact (decide_eq_false fun y => e (decide_eq_true y.1)).symm
            · rintro σ H' ⟨g2, rfl, rfl, eg2⟩
              refine ⟨fun σ H' => σ = [some (.ref a), some (.ref f), some (.int (0 + (i : Int))), some (.ref a1), some (.int n), some (.ref L), some (.int x), some (.int y), some (.ref c), some (.bl g2), y10, some (.bl (holdsB rows n zs x y)), y12, none] ∧ H10 = H', ?_, ?_⟩
              · refine ⟨.bl g2, rfl, g2, rfl, ite2 (fun hg2 => ?_) (fun hg2 => ?_)⟩
                · have hgz : g = true ∧ 0 ≤ y ∧ y < (n : Int) := by
                    rw [hg2] at eg2
                    have := Bool.and_eq_true_iff.mp eg2.symm
                    exact ⟨this.1, of_decide_eq_true this.2⟩
                  obtain ⟨r, hTr, Or, lr, ew⟩ := hg1 hgz.1
                  have ew : walkR n (rows.take n) zs = some r := ew
                  have ez : holdsB rows n zs x y = decide (ent r x.toNat y.toNat * ent r y.toNat x.toNat ≤ -4) := by
                    unfold holdsB
                    rw [ew]
                    show (decide (0 ≤ x ∧ x < (n : Int)) && (decide (0 ≤ y ∧ y < (n : Int)) && _)) = _
                    rw [decide_eq_true hgz.2, decide_eq_true ⟨x0, x1'⟩, Bool.true_and, Bool.true_and]
                  obtain ⟨xi, rfl⟩ : ∃ xi : Nat, x = (xi : Int) := ⟨x.toNat, by omega⟩
                  obtain ⟨yj, rfl⟩ : ∃ yj : Nat, y = (yj : Int) := ⟨y.toNat, by omega⟩
                  rw [Int.toNat_natCast, Int.toNat_natCast] at ez
                  have hi : xi < n := by omega
                  have hj : yj < n := by omega
                  obtain ⟨bs, p, f1, f2, f3⟩ := hTr.row (i := xi) (by omega)
                  obtain ⟨bs', p', g1, g2', g3⟩ := hTr.row (i := yj) (by omega)
                  have eas : bs'.map V.ref = bs.map V.ref := HO.tup.inj (Option.some.inj (g1.symm.trans f1))
                  rw [eas] at g2'
                  have e1 := ent_get Or.wide (show xi < r.length by omega) hj
                  have e2 := ent_get Or.wide (show yj < r.length by omega) hi
                  have b1 := Or.bd (show xi < r.length by omega) hj
                  refine ⟨.ref c, rfl, .int xi, rfl, c, _, _, .ref p, rfl, rfl, SqT.of f1, atI_nat f2, .int yj, rfl, p, _, _, .int (ent r xi yj), rfl, rfl, SqT.of f3, atI_nat e1, ?_⟩
                  refine ⟨.ref c, rfl, .int yj, rfl, c, _, _, .ref p', rfl, rfl, SqT.of f1, atI_nat g2', .int xi, rfl, p', _, _, .int (ent r yj xi), rfl, rfl, SqT.of g3, atI_nat e2, ?_⟩
                  refine ⟨_, _, rfl, rfl, .inl ⟨by omega, by omega⟩, 4, rfl, _, _, rfl, rfl, ?_⟩
                  rw [ez]
                  exact ⟨rfl, rfl⟩
                · have hg2 : g2 = false := by
                    cases g2 with
                    | false => rfl
                    | true => exact absurd rfl hg2
                  have ez : holdsB rows n zs x y = false := by
                    unfold holdsB
                    cases g with
                    | false => rw [hg0 rfl]
                    | true =>
                      obtain ⟨r, hTr, Or, lr, ew⟩ := hg1 rfl
                      have ew : walkR n (rows.take n) zs = some r := ew
                      rw [ew]
                      rw [hg2, Bool.true_and] at eg2
                      show (_ && (decide (0 ≤ y ∧ y < (n : Int)) && _)) = _
                      rw [← eg2, Bool.false_and, Bool.and_false]
                  rw [ez, hg2]
                  exact ⟨rfl, rfl⟩
              · rintro σ H' ⟨rfl, rfl⟩
                -- handed
                refine ⟨.ref L, rfl, L, _, rfl, .inl ⟨SqL.of W10.lst, fun hd ehd => ?_⟩⟩
                have shd := same_upd (o := .tup (zs.map V.int)) ehd
                have W11 := W10.same shd
                have ehd' : (upd H10 hd (.tup (zs.map V.int))) hd = some (.tup (zs.map V.int)) := upd_same
                generalize (upd H10 hd (.tup (zs.map V.int))) = H11 at W11 ehd'
                refine ⟨.ref a1, rfl, .ref hd, rfl, .int x, rfl, .int y, rfl, a1, hd, rows, n, zs, x, y, rfl, W11.tab, O, ehd', fun H12 s12 => ?_⟩
                refine ⟨.bl (holdsB rows n zs x y), rfl, _, _, rfl, .inl ⟨rfl, .inr (.inr (.inl ⟨_, rfl⟩))⟩, fun H13 s13 => ⟨true, rfl, iteF ?_⟩⟩
                have W13 := W11.same (s12.trans s13)
                have eh13 := (s12.trans s13) _ _ ehd'
                refine ⟨.int x, rfl, .int y, rfl, .ref hd, rfl, .ref a1, rfl, a1, hd, rows, n, zs, y, x, rfl, W13.tab, O, eh13, fun H14 s14 => ?_⟩
                rw [holdsB_swap rows n zs x y]
                refine ⟨.bl (holdsB rows n zs x y), rfl, _, _, rfl, .inl ⟨rfl, .inr (.inr (.inl ⟨_, rfl⟩))⟩, fun H15 s15 => ⟨true, rfl, iteF ?_⟩⟩
                exact ⟨_, _, _, _, _, _, _, _, _, _, _, rfl, (W13.same (s14.trans s15)).feed⟩
    · rintro σ H2 ⟨y2, y3, y4, y5, y6, y7, y8, y9, y10, y11, y12, rfl, hf2⟩
      clear hf2 hf1
      refine ⟨by show 2 ≤ sizeLine; decide, fun t1 e1 => ⟨2, rfl, by show 2 ≤ sizeLine; decide, fun t2 e2 => ⟨by show 2 ≤ sizeLine; decide, fun t3 e3 => ⟨by show 3 ≤ sizeLine; decide, fun t4 e4 => ?_⟩⟩⟩⟩
      have s1 := same_upd (o := .tup [.int 0, .int 2]) e1
      have s2 := same_upd (o := .tup [.int (-2), .int 0]) e2
      have s3 := same_upd (o := .tup [.int 9, .int 9]) e3
      have s4 := same_upd (o := .tup [.ref t1, .ref t2, .ref t3]) e4
      have hT : TabAt (upd (upd (upd (upd H2 t1 (.tup [.int 0, .int 2])) t2 (.tup [.int (-2), .int 0])) t3 (.tup [.int 9, .int 9])) t4 (.tup [.ref t1, .ref t2, .ref t3])) t4 [[0, 2], [-2, 0], [9, 9]] := by
        refine ⟨[t1, t2, t3], upd_same, rfl, fun i r e => ?_⟩
        match i, e with
        | 0, e =>
          cases (Option.some.inj e)
          exact ⟨t1, rfl, s4 _ _ (s3 _ _ (s2 _ _ upd_same))⟩
        | 1, e =>
          cases (Option.some.inj e)
          exact ⟨t2, rfl, s4 _ _ (s3 _ _ upd_same)⟩
        | 2, e =>
          cases (Option.some.inj e)
          exact ⟨t3, rfl, s4 _ _ upd_same⟩
        | i + 3, e => simp at e
      generalize (upd (upd (upd (upd H2 t1 (.tup [.int 0, .int 2])) t2 (.tup [.int (-2), .int 0])) t3 (.tup [.int 9, .int 9])) t4 (.tup [.ref t1, .ref t2, .ref t3])) = H3 at hT
      clear s1 s2 s3 s4 e1 e2 e3 e4
      refine ⟨.ref t4, rfl, by show 0 ≤ sizeLine; decide, fun p ep => ?_⟩
      have sp := same_upd (o := .tup []) ep
      refine ⟨t4, p, _, 2, [], 0, 1, rfl, hT.same sp, last_ok, upd_same, fun H4 s4 => ?_⟩
      have hT4 := (hT.same sp).same s4
      refine ⟨.ref t4, rfl, by show 0 ≤ sizeLine; decide, fun p2 ep2 => ?_⟩
      have sp2 := same_upd (o := .tup []) ep2
      refine ⟨t4, p2, _, 2, [], 0, 0, rfl, hT4.same sp2, last_ok, upd_same, fun H5 s5 => ?_⟩
      have h1 : holdsB [[0, 2], [-2, 0], [9, 9]] 2 [] 0 1 = true := by decide
      have h2 : holdsB [[0, 2], [-2, 0], [9, 9]] 2 [] 0 0 = false := by decide
      rw [h1, h2]
      refine ⟨by show 2 ≤ sizeLine; decide, fun u eu => ⟨by show 2 ≤ sizeLine; decide, fun v ev => ?_⟩⟩
      refine ⟨.ref u, .ref v, rfl, .inr (.inr ⟨u, v, [.bl true, .bl false], [.bl true, .bl false], rfl, rfl, same_upd ev _ _ upd_same, upd_same, rfl, by show 2 ≤ 1000; decide, fun j x y g1 g2 => ?_⟩), fun H6 s6 => q _⟩
      rw [g1] at g2
      cases (Option.some.inj g2)
      match j, g1 with
      | 0, g1 =>
        cases (Option.some.inj g1)
        exact .inl ⟨rfl, .inr (.inr (.inl ⟨_, rfl⟩))⟩
      | 1, g1 =>
        cases (Option.some.inj g1)
        exact .inl ⟨rfl, .inr (.inr (.inl ⟨_, rfl⟩))⟩
      | j + 2, g1 => simp at g1

end
end Bw
set_option Elab.async false
set_option linter.all false
set_option maxRecDepth 100000
set_option maxHeartbeats 4000000
namespace Bw
open PySem PySem.Spec PyProof.Rows L2
theorem all_mk {l : PySem.W.OpenLaw} {w : World} {K : PySem.W.Frag} {h : Heap} {mg : Str → Option Value} {fa : Addr} (X : K.In h) (G : h.Ns mainGlobals mg) (hfa : mg "law" = some (.ref fa))
    {C_BudError : Addr}
    {C_Great : Addr}
    {od_is_number an_is_number : Option Addr} {sl_is_number : Array (Option Value)} {oc_is_number kV_is_number dc_is_number pm_is_number cd_is_number ct_is_number : Value} {f_is_number : Addr}
    {od_is_row an_is_row : Option Addr} {sl_is_row : Array (Option Value)} {oc_is_row kV_is_row dc_is_row pm_is_row cd_is_row ct_is_row : Value} {f_is_row : Addr}
    {od_check_form an_check_form : Option Addr} {sl_check_form : Array (Option Value)} {oc_check_form kV_check_form dc_check_form pm_check_form cd_check_form ct_check_form : Value} {f_check_form : Addr}
    {od_check_table an_check_table : Option Addr} {sl_check_table : Array (Option Value)} {oc_check_table kV_check_table dc_check_table pm_check_table cd_check_table ct_check_table : Value} {f_check_table : Addr}
    {od_bud_count an_bud_count : Option Addr} {sl_bud_count : Array (Option Value)} {oc_bud_count kV_bud_count dc_bud_count pm_bud_count cd_bud_count ct_bud_count : Value} {f_bud_count : Addr}
    {od_unlike_rows an_unlike_rows : Option Addr} {sl_unlike_rows : Array (Option Value)} {oc_unlike_rows kV_unlike_rows dc_unlike_rows pm_unlike_rows cd_unlike_rows ct_unlike_rows : Value} {f_unlike_rows : Addr}
    {od_pair_bars an_pair_bars : Option Addr} {sl_pair_bars : Array (Option Value)} {oc_pair_bars kV_pair_bars dc_pair_bars pm_pair_bars cd_pair_bars ct_pair_bars : Value} {f_pair_bars : Addr}
    {od_ring_bars an_ring_bars : Option Addr} {sl_ring_bars : Array (Option Value)} {oc_ring_bars kV_ring_bars dc_ring_bars pm_ring_bars cd_ring_bars ct_ring_bars : Value} {f_ring_bars : Addr}
    {od_barred an_barred : Option Addr} {sl_barred : Array (Option Value)} {oc_barred kV_barred dc_barred pm_barred cd_barred ct_barred : Value} {f_barred : Addr}
    {od_turned_row an_turned_row : Option Addr} {sl_turned_row : Array (Option Value)} {oc_turned_row kV_turned_row dc_turned_row pm_turned_row cd_turned_row ct_turned_row : Value} {f_turned_row : Addr}
    {od_turned_table an_turned_table : Option Addr} {sl_turned_table : Array (Option Value)} {oc_turned_table kV_turned_table dc_turned_table pm_turned_table cd_turned_table ct_turned_table : Value} {f_turned_table : Addr}
    {od_is_bud an_is_bud : Option Addr} {sl_is_bud : Array (Option Value)} {oc_is_bud kV_is_bud dc_is_bud pm_is_bud cd_is_bud ct_is_bud : Value} {f_is_bud : Addr}
    {od_rows_behind an_rows_behind : Option Addr} {sl_rows_behind : Array (Option Value)} {oc_rows_behind kV_rows_behind dc_rows_behind pm_rows_behind cd_rows_behind ct_rows_behind : Value} {f_rows_behind : Addr}
    {od_endless_holds an_endless_holds : Option Addr} {sl_endless_holds : Array (Option Value)} {oc_endless_holds kV_endless_holds dc_endless_holds pm_endless_holds cd_endless_holds ct_endless_holds : Value} {f_endless_holds : Addr}
    {od_law_feed an_law_feed : Option Addr} {sl_law_feed : Array (Option Value)} {oc_law_feed kV_law_feed dc_law_feed pm_law_feed cd_law_feed ct_law_feed : Value} {f_law_feed : Addr}
    {od_law_draw an_law_draw : Option Addr} {sl_law_draw : Array (Option Value)} {oc_law_draw kV_law_draw dc_law_draw pm_law_draw cd_law_draw ct_law_draw : Value} {f_law_draw : Addr}
    {od_law_pick an_law_pick : Option Addr} {sl_law_pick : Array (Option Value)} {oc_law_pick kV_law_pick dc_law_pick pm_law_pick cd_law_pick ct_law_pick : Value} {f_law_pick : Addr}
    {od_law_same an_law_same : Option Addr} {sl_law_same : Array (Option Value)} {oc_law_same kV_law_same dc_law_same pm_law_same cd_law_same ct_law_same : Value} {f_law_same : Addr}
    {od_law_gcd an_law_gcd : Option Addr} {sl_law_gcd : Array (Option Value)} {oc_law_gcd kV_law_gcd dc_law_gcd pm_law_gcd cd_law_gcd ct_law_gcd : Value} {f_law_gcd : Addr}
    {od_law_even an_law_even : Option Addr} {sl_law_even : Array (Option Value)} {oc_law_even kV_law_even dc_law_even pm_law_even cd_law_even ct_law_even : Value} {f_law_even : Addr}
    {od_law_roots an_law_roots : Option Addr} {sl_law_roots : Array (Option Value)} {oc_law_roots kV_law_roots dc_law_roots pm_law_roots cd_law_roots ct_law_roots : Value} {f_law_roots : Addr}
    {od_law_table an_law_table : Option Addr} {sl_law_table : Array (Option Value)} {oc_law_table kV_law_table dc_law_table pm_law_table cd_law_table ct_law_table : Value} {f_law_table : Addr}
    {od_law_turn an_law_turn : Option Addr} {sl_law_turn : Array (Option Value)} {oc_law_turn kV_law_turn dc_law_turn pm_law_turn cd_law_turn ct_law_turn : Value} {f_law_turn : Addr}
    {od_law_wide_ties an_law_wide_ties : Option Addr} {sl_law_wide_ties : Array (Option Value)} {oc_law_wide_ties kV_law_wide_ties dc_law_wide_ties pm_law_wide_ties cd_law_wide_ties ct_law_wide_ties : Value} {f_law_wide_ties : Addr}
    {od_law_places an_law_places : Option Addr} {sl_law_places : Array (Option Value)} {oc_law_places kV_law_places dc_law_places pm_law_places cd_law_places ct_law_places : Value} {f_law_places : Addr}
    {od_law an_law : Option Addr} {sl_law : Array (Option Value)} {oc_law kV_law dc_law pm_law cd_law ct_law : Value} {f_law : Addr}
    {od_bud_init an_bud_init : Option Addr} {sl_bud_init : Array (Option Value)} {oc_bud_init kV_bud_init dc_bud_init pm_bud_init cd_bud_init ct_bud_init : Value} {f_bud_init : Addr}
    {od_great_init an_great_init : Option Addr} {sl_great_init : Array (Option Value)} {oc_great_init kV_great_init dc_great_init pm_great_init cd_great_init ct_great_init : Value} {f_great_init : Addr}
    {t_MOST_TIE : Tok}
    {t_MOST_BUDS : Tok}
    {t_MOST_ROOTS : Tok}
    {t_ENDLESS_TIES : Tok}
    {nm q : Str} {N : Addr} {bs : List Value} {sn : List Str} {sub : List Value} {ab : Bool} {col : Option Bool} {dd : Option Addr} {m0 m1 m2 m3 m5 : Option Value}
    (a_BudError : PySem.W.nsIn K mainGlobals "BudError" = some (some (.ref C_BudError)))
    (a_Great : PySem.W.nsIn K mainGlobals "Great" = some (some (.ref C_Great)))
    (a_is_number : PySem.W.nsIn K mainGlobals "is_number" = some (some (.ref f_is_number)))
    (l_is_number : K.lookup f_is_number = some ⟨oc_is_number, od_is_number, .func (PySem.W.fnOf "is_number" "is_number" (defArgs s_is_number) (defBody s_is_number) (defScope s_is_number) .none kV_is_number dc_is_number pm_is_number an_is_number cd_is_number ct_is_number), sl_is_number⟩)
    (c_is_number : PySem.W.codeIn K cd_is_number "is_number" = true)
    (k_is_number : PySem.W.keepIn K (.ref f_is_number) = true)
    (a_is_row : PySem.W.nsIn K mainGlobals "is_row" = some (some (.ref f_is_row)))
    (l_is_row : K.lookup f_is_row = some ⟨oc_is_row, od_is_row, .func (PySem.W.fnOf "is_row" "is_row" (defArgs s_is_row) (defBody s_is_row) (defScope s_is_row) .none kV_is_row dc_is_row pm_is_row an_is_row cd_is_row ct_is_row), sl_is_row⟩)
    (c_is_row : PySem.W.codeIn K cd_is_row "is_row" = true)
    (k_is_row : PySem.W.keepIn K (.ref f_is_row) = true)
    (a_check_form : PySem.W.nsIn K mainGlobals "check_form" = some (some (.ref f_check_form)))
    (l_check_form : K.lookup f_check_form = some ⟨oc_check_form, od_check_form, .func (PySem.W.fnOf "check_form" "check_form" (defArgs s_check_form) (defBody s_check_form) (defScope s_check_form) .none kV_check_form dc_check_form pm_check_form an_check_form cd_check_form ct_check_form), sl_check_form⟩)
    (c_check_form : PySem.W.codeIn K cd_check_form "check_form" = true)
    (k_check_form : PySem.W.keepIn K (.ref f_check_form) = true)
    (a_check_table : PySem.W.nsIn K mainGlobals "check_table" = some (some (.ref f_check_table)))
    (l_check_table : K.lookup f_check_table = some ⟨oc_check_table, od_check_table, .func (PySem.W.fnOf "check_table" "check_table" (defArgs s_check_table) (defBody s_check_table) (defScope s_check_table) .none kV_check_table dc_check_table pm_check_table an_check_table cd_check_table ct_check_table), sl_check_table⟩)
    (c_check_table : PySem.W.codeIn K cd_check_table "check_table" = true)
    (k_check_table : PySem.W.keepIn K (.ref f_check_table) = true)
    (a_bud_count : PySem.W.nsIn K mainGlobals "bud_count" = some (some (.ref f_bud_count)))
    (l_bud_count : K.lookup f_bud_count = some ⟨oc_bud_count, od_bud_count, .func (PySem.W.fnOf "bud_count" "bud_count" (defArgs s_bud_count) (defBody s_bud_count) (defScope s_bud_count) .none kV_bud_count dc_bud_count pm_bud_count an_bud_count cd_bud_count ct_bud_count), sl_bud_count⟩)
    (c_bud_count : PySem.W.codeIn K cd_bud_count "bud_count" = true)
    (k_bud_count : PySem.W.keepIn K (.ref f_bud_count) = true)
    (a_unlike_rows : PySem.W.nsIn K mainGlobals "unlike_rows" = some (some (.ref f_unlike_rows)))
    (l_unlike_rows : K.lookup f_unlike_rows = some ⟨oc_unlike_rows, od_unlike_rows, .func (PySem.W.fnOf "unlike_rows" "unlike_rows" (defArgs s_unlike_rows) (defBody s_unlike_rows) (defScope s_unlike_rows) .none kV_unlike_rows dc_unlike_rows pm_unlike_rows an_unlike_rows cd_unlike_rows ct_unlike_rows), sl_unlike_rows⟩)
    (c_unlike_rows : PySem.W.codeIn K cd_unlike_rows "unlike_rows" = true)
    (k_unlike_rows : PySem.W.keepIn K (.ref f_unlike_rows) = true)
    (a_pair_bars : PySem.W.nsIn K mainGlobals "pair_bars" = some (some (.ref f_pair_bars)))
    (l_pair_bars : K.lookup f_pair_bars = some ⟨oc_pair_bars, od_pair_bars, .func (PySem.W.fnOf "pair_bars" "pair_bars" (defArgs s_pair_bars) (defBody s_pair_bars) (defScope s_pair_bars) .none kV_pair_bars dc_pair_bars pm_pair_bars an_pair_bars cd_pair_bars ct_pair_bars), sl_pair_bars⟩)
    (c_pair_bars : PySem.W.codeIn K cd_pair_bars "pair_bars" = true)
    (k_pair_bars : PySem.W.keepIn K (.ref f_pair_bars) = true)
    (a_ring_bars : PySem.W.nsIn K mainGlobals "ring_bars" = some (some (.ref f_ring_bars)))
    (l_ring_bars : K.lookup f_ring_bars = some ⟨oc_ring_bars, od_ring_bars, .func (PySem.W.fnOf "ring_bars" "ring_bars" (defArgs s_ring_bars) (defBody s_ring_bars) (defScope s_ring_bars) .none kV_ring_bars dc_ring_bars pm_ring_bars an_ring_bars cd_ring_bars ct_ring_bars), sl_ring_bars⟩)
    (c_ring_bars : PySem.W.codeIn K cd_ring_bars "ring_bars" = true)
    (k_ring_bars : PySem.W.keepIn K (.ref f_ring_bars) = true)
    (a_barred : PySem.W.nsIn K mainGlobals "barred" = some (some (.ref f_barred)))
    (l_barred : K.lookup f_barred = some ⟨oc_barred, od_barred, .func (PySem.W.fnOf "barred" "barred" (defArgs s_barred) (defBody s_barred) (defScope s_barred) .none kV_barred dc_barred pm_barred an_barred cd_barred ct_barred), sl_barred⟩)
    (c_barred : PySem.W.codeIn K cd_barred "barred" = true)
    (k_barred : PySem.W.keepIn K (.ref f_barred) = true)
    (a_turned_row : PySem.W.nsIn K mainGlobals "turned_row" = some (some (.ref f_turned_row)))
    (l_turned_row : K.lookup f_turned_row = some ⟨oc_turned_row, od_turned_row, .func (PySem.W.fnOf "turned_row" "turned_row" (defArgs s_turned_row) (defBody s_turned_row) (defScope s_turned_row) .none kV_turned_row dc_turned_row pm_turned_row an_turned_row cd_turned_row ct_turned_row), sl_turned_row⟩)
    (c_turned_row : PySem.W.codeIn K cd_turned_row "turned_row" = true)
    (k_turned_row : PySem.W.keepIn K (.ref f_turned_row) = true)
    (a_turned_table : PySem.W.nsIn K mainGlobals "turned_table" = some (some (.ref f_turned_table)))
    (l_turned_table : K.lookup f_turned_table = some ⟨oc_turned_table, od_turned_table, .func (PySem.W.fnOf "turned_table" "turned_table" (defArgs s_turned_table) (defBody s_turned_table) (defScope s_turned_table) .none kV_turned_table dc_turned_table pm_turned_table an_turned_table cd_turned_table ct_turned_table), sl_turned_table⟩)
    (c_turned_table : PySem.W.codeIn K cd_turned_table "turned_table" = true)
    (k_turned_table : PySem.W.keepIn K (.ref f_turned_table) = true)
    (a_is_bud : PySem.W.nsIn K mainGlobals "is_bud" = some (some (.ref f_is_bud)))
    (l_is_bud : K.lookup f_is_bud = some ⟨oc_is_bud, od_is_bud, .func (PySem.W.fnOf "is_bud" "is_bud" (defArgs s_is_bud) (defBody s_is_bud) (defScope s_is_bud) .none kV_is_bud dc_is_bud pm_is_bud an_is_bud cd_is_bud ct_is_bud), sl_is_bud⟩)
    (c_is_bud : PySem.W.codeIn K cd_is_bud "is_bud" = true)
    (k_is_bud : PySem.W.keepIn K (.ref f_is_bud) = true)
    (a_rows_behind : PySem.W.nsIn K mainGlobals "rows_behind" = some (some (.ref f_rows_behind)))
    (l_rows_behind : K.lookup f_rows_behind = some ⟨oc_rows_behind, od_rows_behind, .func (PySem.W.fnOf "rows_behind" "rows_behind" (defArgs s_rows_behind) (defBody s_rows_behind) (defScope s_rows_behind) .none kV_rows_behind dc_rows_behind pm_rows_behind an_rows_behind cd_rows_behind ct_rows_behind), sl_rows_behind⟩)
    (c_rows_behind : PySem.W.codeIn K cd_rows_behind "rows_behind" = true)
    (k_rows_behind : PySem.W.keepIn K (.ref f_rows_behind) = true)
    (a_endless_holds : PySem.W.nsIn K mainGlobals "endless_holds" = some (some (.ref f_endless_holds)))
    (l_endless_holds : K.lookup f_endless_holds = some ⟨oc_endless_holds, od_endless_holds, .func (PySem.W.fnOf "endless_holds" "endless_holds" (defArgs s_endless_holds) (defBody s_endless_holds) (defScope s_endless_holds) .none kV_endless_holds dc_endless_holds pm_endless_holds an_endless_holds cd_endless_holds ct_endless_holds), sl_endless_holds⟩)
    (c_endless_holds : PySem.W.codeIn K cd_endless_holds "endless_holds" = true)
    (k_endless_holds : PySem.W.keepIn K (.ref f_endless_holds) = true)
    (a_law_feed : PySem.W.nsIn K mainGlobals "_law_feed" = some (some (.ref f_law_feed)))
    (l_law_feed : K.lookup f_law_feed = some ⟨oc_law_feed, od_law_feed, .func (PySem.W.fnOf "_law_feed" "_law_feed" (defArgs s_law_feed) (defBody s_law_feed) (defScope s_law_feed) .none kV_law_feed dc_law_feed pm_law_feed an_law_feed cd_law_feed ct_law_feed), sl_law_feed⟩)
    (c_law_feed : PySem.W.codeIn K cd_law_feed "_law_feed" = true)
    (k_law_feed : PySem.W.keepIn K (.ref f_law_feed) = true)
    (a_law_draw : PySem.W.nsIn K mainGlobals "_law_draw" = some (some (.ref f_law_draw)))
    (l_law_draw : K.lookup f_law_draw = some ⟨oc_law_draw, od_law_draw, .func (PySem.W.fnOf "_law_draw" "_law_draw" (defArgs s_law_draw) (defBody s_law_draw) (defScope s_law_draw) .none kV_law_draw dc_law_draw pm_law_draw an_law_draw cd_law_draw ct_law_draw), sl_law_draw⟩)
    (c_law_draw : PySem.W.codeIn K cd_law_draw "_law_draw" = true)
    (k_law_draw : PySem.W.keepIn K (.ref f_law_draw) = true)
    (a_law_pick : PySem.W.nsIn K mainGlobals "_law_pick" = some (some (.ref f_law_pick)))
    (l_law_pick : K.lookup f_law_pick = some ⟨oc_law_pick, od_law_pick, .func (PySem.W.fnOf "_law_pick" "_law_pick" (defArgs s_law_pick) (defBody s_law_pick) (defScope s_law_pick) .none kV_law_pick dc_law_pick pm_law_pick an_law_pick cd_law_pick ct_law_pick), sl_law_pick⟩)
    (c_law_pick : PySem.W.codeIn K cd_law_pick "_law_pick" = true)
    (k_law_pick : PySem.W.keepIn K (.ref f_law_pick) = true)
    (a_law_same : PySem.W.nsIn K mainGlobals "_law_same" = some (some (.ref f_law_same)))
    (l_law_same : K.lookup f_law_same = some ⟨oc_law_same, od_law_same, .func (PySem.W.fnOf "_law_same" "_law_same" (defArgs s_law_same) (defBody s_law_same) (defScope s_law_same) .none kV_law_same dc_law_same pm_law_same an_law_same cd_law_same ct_law_same), sl_law_same⟩)
    (c_law_same : PySem.W.codeIn K cd_law_same "_law_same" = true)
    (k_law_same : PySem.W.keepIn K (.ref f_law_same) = true)
    (a_law_gcd : PySem.W.nsIn K mainGlobals "_law_gcd" = some (some (.ref f_law_gcd)))
    (l_law_gcd : K.lookup f_law_gcd = some ⟨oc_law_gcd, od_law_gcd, .func (PySem.W.fnOf "_law_gcd" "_law_gcd" (defArgs s_law_gcd) (defBody s_law_gcd) (defScope s_law_gcd) .none kV_law_gcd dc_law_gcd pm_law_gcd an_law_gcd cd_law_gcd ct_law_gcd), sl_law_gcd⟩)
    (c_law_gcd : PySem.W.codeIn K cd_law_gcd "_law_gcd" = true)
    (k_law_gcd : PySem.W.keepIn K (.ref f_law_gcd) = true)
    (a_law_even : PySem.W.nsIn K mainGlobals "_law_even" = some (some (.ref f_law_even)))
    (l_law_even : K.lookup f_law_even = some ⟨oc_law_even, od_law_even, .func (PySem.W.fnOf "_law_even" "_law_even" (defArgs s_law_even) (defBody s_law_even) (defScope s_law_even) .none kV_law_even dc_law_even pm_law_even an_law_even cd_law_even ct_law_even), sl_law_even⟩)
    (c_law_even : PySem.W.codeIn K cd_law_even "_law_even" = true)
    (k_law_even : PySem.W.keepIn K (.ref f_law_even) = true)
    (a_law_roots : PySem.W.nsIn K mainGlobals "_law_roots" = some (some (.ref f_law_roots)))
    (l_law_roots : K.lookup f_law_roots = some ⟨oc_law_roots, od_law_roots, .func (PySem.W.fnOf "_law_roots" "_law_roots" (defArgs s_law_roots) (defBody s_law_roots) (defScope s_law_roots) .none kV_law_roots dc_law_roots pm_law_roots an_law_roots cd_law_roots ct_law_roots), sl_law_roots⟩)
    (c_law_roots : PySem.W.codeIn K cd_law_roots "_law_roots" = true)
    (k_law_roots : PySem.W.keepIn K (.ref f_law_roots) = true)
    (a_law_table : PySem.W.nsIn K mainGlobals "_law_table" = some (some (.ref f_law_table)))
    (l_law_table : K.lookup f_law_table = some ⟨oc_law_table, od_law_table, .func (PySem.W.fnOf "_law_table" "_law_table" (defArgs s_law_table) (defBody s_law_table) (defScope s_law_table) .none kV_law_table dc_law_table pm_law_table an_law_table cd_law_table ct_law_table), sl_law_table⟩)
    (c_law_table : PySem.W.codeIn K cd_law_table "_law_table" = true)
    (k_law_table : PySem.W.keepIn K (.ref f_law_table) = true)
    (a_law_turn : PySem.W.nsIn K mainGlobals "_law_turn" = some (some (.ref f_law_turn)))
    (l_law_turn : K.lookup f_law_turn = some ⟨oc_law_turn, od_law_turn, .func (PySem.W.fnOf "_law_turn" "_law_turn" (defArgs s_law_turn) (defBody s_law_turn) (defScope s_law_turn) .none kV_law_turn dc_law_turn pm_law_turn an_law_turn cd_law_turn ct_law_turn), sl_law_turn⟩)
    (c_law_turn : PySem.W.codeIn K cd_law_turn "_law_turn" = true)
    (k_law_turn : PySem.W.keepIn K (.ref f_law_turn) = true)
    (a_law_wide_ties : PySem.W.nsIn K mainGlobals "_law_wide_ties" = some (some (.ref f_law_wide_ties)))
    (l_law_wide_ties : K.lookup f_law_wide_ties = some ⟨oc_law_wide_ties, od_law_wide_ties, .func (PySem.W.fnOf "_law_wide_ties" "_law_wide_ties" (defArgs s_law_wide_ties) (defBody s_law_wide_ties) (defScope s_law_wide_ties) .none kV_law_wide_ties dc_law_wide_ties pm_law_wide_ties an_law_wide_ties cd_law_wide_ties ct_law_wide_ties), sl_law_wide_ties⟩)
    (c_law_wide_ties : PySem.W.codeIn K cd_law_wide_ties "_law_wide_ties" = true)
    (k_law_wide_ties : PySem.W.keepIn K (.ref f_law_wide_ties) = true)
    (a_law_places : PySem.W.nsIn K mainGlobals "_law_places" = some (some (.ref f_law_places)))
    (l_law_places : K.lookup f_law_places = some ⟨oc_law_places, od_law_places, .func (PySem.W.fnOf "_law_places" "_law_places" (defArgs s_law_places) (defBody s_law_places) (defScope s_law_places) .none kV_law_places dc_law_places pm_law_places an_law_places cd_law_places ct_law_places), sl_law_places⟩)
    (c_law_places : PySem.W.codeIn K cd_law_places "_law_places" = true)
    (k_law_places : PySem.W.keepIn K (.ref f_law_places) = true)
    (a_law : PySem.W.nsIn K mainGlobals "law" = some (some (.ref f_law)))
    (l_law : K.lookup f_law = some ⟨oc_law, od_law, .func (PySem.W.fnOf "law" "law" (defArgs s_law) (defBody s_law) (defScope s_law) .none kV_law dc_law pm_law an_law cd_law ct_law), sl_law⟩)
    (c_law : PySem.W.codeIn K cd_law "law" = true)
    (k_law : PySem.W.keepIn K (.ref f_law) = true)
    (a_bud_init : PySem.W.findIn K (.ref C_BudError) "__init__" = some (some (.ref f_bud_init)))
    (l_bud_init : K.lookup f_bud_init = some ⟨oc_bud_init, od_bud_init, .func (PySem.W.fnOf "__init__" "BudError.__init__" (defArgs s_bud_init) (defBody s_bud_init) (defScope s_bud_init) .none kV_bud_init dc_bud_init pm_bud_init an_bud_init cd_bud_init ct_bud_init), sl_bud_init⟩)
    (c_bud_init : PySem.W.codeIn K cd_bud_init "BudError.__init__" = true)
    (k_bud_init : PySem.W.keepIn K (.ref f_bud_init) = true)
    (a_great_init : PySem.W.findIn K (.ref C_Great) "__init__" = some (some (.ref f_great_init)))
    (l_great_init : K.lookup f_great_init = some ⟨oc_great_init, od_great_init, .func (PySem.W.fnOf "__init__" "Great.__init__" (defArgs s_great_init) (defBody s_great_init) (defScope s_great_init) .none kV_great_init dc_great_init pm_great_init an_great_init cd_great_init ct_great_init), sl_great_init⟩)
    (c_great_init : PySem.W.codeIn K cd_great_init "Great.__init__" = true)
    (k_great_init : PySem.W.keepIn K (.ref f_great_init) = true)
    (z_len : PySem.W.nsIn K mainGlobals "len" = some none)
    (z_range : PySem.W.nsIn K mainGlobals "range" = some none)
    (z_zip : PySem.W.nsIn K mainGlobals "zip" = some none)
    (z_abs : PySem.W.nsIn K mainGlobals "abs" = some none)
    (z_all : PySem.W.nsIn K mainGlobals "all" = some none)
    (z_any : PySem.W.nsIn K mainGlobals "any" = some none)
    (z_max : PySem.W.nsIn K mainGlobals "max" = some none)
    (z_min : PySem.W.nsIn K mainGlobals "min" = some none)
    (z_sorted : PySem.W.nsIn K mainGlobals "sorted" = some none)
    (z_isinstance : PySem.W.nsIn K mainGlobals "isinstance" = some none)
    (z_int : PySem.W.nsIn K mainGlobals "int" = some none)
    (z_bool : PySem.W.nsIn K mainGlobals "bool" = some none)
    (z_tuple : PySem.W.nsIn K mainGlobals "tuple" = some none)
    (z_list : PySem.W.nsIn K mainGlobals "list" = some none)
    (z_dict : PySem.W.nsIn K mainGlobals "dict" = some none)
    (z_str : PySem.W.nsIn K mainGlobals "str" = some none)
    (z_ValueError : PySem.W.nsIn K mainGlobals "ValueError" = some none)
    (i_MOST_TIE : PySem.W.nsIn K mainGlobals "MOST_TIE" = some (some (.int 50 t_MOST_TIE)))
    (i_MOST_BUDS : PySem.W.nsIn K mainGlobals "MOST_BUDS" = some (some (.int 4 t_MOST_BUDS)))
    (i_MOST_ROOTS : PySem.W.nsIn K mainGlobals "MOST_ROOTS" = some (some (.int 4 t_MOST_ROOTS)))
    (i_ENDLESS_TIES : PySem.W.nsIn K mainGlobals "ENDLESS_TIES" = some (some (.int (-4) t_ENDLESS_TIES)))
    (sg : PySem.W.specialIn K (.ref C_BudError) "__getattribute__" = some (some (.builtin "type.__getattribute__")))
    (tyB : PySem.W.typeIn K (.ref C_BudError) = some (.type "type"))
    (rdB : PySem.W.readsIn K C_BudError (.type "type") = true)
    (fcB : PySem.W.findCls K (.ref C_BudError) (.type "type") "__init__" = some (.val (.ref f_bud_init)))
    (vv : PySem.W.findCls K (.type "ValueError") (.type "type") "__init__" = some (.val (.builtin "ValueError.__init__")))
    (xL : K.lookup C_Great = some (excClassObj nm q C_Great N bs [.ref C_BudError, .type "ValueError", .type "Exception", .type "BaseException", .type "object"] true sn sub ab col dd m0 m1 m2 m3 m5 "ValueError.__new__"))
    (sa : PySem.W.findIn K (.ref C_Great) "__setattr__" = some (some (.builtin "object.__setattr__")))
    (nw : PySem.W.findIn K (.ref C_Great) "word" = some none)
    (tI : PySem.W.typeIn K (.ref f_great_init) = some (.type "function"))
    (kC : PySem.W.keepIn K (.ref C_Great) = true)
    (eC : PySem.W.subIn K (.ref C_Great) (.type "BaseException") = some true)
    (tC : PySem.W.typeIn K (.ref C_Great) = some (.type "type"))
    (hC : PySem.W.hasDictIn K C_Great = true)
    (sC : PySem.W.subIn K (.ref C_Great) (.ref C_Great) = some true)
    : ∃ fd : FuncData, (∀ (s : Shared) (v : Value), BindsTo s fd ⟨[v], []⟩ [("_law_script", v)]) ∧ ∀ base : Heap, K.In base → base.Ns mainGlobals mg → FnOk l.prog w K mg base CX0 7 fa fd ["_law_script"] (spLaw K) := by
  have e := hfa.symm.trans (PySem.W.mg_of X G a_law)
  cases e
  have T : Tx mg := { len := PySem.W.mg_none_of X G z_len, range := PySem.W.mg_none_of X G z_range, zip := PySem.W.mg_none_of X G z_zip, abs := PySem.W.mg_none_of X G z_abs, all := PySem.W.mg_none_of X G z_all, any := PySem.W.mg_none_of X G z_any, max := PySem.W.mg_none_of X G z_max, min := PySem.W.mg_none_of X G z_min, sorted := PySem.W.mg_none_of X G z_sorted, isinstance := PySem.W.mg_none_of X G z_isinstance, int := PySem.W.mg_none_of X G z_int, bool := PySem.W.mg_none_of X G z_bool, tuple := PySem.W.mg_none_of X G z_tuple, list := PySem.W.mg_none_of X G z_list, dict := PySem.W.mg_none_of X G z_dict, str := PySem.W.mg_none_of X G z_str, ValueError := PySem.W.mg_none_of X G z_ValueError, MOST_TIE := ⟨_, PySem.W.mg_of X G i_MOST_TIE⟩, MOST_BUDS := ⟨_, PySem.W.mg_of X G i_MOST_BUDS⟩, MOST_ROOTS := ⟨_, PySem.W.mg_of X G i_MOST_ROOTS⟩, ENDLESS_TIES := ⟨_, PySem.W.mg_of X G i_ENDLESS_TIES⟩ }
  have F_is_number := fun_mk (st := s_is_number) l_is_number c_is_number k_is_number
  have b_is_number := F_is_number.binds (ps := ["thing"]) fun _ _ _ _ _ _ us hl => match us, hl with | [_], _ => rfl
  have F_is_row := fun_mk (st := s_is_row) l_is_row c_is_row k_is_row
  have b_is_row := F_is_row.binds (ps := ["row", "many"]) fun _ _ _ _ _ _ us hl => match us, hl with | [_, _], _ => rfl
  have F_check_form := fun_mk (st := s_check_form) l_check_form c_check_form k_check_form
  have b_check_form := F_check_form.binds (ps := ["table"]) fun _ _ _ _ _ _ us hl => match us, hl with | [_], _ => rfl
  have F_check_table := fun_mk (st := s_check_table) l_check_table c_check_table k_check_table
  have b_check_table := F_check_table.binds (ps := ["table"]) fun _ _ _ _ _ _ us hl => match us, hl with | [_], _ => rfl
  have F_bud_count := fun_mk (st := s_bud_count) l_bud_count c_bud_count k_bud_count
  have b_bud_count := F_bud_count.binds (ps := ["table"]) fun _ _ _ _ _ _ us hl => match us, hl with | [_], _ => rfl
  have F_unlike_rows := fun_mk (st := s_unlike_rows) l_unlike_rows c_unlike_rows k_unlike_rows
  have b_unlike_rows := F_unlike_rows.binds (ps := ["many", "length"]) fun _ _ _ _ _ _ us hl => match us, hl with | [_, _], _ => rfl
  have F_pair_bars := fun_mk (st := s_pair_bars) l_pair_bars c_pair_bars k_pair_bars
  have b_pair_bars := F_pair_bars.binds (ps := ["table", "i", "j"]) fun _ _ _ _ _ _ us hl => match us, hl with | [_, _, _], _ => rfl
  have F_ring_bars := fun_mk (st := s_ring_bars) l_ring_bars c_ring_bars k_ring_bars
  have b_ring_bars := F_ring_bars.binds (ps := ["table", "ring"]) fun _ _ _ _ _ _ us hl => match us, hl with | [_, _], _ => rfl
  have F_barred := fun_mk (st := s_barred) l_barred c_barred k_barred
  have b_barred := F_barred.binds (ps := ["table"]) fun _ _ _ _ _ _ us hl => match us, hl with | [_], _ => rfl
  have F_turned_row := fun_mk (st := s_turned_row) l_turned_row c_turned_row k_turned_row
  have b_turned_row := F_turned_row.binds (ps := ["row", "up", "down", "place"]) fun _ _ _ _ _ _ us hl => match us, hl with | [_, _, _, _], _ => rfl
  have F_turned_table := fun_mk (st := s_turned_table) l_turned_table c_turned_table k_turned_table
  have b_turned_table := F_turned_table.binds (ps := ["table", "place"]) fun _ _ _ _ _ _ us hl => match us, hl with | [_, _], _ => rfl
  have F_is_bud := fun_mk (st := s_is_bud) l_is_bud c_is_bud k_is_bud
  have b_is_bud := F_is_bud.binds (ps := ["rows", "number"]) fun _ _ _ _ _ _ us hl => match us, hl with | [_, _], _ => rfl
  have F_rows_behind := fun_mk (st := s_rows_behind) l_rows_behind c_rows_behind k_rows_behind
  have b_rows_behind := F_rows_behind.binds (ps := ["rows", "walk"]) fun _ _ _ _ _ _ us hl => match us, hl with | [_, _], _ => rfl
  have F_endless_holds := fun_mk (st := s_endless_holds) l_endless_holds c_endless_holds k_endless_holds
  have b_endless_holds := F_endless_holds.binds (ps := ["table", "walk", "one", "other"]) fun _ _ _ _ _ _ us hl => match us, hl with | [_, _, _, _], _ => rfl
  have F_law_feed := fun_mk (st := s_law_feed) l_law_feed c_law_feed k_law_feed
  have b_law_feed := F_law_feed.binds (ps := ["_law_script"]) fun _ _ _ _ _ _ us hl => match us, hl with | [_], _ => rfl
  have F_law_draw := fun_mk (st := s_law_draw) l_law_draw c_law_draw k_law_draw
  have b_law_draw := F_law_draw.binds (ps := ["_law_feed_here", "_law_many"]) fun _ _ _ _ _ _ us hl => match us, hl with | [_, _], _ => rfl
  have F_law_pick := fun_mk (st := s_law_pick) l_law_pick c_law_pick k_law_pick
  have b_law_pick := F_law_pick.binds (ps := ["_law_feed_here", "_law_row"]) fun _ _ _ _ _ _ us hl => match us, hl with | [_, _], _ => rfl
  have F_law_same := fun_mk (st := s_law_same) l_law_same c_law_same k_law_same
  have b_law_same := F_law_same.binds (ps := ["_law_found", "_law_due"]) fun _ _ _ _ _ _ us hl => match us, hl with | [_, _], _ => rfl
  have F_law_gcd := fun_mk (st := s_law_gcd) l_law_gcd c_law_gcd k_law_gcd
  have b_law_gcd := F_law_gcd.binds (ps := ["_law_my_one", "_law_my_other"]) fun _ _ _ _ _ _ us hl => match us, hl with | [_, _], _ => rfl
  have F_law_even := fun_mk (st := s_law_even) l_law_even c_law_even k_law_even
  have b_law_even := F_law_even.binds (ps := ["_law_feed_here", "_law_many", "_law_reach"]) fun _ _ _ _ _ _ us hl => match us, hl with | [_, _, _], _ => rfl
  have F_law_roots := fun_mk (st := s_law_roots) l_law_roots c_law_roots k_law_roots
  have b_law_roots := F_law_roots.binds (ps := ["_law_feed_here", "_law_ties", "_law_most", "_law_reach"]) fun _ _ _ _ _ _ us hl => match us, hl with | [_, _, _, _], _ => rfl
  have F_law_table := fun_mk (st := s_law_table) l_law_table c_law_table k_law_table
  have b_law_table := F_law_table.binds (ps := ["_law_feed_here", "_law_most_buds", "_law_most_roots"]) fun _ _ _ _ _ _ us hl => match us, hl with | [_, _, _], _ => rfl
  have F_law_turn := fun_mk (st := s_law_turn) l_law_turn c_law_turn k_law_turn
  have b_law_turn := F_law_turn.binds (ps := ["_law_ties", "_law_place"]) fun _ _ _ _ _ _ us hl => match us, hl with | [_, _], _ => rfl
  have F_law_wide_ties := fun_mk (st := s_law_wide_ties) l_law_wide_ties c_law_wide_ties k_law_wide_ties
  have b_law_wide_ties := F_law_wide_ties.binds (ps := ["_law_ties"]) fun _ _ _ _ _ _ us hl => match us, hl with | [_], _ => rfl
  have F_law_places := fun_mk (st := s_law_places) l_law_places c_law_places k_law_places
  have b_law_places := F_law_places.binds (ps := ["_law_feed_here", "_law_many", "_law_most"]) fun _ _ _ _ _ _ us hl => match us, hl with | [_, _, _], _ => rfl
  have F_law := fun_mk (st := s_law) l_law c_law k_law
  have F_bud_init := fun_mk (st := s_bud_init) l_bud_init c_bud_init k_bud_init
  have b_bud_init := F_bud_init.binds (ps := ["self", "word"]) fun _ _ _ _ _ _ us hl => match us, hl with | [_, _], _ => rfl
  have F_great_init := fun_mk (st := s_great_init) l_great_init c_great_init k_great_init
  have b_great_init := F_great_init.binds (ps := ["self"]) fun _ _ _ _ _ _ us hl => match us, hl with | [_], _ => rfl
  have g_is_number := PySem.W.mg_of X G a_is_number
  have g_is_row := PySem.W.mg_of X G a_is_row
  have g_check_form := PySem.W.mg_of X G a_check_form
  have g_check_table := PySem.W.mg_of X G a_check_table
  have g_bud_count := PySem.W.mg_of X G a_bud_count
  have g_unlike_rows := PySem.W.mg_of X G a_unlike_rows
  have g_pair_bars := PySem.W.mg_of X G a_pair_bars
  have g_ring_bars := PySem.W.mg_of X G a_ring_bars
  have g_barred := PySem.W.mg_of X G a_barred
  have g_turned_row := PySem.W.mg_of X G a_turned_row
  have g_turned_table := PySem.W.mg_of X G a_turned_table
  have g_is_bud := PySem.W.mg_of X G a_is_bud
  have g_rows_behind := PySem.W.mg_of X G a_rows_behind
  have g_endless_holds := PySem.W.mg_of X G a_endless_holds
  have g_law_feed := PySem.W.mg_of X G a_law_feed
  have g_law_draw := PySem.W.mg_of X G a_law_draw
  have g_law_pick := PySem.W.mg_of X G a_law_pick
  have g_law_same := PySem.W.mg_of X G a_law_same
  have g_law_gcd := PySem.W.mg_of X G a_law_gcd
  have g_law_even := PySem.W.mg_of X G a_law_even
  have g_law_roots := PySem.W.mg_of X G a_law_roots
  have g_law_table := PySem.W.mg_of X G a_law_table
  have g_law_turn := PySem.W.mg_of X G a_law_turn
  have g_law_wide_ties := PySem.W.mg_of X G a_law_wide_ties
  have g_law_places := PySem.W.mg_of X G a_law_places
  have g_law := PySem.W.mg_of X G a_law
  have oex : OexC K C_Great := ⟨⟨nm, q, N, bs, _, sn, sub, ab, col, dd, m0, m1, m2, m3, m5, xL, rfl⟩, sa, eC, tC, kC⟩
  have TG : GreatC K mg C_Great f_great_init := ⟨PySem.W.mg_of X G a_Great, oex, a_great_init, tI, nw, PySem.W.exm_ref eC hC tC sC⟩
  have TB : ClsFn K mg "BudError" "__init__" C_BudError f_bud_init := ⟨PySem.W.mg_of X G a_BudError, sg, tyB, rdB, fcB, k_bud_init⟩
  have kb : KBinds K (PySem.W.fnOf "endless_holds" "endless_holds" (defArgs s_endless_holds) (defBody s_endless_holds) (defScope s_endless_holds) .none kV_endless_holds dc_endless_holds pm_endless_holds an_endless_holds cd_endless_holds ct_endless_holds) ["table", "walk", "one", "other"] ["other", "one", "walk", "table"] backL backL := by
    refine ⟨fun s us ws _ hl => ?_, fun {vs us zs ws} r1 r2 => ?_⟩
    · match us, ws, hl with
      | [], [_, _, _, _], _ => exact .of_eq rfl
    · match vs, us, zs, ws, r1, r2 with
      | _, _, _, _, .nil, .cons a (.cons b (.cons c (.cons d .nil))) => exact .cons d (.cons c (.cons b (.cons a .nil)))
      | _, _, _, _, .nil, .nil => exact .nil
      | _, _, _, _, .nil, .cons _ .nil => exact .nil
      | _, _, _, _, .nil, .cons _ (.cons _ .nil) => exact .nil
      | _, _, _, _, .nil, .cons _ (.cons _ (.cons _ .nil)) => exact .nil
      | _, _, _, _, .nil, .cons _ (.cons _ (.cons _ (.cons _ (.cons _ _)))) => exact .nil
      | _, _, _, _, .cons _ _, _ => exact .nil
  refine ⟨PySem.W.fnOf "law" "law" (defArgs s_law) (defBody s_law) (defScope s_law) .none kV_law dc_law pm_law an_law cd_law ct_law, fun s v => .of_eq rfl, fun base _ _ => ?_⟩
  have cDraw : Cal l.prog w K mg base CX0 1 "_law_draw" ["_law_feed_here", "_law_many"] spDraw := ⟨_, _, ok_draw F_law_draw T, g_law_draw, k_law_draw, b_law_draw⟩
  have cFeed : Cal l.prog w K mg base CX0 1 "_law_feed" ["_law_script"] (spFeed K) := ⟨_, _, ok_feed F_law_feed T, g_law_feed, k_law_feed, b_law_feed⟩
  have cPick : Cal l.prog w K mg base CX0 2 "_law_pick" ["_law_feed_here", "_law_row"] spPick := ⟨_, _, ok_pick (j := 0) F_law_pick T cDraw, g_law_pick, k_law_pick, b_law_pick⟩
  have cGcd : Cal l.prog w K mg base CX0 1 "_law_gcd" ["_law_my_one", "_law_my_other"] spGcd := ⟨_, _, ok_gcd F_law_gcd T, g_law_gcd, k_law_gcd, b_law_gcd⟩
  have cEven : Cal l.prog w K mg base CX0 3 "_law_even" ["_law_feed_here", "_law_many", "_law_reach"] spEven := ⟨_, _, ok_even (k := 0) F_law_even T cDraw cPick cGcd, g_law_even, k_law_even, b_law_even⟩
  have cRoots : Cal l.prog w K mg base CX0 2 "_law_roots" ["_law_feed_here", "_law_ties", "_law_most", "_law_reach"] spRoots := ⟨_, _, ok_roots (k := 0) F_law_roots T cDraw, g_law_roots, k_law_roots, b_law_roots⟩
  have cTable : Cal l.prog w K mg base CX0 4 "_law_table" ["_law_feed_here", "_law_most_buds", "_law_most_roots"] spTable := ⟨_, _, ok_table F_law_table T cDraw cEven cRoots, g_law_table, k_law_table, b_law_table⟩
  have cSame : Cal l.prog w K mg base CX0 3 "_law_same" ["_law_found", "_law_due"] (spSame 2) := ⟨_, _, ok_same F_law_same T g_law_same b_law_same 2, g_law_same, k_law_same, b_law_same⟩
  have cNum : Cal l.prog w K mg base CX0 1 "is_number" ["thing"] spIsNum := ⟨_, _, ok_isnum F_is_number T, g_is_number, k_is_number, b_is_number⟩
  have cRow : Cal l.prog w K mg base CX0 2 "is_row" ["row", "many"] spIsRow := ⟨_, _, ok_isrow F_is_row T cNum, g_is_row, k_is_row, b_is_row⟩
  have cForm : Cal l.prog w K mg base CX0 3 "check_form" ["table"] spGood := ⟨_, _, ok_form F_check_form T cRow, g_check_form, k_check_form, b_check_form⟩
  have cBuds : Cal l.prog w K mg base CX0 1 "bud_count" ["table"] spBuds := ⟨_, _, ok_buds F_bud_count T, g_bud_count, k_bud_count, b_bud_count⟩
  have cPair : Cal l.prog w K mg base CX0 1 "pair_bars" ["table", "i", "j"] spPair := ⟨_, _, ok_pair F_pair_bars T, g_pair_bars, k_pair_bars, b_pair_bars⟩
  have cUnl : Cal l.prog w K mg base CX0 1 "unlike_rows" ["many", "length"] spUnlike := ⟨_, _, ok_unlike F_unlike_rows T, g_unlike_rows, k_unlike_rows, b_unlike_rows⟩
  have cRing : Cal l.prog w K mg base CX0 1 "ring_bars" ["table", "ring"] spRing := ⟨_, _, ok_ring F_ring_bars T, g_ring_bars, k_ring_bars, b_ring_bars⟩
  have cBar : Cal l.prog w K mg base CX0 4 "barred" ["table"] spGood := ⟨_, _, ok_barred F_barred T cForm cBuds cPair cUnl cRing, g_barred, k_barred, b_barred⟩
  have cChk : Cal l.prog w K mg base CX0 5 "check_table" ["table"] spGood := ⟨_, _, ok_check F_check_table T cBar, g_check_table, k_check_table, b_check_table⟩
  have FBI : FnOk l.prog w K mg base CX0 1 f_bud_init _ ["self", "word"] (spBudInit K) := ok_budinit F_bud_init T vv
  have FFI : FnOk l.prog w K mg base CX0 2 f_great_init _ ["self"] (spGreatInit K) := ok_greatinit F_great_init T TB FBI b_bud_init
  have cTR : Cal l.prog w K mg base CX0 1 "turned_row" ["row", "up", "down", "place"] spTRow := ⟨_, _, ok_trow F_turned_row T, g_turned_row, k_turned_row, b_turned_row⟩
  have FTu : FnOk l.prog w K mg base (L2.CX l.prog w) 4 f_turned_table _ ["table", "place"] (spTurn C_Great) := ok_turn F_turned_table T cTR TG FFI b_great_init
  have cBud : Cal l.prog w K mg base CX0 2 "is_bud" ["rows", "number"] spIsBud := ⟨_, _, ok_isbud F_is_bud T cNum, g_is_bud, k_is_bud, b_is_bud⟩
  have cBeh : Cal l.prog w K mg base CX0 5 "rows_behind" ["rows", "walk"] spBehind := ⟨_, _, ok_behind F_rows_behind T TG cBud FTu g_turned_table k_turned_table b_turned_table, g_rows_behind, k_rows_behind, b_rows_behind⟩
  have FHo : FnOk l.prog w K mg base CX0 6 f_endless_holds _ ["table", "walk", "one", "other"] spHolds := ok_holds F_endless_holds T cChk cBuds cBeh cBud
  have cHo : Cal l.prog w K mg base CX0 6 "endless_holds" ["table", "walk", "one", "other"] spHolds := ⟨_, _, FHo, g_endless_holds, k_endless_holds, b_endless_holds⟩
  have cTurn : Cal l.prog w K mg base CX0 1 "_law_turn" ["_law_ties", "_law_place"] spLTurn := ⟨_, _, ok_lturn F_law_turn T, g_law_turn, k_law_turn, b_law_turn⟩
  have cWide : Cal l.prog w K mg base CX0 1 "_law_wide_ties" ["_law_ties"] spWideT := ⟨_, _, ok_wideT F_law_wide_ties T, g_law_wide_ties, k_law_wide_ties, b_law_wide_ties⟩
  have cPla : Cal l.prog w K mg base CX0 2 "_law_places" ["_law_feed_here", "_law_many", "_law_most"] spPlaces := ⟨_, _, ok_places F_law_places T cDraw, g_law_places, k_law_places, b_law_places⟩
  exact ok_law F_law T cFeed cDraw cPick cTable cSame cTurn cWide cPla cHo FHo g_endless_holds k_endless_holds kb
end Bw
open PySem PySem.W PyProof.Rows
set_option maxRecDepth 100000 in
set_option maxHeartbeats 0 in
theorem PySem.Challenge.cw_budwright_k41_endless_papers_judged_holds : PySem.Challenge.rw_budwright_k41_endless_papers_judged.Holds := by
  w_on; o_law; k_head; (case hw => w_witness2)
  k_fill
  refine L2.walk_of (l := PySem.Challenge.rw_budwright_k41_endless_papers_judged) (n := 63) (k := 7) (x := "_law_script") (CX := fun _ => L2.CX0) (sp := fun w => Bw.spLaw _) rfl (by decide) rfl ⟨rfl, by decide, by decide⟩ (fun w h Y => PySem.W.kIn_of Y) ?F (fun _ _ a ns hl _ hS => ⟨a, ns, rfl, hS, hl, fun _ => rfl⟩) (fun _ _ _ _ _ h => h)
  case F =>
    intro w mg fa h KX G hmg
    refine' Bw.all_mk KX G hmg ?a_BudError ?a_Great ?a_is_number ?l_is_number ?c_is_number ?k_is_number ?a_is_row ?l_is_row ?c_is_row ?k_is_row ?a_check_form ?l_check_form ?c_check_form ?k_check_form ?a_check_table ?l_check_table ?c_check_table ?k_check_table ?a_bud_count ?l_bud_count ?c_bud_count ?k_bud_count ?a_unlike_rows ?l_unlike_rows ?c_unlike_rows ?k_unlike_rows ?a_pair_bars ?l_pair_bars ?c_pair_bars ?k_pair_bars ?a_ring_bars ?l_ring_bars ?c_ring_bars ?k_ring_bars ?a_barred ?l_barred ?c_barred ?k_barred ?a_turned_row ?l_turned_row ?c_turned_row ?k_turned_row ?a_turned_table ?l_turned_table ?c_turned_table ?k_turned_table ?a_is_bud ?l_is_bud ?c_is_bud ?k_is_bud ?a_rows_behind ?l_rows_behind ?c_rows_behind ?k_rows_behind ?a_endless_holds ?l_endless_holds ?c_endless_holds ?k_endless_holds ?a_law_feed ?l_law_feed ?c_law_feed ?k_law_feed ?a_law_draw ?l_law_draw ?c_law_draw ?k_law_draw ?a_law_pick ?l_law_pick ?c_law_pick ?k_law_pick ?a_law_same ?l_law_same ?c_law_same ?k_law_same ?a_law_gcd ?l_law_gcd ?c_law_gcd ?k_law_gcd ?a_law_even ?l_law_even ?c_law_even ?k_law_even ?a_law_roots ?l_law_roots ?c_law_roots ?k_law_roots ?a_law_table ?l_law_table ?c_law_table ?k_law_table ?a_law_turn ?l_law_turn ?c_law_turn ?k_law_turn ?a_law_wide_ties ?l_law_wide_ties ?c_law_wide_ties ?k_law_wide_ties ?a_law_places ?l_law_places ?c_law_places ?k_law_places ?a_law ?l_law ?c_law ?k_law ?a_bud_init ?l_bud_init ?c_bud_init ?k_bud_init ?a_great_init ?l_great_init ?c_great_init ?k_great_init ?z_len ?z_range ?z_zip ?z_abs ?z_all ?z_any ?z_max ?z_min ?z_sorted ?z_isinstance ?z_int ?z_bool ?z_tuple ?z_list ?z_dict ?z_str ?z_ValueError ?i_MOST_TIE ?i_MOST_BUDS ?i_MOST_ROOTS ?i_ENDLESS_TIES ?sg ?tyB ?rdB ?fcB ?vv ?xL ?sa ?nw ?tI ?kC ?eC ?tC ?hC ?sC
    (case a_BudError => k_is)
    (case a_Great => k_is)
    (case a_is_number => k_is)
    (case l_is_number => k_is)
    (case c_is_number => k_is)
    (case k_is_number => k_is)
    (case a_is_row => k_is)
    (case l_is_row => k_is)
    (case c_is_row => k_is)
    (case k_is_row => k_is)
    (case a_check_form => k_is)
    (case l_check_form => k_is)
    (case c_check_form => k_is)
    (case k_check_form => k_is)
    (case a_check_table => k_is)
    (case l_check_table => k_is)
    (case c_check_table => k_is)
    (case k_check_table => k_is)
    (case a_bud_count => k_is)
    (case l_bud_count => k_is)
    (case c_bud_count => k_is)
    (case k_bud_count => k_is)
    (case a_unlike_rows => k_is)
    (case l_unlike_rows => k_is)
    (case c_unlike_rows => k_is)
    (case k_unlike_rows => k_is)
    (case a_pair_bars => k_is)
    (case l_pair_bars => k_is)
    (case c_pair_bars => k_is)
    (case k_pair_bars => k_is)
    (case a_ring_bars => k_is)
    (case l_ring_bars => k_is)
    (case c_ring_bars => k_is)
    (case k_ring_bars => k_is)
    (case a_barred => k_is)
    (case l_barred => k_is)
    (case c_barred => k_is)
    (case k_barred => k_is)
    (case a_turned_row => k_is)
    (case l_turned_row => k_is)
    (case c_turned_row => k_is)
    (case k_turned_row => k_is)
    (case a_turned_table => k_is)
    (case l_turned_table => k_is)
    (case c_turned_table => k_is)
    (case k_turned_table => k_is)
    (case a_is_bud => k_is)
    (case l_is_bud => k_is)
    (case c_is_bud => k_is)
    (case k_is_bud => k_is)
    (case a_rows_behind => k_is)
    (case l_rows_behind => k_is)
    (case c_rows_behind => k_is)
    (case k_rows_behind => k_is)
    (case a_endless_holds => k_is)
    (case l_endless_holds => k_is)
    (case c_endless_holds => k_is)
    (case k_endless_holds => k_is)
    (case a_law_feed => k_is)
    (case l_law_feed => k_is)
    (case c_law_feed => k_is)
    (case k_law_feed => k_is)
    (case a_law_draw => k_is)
    (case l_law_draw => k_is)
    (case c_law_draw => k_is)
    (case k_law_draw => k_is)
    (case a_law_pick => k_is)
    (case l_law_pick => k_is)
    (case c_law_pick => k_is)
    (case k_law_pick => k_is)
    (case a_law_same => k_is)
    (case l_law_same => k_is)
    (case c_law_same => k_is)
    (case k_law_same => k_is)
    (case a_law_gcd => k_is)
    (case l_law_gcd => k_is)
    (case c_law_gcd => k_is)
    (case k_law_gcd => k_is)
    (case a_law_even => k_is)
    (case l_law_even => k_is)
    (case c_law_even => k_is)
    (case k_law_even => k_is)
    (case a_law_roots => k_is)
    (case l_law_roots => k_is)
    (case c_law_roots => k_is)
    (case k_law_roots => k_is)
    (case a_law_table => k_is)
    (case l_law_table => k_is)
    (case c_law_table => k_is)
    (case k_law_table => k_is)
    (case a_law_turn => k_is)
    (case l_law_turn => k_is)
    (case c_law_turn => k_is)
    (case k_law_turn => k_is)
    (case a_law_wide_ties => k_is)
    (case l_law_wide_ties => k_is)
    (case c_law_wide_ties => k_is)
    (case k_law_wide_ties => k_is)
    (case a_law_places => k_is)
    (case l_law_places => k_is)
    (case c_law_places => k_is)
    (case k_law_places => k_is)
    (case a_law => k_is)
    (case l_law => k_is)
    (case c_law => k_is)
    (case k_law => k_is)
    (case a_bud_init => k_is)
    (case l_bud_init => k_is)
    (case c_bud_init => k_is)
    (case k_bud_init => k_is)
    (case a_great_init => k_is)
    (case l_great_init => k_is)
    (case c_great_init => k_is)
    (case k_great_init => k_is)
    (case z_len => k_is)
    (case z_range => k_is)
    (case z_zip => k_is)
    (case z_abs => k_is)
    (case z_all => k_is)
    (case z_any => k_is)
    (case z_max => k_is)
    (case z_min => k_is)
    (case z_sorted => k_is)
    (case z_isinstance => k_is)
    (case z_int => k_is)
    (case z_bool => k_is)
    (case z_tuple => k_is)
    (case z_list => k_is)
    (case z_dict => k_is)
    (case z_str => k_is)
    (case z_ValueError => k_is)
    (case i_MOST_TIE => k_is)
    (case i_MOST_BUDS => k_is)
    (case i_MOST_ROOTS => k_is)
    (case i_ENDLESS_TIES => k_is)
    (case sg => k_is)
    (case tyB => k_is)
    (case rdB => k_is)
    (case fcB => k_is)
    (case vv => k_is)
    (case xL => k_is)
    (case sa => k_is)
    (case nw => k_is)
    (case tI => k_is)
    (case kC => k_is)
    (case eC => k_is)
    (case tC => k_is)
    (case hC => k_is)
    (case sC => first | rfl | k_is)
