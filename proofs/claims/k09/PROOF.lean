import PyProof.Rows.All
import Wide.All
import OpenK.AllK
import Wide.FinOn
import HandS.ForMost
import HandS.ForExc
import HandS.SortOrd
import HandS.SortRule
import HandS.SortKw
import HandS.Conv
import HandS.NamedTupSort
import KE.KDictPairs
import HandS.Codes
import HandS.IsInst
import HandS.Zip
import HandS.Walk
import HandS.TupAny
import HandS.TupMul
import HandS.Flow
import HandS.ExcInit
import HandS.OwnEq
import HandS.Style
import PyProof.InstEq
import HandS.ExcField
import HandS.CallSlots
import HandS.More
import HandS.Deep
import HandS.TupLe
import KE.KRevSl
import HandS.Lambda
import HandS.EndOwn
import HandS.NestedK
import KE.GoesMore
import KE.KExcInit
import KE.KTryMore
import HandS.Text
import HandS.RevTup
import HandS.Rev
import HandS.FStr
import PyProof.JoinWalk
import KE.KCallOwn
import PyProof.Conv_bool
import KE.KEqDict
import PyProof.StrLoop
import HandS.Wide
import HandS.TupLen
import HandS.Defaults
import HandS.Head2
import KE.IntTextLaws
import HandS.StrMore
import HandS.ExcOwn
import PyProof.StrBlock2
import PyProof.Rows.StrMul
import HandS.Keys
import HandS.ExcIs
import PySem.Challenge.RW_budwright_k09_texts_that_write_no_sum
set_option Elab.async false
set_option linter.all false
set_option maxRecDepth 100000
set_option maxHeartbeats 4000000
namespace Bw
open PySem PySem.Spec PyProof.Rows L2
/-! ### tuples of ints in order -/
def IsTupI (h : Heap) (v : Value) (p : List Int) : Prop := ∃ a o its n, v = .ref a ∧ h.get? a = some o ∧ o.cls = .type "tuple" ∧ o.data = .seq its n ∧ IntsAre its.toList p
theorem IsTupI.keeps {h h' : Heap} {v : Value} {p : List Int} (x : IsTupI h v p) (k : ∀ b o, h.get? b = some o → o.cls = .type "tuple" → h'.get? b = some o) : IsTupI h' v p := by
  obtain ⟨a, o, its, n, e, ho, hc, hd, hi⟩ := x
  exact ⟨a, o, its, n, e, k _ _ ho hc, hc, hd, hi⟩
section
variable {prog : Program} {w : World} {A : Around} {s : Shared}
theorem kat_ints {b : Bool} {Q : Bool → Shared → Prop} : ∀ {ps : List Value} {p : List Int}, IntsAre ps p → ∀ {qs : List Value} {q : List Int}, IntsAre qs q → ∀ (i : Nat) (fin : Bool), fin = decide (ps.length < qs.length) → Q (HT.lexLt p q) s → PySem.W.KatLex prog w A b fin Q (ps.zip qs) i s
  | _, _, .nil, _, _, .nil, i, fin, hf, hq => by
    subst hf
    exact PySem.W.kat_nil hq
  | _, _, .nil, _, _, .cons _ _ _, i, fin, hf, hq => by
    have e : fin = true := by
      rw [hf]
      exact decide_eq_true (by rw [List.length_cons]; exact Nat.succ_pos _)
    subst e
    exact PySem.W.kat_nil hq
  | _, _, .cons _ _ _, _, _, .nil, i, fin, hf, hq => by
    have e : fin = false := by
      rw [hf]
      exact decide_eq_false (by rw [List.length_nil]; omega)
    subst e
    exact PySem.W.kat_nil hq
  | _, _, .cons x t r, _, _, .cons y u r', i, fin, hf, hq => by
    rw [List.zip_cons_cons]
    refine PySem.W.kat_cons (SeqAt.EqAt.int_int _ _ _ _ prog w _ _ ?_)
    rw [HT.lexLt_cons] at hq
    refine PySem.W.kat_go (fun e1 => ?_) (fun e1 => ?_)
    · have ex : x = y := by simpa using e1
      rw [if_pos ex] at hq
      exact PySem.W.kat_yes (kat_ints r r' (i + 1) fin (by rw [hf, List.length_cons, List.length_cons]; congr 1; simp) hq)
    · have ex : ¬ x = y := by simpa using e1
      rw [if_neg ex] at hq
      exact PySem.W.kat_no (TS.oneLt_ints _ hq)
theorem tup_cmp {vs : List Value} {k : Value → List Int} (hp : ∀ v ∈ vs, IsTupI s.heap v (k v)) : SrtO.Cmp prog w A s (tuples' true) (fun p => p.1 ∈ vs) (SrtO.lt2 fun v u => HT.lexLt (k v) (k u)) := by
  intro p q hm hm'
  obtain ⟨a, o, its, n, e, ho, hc, hd, hi⟩ := hp _ hm
  obtain ⟨a', o', its', n', e', ho', hc', hd', hi'⟩ := hp _ hm'
  show wpAny (model prog w) A (keyLt' (tuples' true) p.1 q.1) (fun r s' => s' = s ∧ r = HT.lexLt (k p.1) (k q.1)) (fun _ _ => False) s
  generalize k p.1 = x at hi ⊢
  generalize k q.1 = y at hi' ⊢
  rw [e, e']
  exact PySem.W.kat_lt ho hd ho' hd' (kat_ints hi hi' 0 _ (by rw [Array.length_toList, Array.length_toList]) ⟨rfl, rfl⟩)
theorem firsts_tup {h : Heap} : ∀ {vs : List Value}, (∀ v ∈ vs, ∃ x p, IsTupI h v (x :: p)) → ∃ fs : List Value, PySem.W.KatTups h vs fs ∧ fs.length = vs.length ∧ ∀ f ∈ fs, ∃ x t, f = Value.int x t
  | [], _ => ⟨[], PySem.W.KatTups.nil, rfl, fun _ hm => by simp at hm⟩
  | v :: vs, hp => by
    obtain ⟨fs, h1, h2, h3⟩ := firsts_tup (vs := vs) fun v' hm => hp v' (List.mem_cons_of_mem _ hm)
    obtain ⟨x, p, a, o, its, n, e, ho, hc, hd, hi⟩ := hp v (List.mem_cons_self ..)
    subst e
    cases hl : its.toList with
    | nil =>
      rw [hl] at hi
      cases hi
    | cons f r =>
      rw [hl] at hi
      cases hi with
      | cons _ t hr =>
        refine ⟨.int x t :: fs, PySem.W.KatTups.cons ho hc hd (by rw [← Array.getElem?_toList, hl]; rfl) h1, by rw [List.length_cons, List.length_cons, h2], fun g hg => ?_⟩
        rcases List.mem_cons.mp hg with rfl | hg
        · exact ⟨x, t, rfl⟩
        · exact h3 g hg
theorem tups_sortable {a : Addr} {vs : List Value} {k : Value → List Int} (h0 : 0 < vs.length) (hp : ∀ v ∈ vs, IsTupI s.heap v (k v)) (hne : ∀ v ∈ vs, k v ≠ []) (ha : ∀ o, s.heap.get? a = some o → o.cls ≠ .type "tuple") : SrtO.SortableO prog w A s a vs fun v u => HT.lexLt (k v) (k u) := by
  intro h' keep
  have hp' : ∀ v ∈ vs, IsTupI h' v (k v) := fun v hm => (hp v hm).keeps fun b o e c => keep b o (fun z => by subst z; exact ha o e c) e
  obtain ⟨fs, h1, h2, h3⟩ := firsts_tup fun v hm => by
    have x := hp' v hm
    cases e : k v with
    | nil => exact absurd e (hne v hm)
    | cons y p =>
      rw [e] at x
      exact ⟨y, p, x⟩
  refine ⟨tuples' true, fun Q E hq => ?_, tup_cmp hp'⟩
  have e0 : (Value.type "int" != Value.type "tuple") = true := by decide +kernel
  refine PySem.W.kat_kind (T := .type "int") h1 (by rw [h2]; exact h0) (fun g hg => ?_) rfl (by rw [e0]; exact hq)
  obtain ⟨x, t, rfl⟩ := h3 g hg
  exact PySem.W.Looks.now
end
/-! ### as rules of the layer -/
def unInt : V → Int
  | .int i => i
  | _ => 0
def unRef : Value → Addr
  | .ref a => a
  | _ => 0
/-- the ints of the tuple at b -/
def keyOf (H : Hp) (b : Addr) : List Int := match H b with
  | some (.tup xs) => xs.map unInt
  | _ => []
theorem keyOf_at {H : Hp} {b : Addr} {q : List Int} (h : H b = some (.tup (q.map V.int))) : keyOf H b = q := by
  unfold keyOf
  rw [h]
  show (q.map V.int).map unInt = q
  rw [List.map_map]
  have e : unInt ∘ V.int = id := rfl
  rw [e, List.map_id]
theorem unRef_map : ∀ {us : List Value} {ts : List Addr}, us = ts.map Value.ref → us.map unRef = ts
  | _, ts, rfl => by
    rw [List.map_map]
    have e : unRef ∘ Value.ref = id := rfl
    rw [e, List.map_id]
theorem ref_map : ∀ {us : List Value} {ts : List Addr}, (∀ u ∈ us, u ∈ ts.map Value.ref) → us = (us.map unRef).map Value.ref
  | [], _, _ => rfl
  | u :: us, ts, h => by
    obtain ⟨t, _, e⟩ := List.mem_map.mp (h u (List.mem_cons_self ..))
    subst e
    show _ = Value.ref t :: (us.map unRef).map Value.ref
    rw [← ref_map (ts := ts) fun v hv => h v (List.mem_cons_of_mem _ hv)]
section
variable {X : Cx}
theorem tupI_of {pins : List (Addr × Obj)} {s : Shared} {σ : L2.St} {H : Hp} (I : L2.Inv X pins σ H s) {t : Addr} {q : List Int} (ht : H t = some (.tup (q.map V.int))) : IsTupI s.heap (.ref t) (keyOf H t) := by
  rw [keyOf_at ht]
  obtain ⟨_, its2, r2, o, ho, hc, n, hd⟩ := I.hok _ _ ht
  exact ⟨t, o, _, n, rfl, ho, hc, hd, r2.ints⟩
/-- sorted(xs), a list of tuples of ints: rising -/
def rSortTI (K : PySem.W.Frag) : List V → Hp → VK → Prop := fun vs H Q => ∃ (a : Addr) (ts : List Addr), vs = [V.ref a] ∧ SqL K H a (ts.map V.ref) ∧ (∀ t ∈ ts, ∃ q : List Int, H t = some (.tup (q.map V.int))) ∧ (2 ≤ ts.length → ∀ t ∈ ts, keyOf H t ≠ []) ∧
  ∀ (ts' : List Addr) (p : Addr), ts'.Perm ts → ts'.Pairwise (fun x y => HT.lexLt (keyOf H y) (keyOf H x) = false) → H p = none → Q (.ref p) (upd H p (.lst (ts'.map V.ref)))
theorem cr_sortTI {K : PySem.W.Frag} (hK : X.K = K := by rfl) : CallR X (.builtin "sorted") (rSortTI K) := by
  subst hK
  intro pins s σ H vs us Q I r h
  obtain ⟨a, ts, rfl, hs, hx, hne, q⟩ := h
  obtain ⟨its, rv, hl, hz⟩ := I.list hs
  obtain ⟨u, rfl, ru⟩ := vals1 r
  obtain rfl : u = Value.ref a := ru
  have ei := refs_at rv
  have lz : its.length ≤ sizeLine := by
    rw [← rv.length]
    exact hz
  have hk : ∀ (h₁ : Heap), (∀ b o, s.heap.get? b = some o → h₁.get? b = some o) → ∀ v ∈ its, IsTupI h₁ v (keyOf H (unRef v)) := fun h₁ kk v hv => by
    rw [ei] at hv
    obtain ⟨t, ht, rfl⟩ := List.mem_map.mp hv
    obtain ⟨q', hq'⟩ := hx t ht
    exact (tupI_of I hq').keeps fun b o e _ => kk b o e
  refine SrtO.sorted_ord (NtL.swo_lexL fun v => keyOf H (unRef v)) hl.isList lz (fun h2 h₁ a' ha kk => ?_) fun out hs hb => ?_
  · refine tups_sortable (s := { s with heap := h₁ }) (by omega) (hk h₁ fun b o e => (kk b o e).2) (fun v hv => ?_) fun o e => ?_
    · rw [ei] at hv h2
      obtain ⟨t, ht, rfl⟩ := List.mem_map.mp hv
      rw [List.length_map] at h2
      exact hne h2 t ht
    · have e' : some o = some (seqObj "list" its.toArray 0) := e.symm.trans ha
      cases e'
      intro c
      exact absurd (Value.type.inj c) (by decide)
  · have hm : ∀ u ∈ out, u ∈ ts.map Value.ref := fun u hu => by
      rw [← ei]
      exact hb.perm.mem_iff.mp hu
    have eo := ref_map hm
    have hp : (out.map unRef).Perm ts := by
      have z := hb.perm.map unRef
      rw [unRef_map ei] at z
      exact z
    obtain ⟨n, hn⟩ := PyProof.Rows.sortedAll_at s.heap its out.toArray
    refine ⟨.ref (s.heap.objs.size + 1), upd H (s.heap.objs.size + 1) (.lst ((out.map unRef).map V.ref)), I.laid (t' := s.toks) (fun b o e => PyProof.Rows.sortedAll_old e) (Nat.le_succ _) ⟨?_, out, n, ?_, hn⟩, rfl, q _ _ hp (List.pairwise_map.mpr hs) (I.hok.fresh (Nat.le_succ _))⟩
    · rw [List.length_map, hp.length_eq, ← List.length_map (f := V.ref)]
      exact hz
    · have z := vals_refs (out.map unRef)
      rw [← eo] at z
      exact z
/-- the key tuples of a dict, as they are collected -/
theorem acc_keys {P : Program} {w : World} {es : Array DictEntry} {ks : List (List Key × Addr × Value)} {acc : Array Value} (he : es.toList = ks.map (entryOfKey (tupleKind (mixKind P w)))) (it : ItemsOf (fun i v => ∃ en : DictEntry, es[i]? = some en ∧ v = en.key) acc es.size) :
    acc.toList = (ks.map fun x => x.2.1).map Value.ref := by
  have l1 : es.size = ks.length := size_of_entries he
  apply List.ext_getElem?
  intro j
  rw [List.getElem?_map, List.getElem?_map]
  cases hj : acc.toList[j]? with
  | none =>
    have h1 := List.getElem?_eq_none_iff.mp hj
    rw [Array.length_toList, it.1] at h1
    rw [List.getElem?_eq_none (show ks.length ≤ j by omega)]
    rfl
  | some v =>
    obtain ⟨en, hen, hv⟩ := it.2 j v (by rw [← Array.getElem?_toList]; exact hj)
    have qe := entry_at he j
    rw [hen] at qe
    cases hb : ks[j]? with
    | none =>
      rw [hb] at qe
      cases qe
    | some b =>
      rw [hb] at qe
      have e2 := Option.some.inj qe
      rw [hv, e2]
      rfl
/-- the keys of a dict, tuples of ints -/
def KeysI (kvs : List (List Key × V)) (ps : List (List Int)) : Prop := kvs.map (·.1) = ps.map (List.map Sum.inl)
/-- sorted(d, reverse=True), a dict whose keys are tuples of ints: falling -/
def rSortDT : List V → List V → Hp → VK → Prop := fun vs zs H Q => ∃ (d : Addr) (kvs : List (List Key × V)) (ps : List (List Int)), vs = [V.ref d] ∧ zs = [.bl true] ∧ Rd H d (.dT kvs) ∧ KeysI kvs ps ∧ (2 ≤ ps.length → ∀ q ∈ ps, q ≠ []) ∧
  ∀ (bs : List Addr) (p : Addr), (∀ b ∈ bs, ∃ q : List Int, H b = some (.tup (q.map V.int))) → (bs.map (keyOf H)).Perm ps → bs.Pairwise (fun x y => HT.lexLt (keyOf H x) (keyOf H y) = false) → H p = none → Q (.ref p) (upd H p (.lst (bs.map V.ref)))
theorem keys_kt {H : Hp} : ∀ {kvs : List (List Key × V)} {ks : List (List Key × Addr × Value)} {ps : List (List Int)}, KT H kvs ks → KeysI kvs ps → (∀ b ∈ ks.map (fun x => x.2.1), ∃ q : List Int, H b = some (.tup (q.map V.int))) ∧ (ks.map fun x => x.2.1).map (keyOf H) = ps
  | _, _, ps, .nil, h => by
    cases ps with
    | nil => exact ⟨fun b hb => by simp at hb, rfl⟩
    | cons q ps => cases h
  | _, _, ps, .cons (a := kv) (b := x) hx t, h => by
    cases ps with
    | nil => cases h
    | cons q ps =>
      have h' : kv.1 :: _ = q.map Sum.inl :: ps.map (List.map Sum.inl) := h
      obtain ⟨e1, e2⟩ := List.cons.inj h'
      obtain ⟨i1, i2⟩ := keys_kt t e2
      have hq : H x.2.1 = some (.tup (q.map V.int)) := by
        rw [hx.2.1, e1, List.map_map]
        rfl
      refine ⟨fun b hb => ?_, ?_⟩
      · rcases List.mem_cons.mp hb with rfl | hb
        · exact ⟨q, hq⟩
        · exact i1 b hb
      · show keyOf H x.2.1 :: _ = q :: ps
        rw [keyOf_at hq, i2]
theorem cr_sortDT (hc : X.calm = true) : CallRK X (.builtin "sorted") [Str.ofString "reverse"] rSortDT := by
  intro pins s σ H vs zs us ws Q I r rz h
  obtain ⟨d, kvs, ps, rfl, rfl, hd, hK, hne, q⟩ := h
  obtain rfl := Vals.ref1 r
  obtain ⟨w1, rfl, e1⟩ := vals1 rz
  obtain rfl : w1 = Value.bool true := e1
  obtain ⟨z, hs, ks, pr, o, es, ep, ho, hx, hdt, he, hn⟩ := (show ObjOk X.prog X.w H s.heap d (.dT kvs) from hd.ok I.hok)
  have l1 : es.size = ks.length := size_of_entries he
  have l2 : kvs.length = ks.length := Paired.length pr
  obtain ⟨k1, k2⟩ := keys_kt pr hK
  have l3 : ks.length = ps.length := by
    rw [← k2, List.length_map, List.length_map]
  show wpAny (model X.prog X.w) X.A (call (.builtin "sorted") [.ref d] [(Str.ofString "reverse", .bool true)]) _ _ _
  refine PyProof.Rows.call_function_entry_kw PyProof.Rows.kind_sorted PyProof.Rows.plain_sorted PyProof.Rows.entry_sorted (PyProof.Rows.args_sorted_rev _ _) ?_
  unfold Builtin.«sorted»
  refine wpAny_bind (m := checkCount "sorted" 1 1 _) (wpAny_pure ?_)
  refine wpAny_bind (PySem.W.kdu_collect (A := X.A.in1) (kdl_raw hs hx hdt) (I.ok.hd hc) ho (by omega) fun h' tk acc hk hacc => ?_)
  have ea := acc_keys he hacc
  generalize (ks.map fun x => x.2.1) = ts at ea k1 k2
  have I1 : Inv X pins σ H { s with heap := h', toks := tk } := I.kept hk
  have lts : ts.length = ps.length := by
    rw [← k2, List.length_map]
  have lz : acc.toList.length ≤ sizeLine := by
    rw [ea, List.length_map]
    omega
  refine wpAny_bind (wpAny_newList ?_ lz)
  have hoL : (h'.push (seqObj "list" acc.toList.toArray 0)).get? h'.objs.size = some (seqObj "list" acc.toList.toArray 0) := Heap.get?_push_size _ rfl
  show wpAny _ _ _ _ _ { s with heap := h'.push (seqObj "list" acc.toList.toArray 0), toks := tk }
  have kp : ∀ b o, h'.get? b = some o → b ≠ h'.objs.size ∧ (h'.push (seqObj "list" acc.toList.toArray 0)).get? b = some o := fun b o e => ⟨Nat.ne_of_lt (Heap.lt_size e), Heap.get?_push_of_some _ e⟩
  refine wpAny_bind (wpAny_holding (wpAny_call_entry_kw PyProof.Rows.slot_list_sort ⟨_, hoL, rfl⟩ PyProof.Rows.entry_list_sort (SrtR.list_sort_ordR (b := true) (s := { s with heap := h'.push (seqObj "list" acc.toList.toArray 0), toks := tk }) (NtL.swo_lexL fun v => keyOf H (unRef v)) hoL lz (fun h2 => ?_) fun out g1 g2 => ⟨_, rfl, ?_⟩) (PyProof.Rows.args_list_sort_rev _ _)))
  · refine tups_sortable (s := { s with heap := h'.push (seqObj "list" acc.toList.toArray 0), toks := tk }) (by omega) (fun v hv => ?_) (fun v hv => ?_) fun o e => ?_
    · rw [ea] at hv
      obtain ⟨t, ht, rfl⟩ := List.mem_map.mp hv
      obtain ⟨q', hq'⟩ := k1 t ht
      exact (tupI_of I1 hq').keeps fun b o e _ => (kp b o e).2
    · rw [ea] at hv
      obtain ⟨t, ht, rfl⟩ := List.mem_map.mp hv
      rw [ea, List.length_map, lts] at h2
      refine hne h2 _ ?_
      rw [← k2]
      exact List.mem_map.mpr ⟨t, ht, rfl⟩
    · have e' : some o = some (seqObj "list" acc.toList.toArray 0) := e.symm.trans hoL
      cases e'
      intro c
      exact absurd (Value.type.inj c) (by decide)
  · rw [if_pos rfl] at g2
    have hm : ∀ u ∈ out, u ∈ ts.map Value.ref := fun u hu => by
      rw [← ea]
      exact List.mem_reverse.mp (g2.perm.mem_iff.mp hu)
    have eo := ref_map hm
    have hp : (out.map unRef).Perm ts := by
      have z := (g2.perm.trans (List.reverse_perm _)).map unRef
      rw [unRef_map ea] at z
      exact z
    obtain ⟨n, hn'⟩ := PyProof.Rows.sortedHeap_at (vs := acc.toList) (out := out.toArray.reverse) hoL
    have er : (out.toArray.reverse) = (out.reverse).toArray := by simp
    refine wpAny_pure ⟨_, rfl, .ref h'.objs.size, upd H h'.objs.size (.lst ((out.map unRef).reverse.map V.ref)), I1.laid (t' := tk) (fun b u e => ?_) (Nat.le_refl _) ⟨?_, out.reverse, n, ?_, ?_⟩, rfl, q _ _ (fun b hb => k1 b (hp.mem_iff.mp (List.mem_reverse.mp hb))) ?_ ?_ (I1.hok.fresh (Nat.le_refl _))⟩
    · have hb : b < h'.objs.size := Heap.lt_size e
      rw [if_pos rfl, PyProof.Rows.sortedHeap_old (Nat.ne_of_lt hb) (by rw [size_push']; exact Nat.lt_succ_of_lt hb)]
      exact Heap.get?_push_of_some _ e
    · rw [List.length_map, List.length_reverse, hp.length_eq]
      omega
    · have z := vals_refs (out.map unRef).reverse
      rw [List.map_reverse, List.map_reverse, ← eo] at z
      rw [List.map_reverse]
      exact z
    · rw [if_pos rfl, ← er]
      exact hn'
    · rw [← k2]
      exact ((List.reverse_perm _).trans hp).map (keyOf H)
    · rw [List.pairwise_reverse]
      exact List.pairwise_map.mpr g1
end
end Bw
set_option Elab.async false
set_option linter.all false
set_option maxRecDepth 100000
set_option maxHeartbeats 4000000
namespace Bw
open PySem PySem.Spec PyProof.Rows L2
def mergeT (kvs more : List (List Key × V)) : List (List Key × V) := more.foldl (fun acc kv => putK acc kv.1 kv.2) kvs
/-- dict(xs), a list of pairs (key, value), the keys tuples: later ones win, at the first one's place -/
def rDictPT (K : PySem.W.Frag) : List V → Hp → VK → Prop := fun vs H Q => ∃ (a : Addr) (ts : List Addr) (its : List (List Key × Addr × V)), vs = [V.ref a] ∧ SqL K H a (ts.map V.ref) ∧
  Paired (fun t (x : List Key × Addr × V) => H t = some (.tup [.ref x.2.1, x.2.2]) ∧ H x.2.1 = some (.tup (x.1.map kV))) ts its ∧ ∀ p, H p = none → Q (.ref p) (upd H p (.dT (mergeT [] (its.map fun x => (x.1, x.2.2)))))
section
variable {X : Cx} {pins : List (Addr × Obj)} {s : Shared} {σ : L2.St} {H : Hp}
theorem pairsT_of (I : L2.Inv X pins σ H s) : ∀ {ts : List Addr} {its : List (List Key × Addr × V)}, Paired (fun t (x : List Key × Addr × V) => H t = some (.tup [.ref x.2.1, x.2.2]) ∧ H x.2.1 = some (.tup (x.1.map kV))) ts its →
    ∃ ps : List (List Key × Addr × Value), Paired (fun (x : List Key × Addr × V) (q : List Key × Addr × Value) => x.1 = q.1 ∧ H q.2.1 = some (.tup (q.1.map kV)) ∧ RelV x.2.2 q.2.2) its ps ∧ ps.length = ts.length ∧
      ∀ (j : Nat) (q : List Key × Addr × Value), ps[j]? = some q → ∃ t, ts[j]? = some t ∧ s.heap.IsTuple t #[.ref q.2.1, q.2.2]
  | _, _, .nil => ⟨[], .nil, rfl, fun j q e => by simp at e⟩
  | _, _, .cons (a := t) (b := x) h r => by
    obtain ⟨ps, r1, hl, hp⟩ := pairsT_of I r
    obtain ⟨_, us, rv, hT⟩ := I.hok _ _ h.1
    obtain ⟨u1, u2, rfl, e1, e2⟩ := vals2 rv
    obtain rfl : u1 = Value.ref x.2.1 := e1
    refine ⟨(x.1, x.2.1, u2) :: ps, .cons ⟨rfl, h.2, e2⟩ r1, by rw [List.length_cons, List.length_cons, hl], fun j q e => ?_⟩
    cases j with
    | zero =>
      cases (Option.some.inj e)
      exact ⟨t, rfl, hT⟩
    | succ j => exact hp j q e
theorem kt_merge {H' : Hp} : ∀ {its : List (List Key × Addr × V)} {ps : List (List Key × Addr × Value)} {kvs : List (List Key × V)} {xs : List (List Key × Addr × Value)}, Paired (fun (x : List Key × Addr × V) (q : List Key × Addr × Value) => x.1 = q.1 ∧ H' q.2.1 = some (.tup (q.1.map kV)) ∧ RelV x.2.2 q.2.2) its ps → KT H' kvs xs →
    KT H' (mergeT kvs (its.map fun x => (x.1, x.2.2))) (storedAllH xs ps)
  | _, _, _, _, .nil, k => k
  | _, _, kvs, xs, .cons (a := x) (b := q) h r, k => by
    have z := KT.put k q.1 h.2.1 h.2.2
    rw [← h.1] at z
    have z2 := kt_merge (kvs := putK kvs x.1 x.2.2) (xs := storedH xs x.1 q.2.1 q.2.2) r z
    show KT H' (mergeT (putK kvs x.1 x.2.2) _) (storedAllH (storedH xs q.1 q.2.1 q.2.2) _)
    rw [← h.1]
    exact z2
theorem putT_len (kvs : List (List Key × V)) (k : List Key) (v : V) : (putK kvs k v).length ≤ kvs.length + 1 := length_putK kvs k v
theorem mergeT_len : ∀ (more kvs : List (List Key × V)), (mergeT kvs more).length ≤ kvs.length + more.length
  | [], kvs => Nat.le_refl _
  | m :: more, kvs => by
    show (mergeT (putK kvs m.1 m.2) more).length ≤ _
    have h1 := mergeT_len more (putK kvs m.1 m.2)
    have h2 := putT_len kvs m.1 m.2
    rw [List.length_cons]
    omega
end
theorem cr_dictPT {X : Cx} {K : PySem.W.Frag} (hc : X.calm = true) (hu : X.A.units + 64 < cLine) (hK : X.K = K := by rfl) : CallR X (.type "dict") (rDictPT K) := by
  subst hK
  intro pins s σ H vs us Q I r h
  obtain ⟨a, ts, its, rfl, hs, hp, q⟩ := h
  obtain ⟨vs, rv, hl, hz⟩ := I.list hs
  obtain ⟨u, rfl, ru⟩ := vals1 r
  obtain rfl : u = Value.ref a := ru
  have ei := refs_at rv
  obtain ⟨o, n, ho, hcl, hd, hdat⟩ := hl
  obtain ⟨ps, r1, lp, hpt⟩ := pairsT_of I hp
  have lts : ts.length ≤ sizeLine := by
    rw [List.length_map] at hz
    exact hz
  let vps : List (Value × Value) := ps.map fun q => (Value.ref q.2.1, q.2.2)
  have lv : vps.length = ts.length := by
    show (ps.map _).length = _
    rw [List.length_map, lp]
  have hkey : ∀ x ∈ ps, H x.2.1 = some (.tup (x.1.map kV)) := by
    clear hpt lp lv vps hp q
    induction r1 with
    | nil => intro x hx; simp at hx
    | cons h t ih =>
      intro x hx
      rcases List.mem_cons.mp hx with rfl | hx
      · exact h.2.1
      · exact ih x hx
  refine call_dict_pairsH (knd := tupleKind (mixKind X.prog X.w)) (ps := ps) (PairArg.list a vs.toArray (fun j => (ts[j]?).getD 0) vps) (I.ok.hd hc) (show (X.A.in1.in1).units < cLine from ?_) ⟨⟨o, n, ho, hcl, hd, hdat⟩, ?_, fun j k v e => ?_⟩ ⟨by rw [lv, lp], fun i key v e => ?_⟩ (fun h' hk x hx => ?_) (by rw [lv]; exact lts) fun h' tk hd' hk => ?_
  · show X.A.units + 1 + 1 < cLine
    omega
  · rw [List.size_toArray, ei, List.length_map, lv]
  · obtain ⟨x, ex, e2⟩ : ∃ x, ps[j]? = some x ∧ (Value.ref x.2.1, x.2.2) = (k, v) := by
      have e' : (ps.map fun q => (Value.ref q.2.1, q.2.2))[j]? = some (k, v) := e
      rw [List.getElem?_map] at e'
      cases hx : ps[j]? with
      | none =>
        rw [hx] at e'
        cases e'
      | some x =>
        rw [hx] at e'
        exact ⟨x, rfl, Option.some.inj e'⟩
    cases e2
    obtain ⟨t, et, hT⟩ := hpt j x ex
    have eg : (ts[j]?).getD 0 = t := by
      rw [et]
      rfl
    refine ⟨?_, .inl ?_⟩
    · show vs.toArray[j]? = some (Value.ref ((ts[j]?).getD 0))
      rw [eg, ei, List.getElem?_toArray, List.getElem?_map, et]
      rfl
    · show s.heap.IsTuple ((ts[j]?).getD 0) _
      rw [eg]
      exact hT
  · have e' : (ps.map fun q => (Value.ref q.2.1, q.2.2))[i]? = some (key, v) := e
    rw [List.getElem?_map] at e'
    cases hx : ps[i]? with
    | none =>
      rw [hx] at e'
      cases e'
    | some x =>
      rw [hx] at e'
      cases (Option.some.inj e')
      exact ⟨x.1, x.2.1, rfl, rfl⟩
  · have hb := key_of I.hok (hkey x hx)
    obtain ⟨ob, items, m, h1, h2, h3, h4⟩ := hb
    exact ⟨ob, items, m, hk _ _ (Nat.ne_of_lt (Heap.lt_size h1)) (by simp) h1, h2, h3, h4⟩
  · have hm : (s.heap.objs.size == sysModules) = false := beq_eq_false_iff_ne.mpr (Nat.ne_of_gt I.big)
    obtain ⟨q', es, ep, hq, h2, h3, h4, _, h5⟩ := hd'
    have hlen : (mergeT [] (its.map fun x => (x.1, x.2.2))).length ≤ sizeLine := by
      have z := mergeT_len (its.map fun x => (x.1, x.2.2)) []
      rw [List.length_map, List.length_nil, ← Paired.length hp] at z
      omega
    have hf : H s.heap.objs.size = none := I.hok.fresh (Nat.le_refl _)
    refine ⟨.ref s.heap.objs.size, upd H s.heap.objs.size (.dT (mergeT [] (its.map fun x => (x.1, x.2.2)))), I.laid (t' := tk) (fun b o e => hk b o (by simp) e) (Nat.le_refl _) ⟨hlen, hm, storedAllH [] ps, (kt_merge r1 .nil).keeps fun b ys hb => ?_, q', es, ep, hq, h2, h3, h4, h5⟩, rfl, q _ hf⟩
    rw [upd_ne (ne_of_none hb hf)]
    exact hb
end Bw
set_option Elab.async false
set_option linter.all false
set_option maxRecDepth 100000
namespace Bw
open PySem PySem.Spec PyProof.Rows L2
/-! ### a def that may be called, by its name -/
structure Cal (P : Program) (w : World) (K : PySem.W.Frag) (mg : Str → Option Value) (base : Heap) (CX : CXT) (k : Nat) (x : Str) (ps : List Str) (sp : Sp) : Prop where
  ex : ∃ (f : Addr) (fd : FuncData), FnOk P w K mg base CX k f fd ps sp ∧ mg x = some (.ref f) ∧ PySem.W.keepIn K (.ref f) = true ∧ Binds K fd ps []
section
variable {X : Cx} {x : Str} {ps : List Str} {sp : Sp} {k : Nat} {e : Expr} {es : List Expr} {p pos : Pos} {t : TA}
theorem pe_cal (C : Cal X.prog X.w X.K X.mg X.base CX0 k x ps sp) (hr : Room k X.A) (hg : Gl X x) (ha : PA X (e :: es) t) (hdb : (x == ("__debug__" : Str)) = false := by decide) (he : starEach (e :: es) X.env = (false, eval e X.env) :: starEach es X.env := by rfl)
    (hpl : (backTo pos (starEach es X.env)).any (·.1) = false := by rfl) : PE X (.Call (.Name x p) (e :: es) [] pos) (tCall sp [] E0 t) := by
  obtain ⟨f, fd, F, hm, hk, hb⟩ := C.ex
  exact pe_call F hr hg hm hk hb .nil pass0 ha hdb he hpl
end
/-! ### the rules with the written part named: within comprehensions the reading must not hang on the block -/
section
variable {X : Cx} {K : PySem.W.Frag}
def rTupOf (K : PySem.W.Frag) : List V → Hp → VK → Prop := fun xs H Q => ∃ p ys, xs = [V.ref p] ∧ ((SqL K H p ys ∧ ∀ l, H l = none → Q (.ref l) (upd H l (.tup ys))) ∨ (SqT K H p ys ∧ Q (.ref p) H))
def rLstOf (K : PySem.W.Frag) : List V → Hp → VK → Prop := fun xs H Q => ∃ p ys, xs = [V.ref p] ∧ (SqL K H p ys ∨ SqT K H p ys) ∧ ∀ l, H l = none → Q (.ref l) (upd H l (.lst ys))
def rLenOf (K : PySem.W.Frag) : List V → Hp → VK → Prop := fun xs H Q => ∃ p ys, xs = [V.ref p] ∧ (SqL K H p ys ∨ SqT K H p ys) ∧ Q (.int ys.length) H
theorem c_tup (h : X.K = K := by rfl) : CallR X (.type "tuple") (rTupOf K) := by
  subst h
  exact call_tuple_of
theorem c_lst (h : X.K = K := by rfl) : CallR X (.type "list") (rLstOf K) := by
  subst h
  exact call_list_of
theorem c_len (h : X.K = K := by rfl) : CallR X (.builtin "len") (rLenOf K) := by
  subst h
  exact call_len_seq
theorem c_isi (h : X.K = K := by rfl) : CallR X (.builtin "isinstance") (rIsi K) := by
  subst h
  exact call_isi
theorem c_isiT (h : X.K = K := by rfl) : CallR X (.builtin "isinstance") (rIsiT K) := by
  subst h
  exact call_isiT
theorem c_all (hc : X.calm = true) (h : X.K = K := by rfl) : CallR X (.builtin "all") (rAll K) := by
  subst h
  exact cr_all hc
theorem c_any (hc : X.calm = true) (h : X.K = K := by rfl) : CallR X (.builtin "any") (rAny K) := by
  subst h
  exact cr_any hc
theorem i_list (h : X.K = K := by rfl) : IxR X (rIxL K) := by
  subst h
  exact ix_list
theorem i_tup (h : X.K = K := by rfl) : IxR X (rIxT K) := by
  subst h
  exact ix_tup
theorem l_list (h : X.K = K := by rfl) : SlR X (rSlL K) := by
  subst h
  exact sl_list
theorem l_tup (h : X.K = K := by rfl) : SlR X (rSlA K) := by
  subst h
  exact sl_tupA
theorem o_cat (h : X.K = K := by rfl) : OpR X (binaryOp .Add) (rCatA K) := by
  subst h
  exact op_catA
theorem o_in (h : X.K = K := by rfl) : OpR X (compareOp .In) (rIn K false) := by
  subst h
  exact op_in_seq
theorem o_notin (h : X.K = K := by rfl) : OpR X (compareOp .NotIn) (rIn K true) := by
  subst h
  exact op_notIn_seq
theorem p_list {tg l : Expr} {tl : TE} (hl : PE X l tl) (h : X.K = K := by rfl) : PI X tg l (iList K tl) := by
  subst h
  exact pi_list hl
theorem p_tup {tg l : Expr} {tl : TE} (hl : PE X l tl) (h : X.K = K := by rfl) : PI X tg l (iTup K tl) := by
  subst h
  exact pi_tup hl
theorem g_tup {es : List Expr} {k : Nat} {t : TGs} {n : Nat} {pos : Pos} (hc : X.calm = true) (h : PGs X es t) (hn : (assignEach es X.env).length = n := by rfl) (hst : (assignEach es X.env).findIdx? (·.1) = none := by rfl) (hK : X.K = K := by rfl) : PG X (.Tuple es k pos) (gTup K n t) := by
  subst hK
  exact pg_tup hc h hn hst
theorem pe_gint {x : Str} {pos : Pos} {i : Int} (hg : Gl X x) (hm : ∃ t, X.mg x = some (.int i t)) (hdb : (x == ("__debug__" : Str)) = false := by decide) : PE X (.Name x pos) (tC (.int i)) := by
  obtain ⟨t, hm⟩ := hm
  exact pe_glob hg hm ⟨t, rfl⟩ (hd := hdb)
end
/-! ### heaps -/
theorem same_upd {H : Hp} {p : Addr} {o : HO} (h : H p = none) : Same H (upd H p o) := fun b x e => by
  rw [upd_ne (ne_of_none e h)]
  exact e
/-- all but what stands at f is as it was -/
def SameBut (f : Addr) (H H' : Hp) : Prop := ∀ b o, b ≠ f → H b = some o → H' b = some o
theorem SameBut.refl (f : Addr) (H : Hp) : SameBut f H H := fun _ _ _ h => h
theorem SameBut.trans {f : Addr} {H H1 H2 : Hp} (a : SameBut f H H1) (b : SameBut f H1 H2) : SameBut f H H2 := fun c o n h => b c o n (a c o n h)
theorem SameBut.upd {f : Addr} {H H1 : Hp} {o : HO} (a : SameBut f H H1) : SameBut f H (upd H1 f o) := fun c o n h => by
  rw [upd_ne n]
  exact a c o n h
theorem SameBut.new {f p : Addr} {H H1 : Hp} {o : HO} (a : SameBut f H H1) (h : H1 p = none) : SameBut f H (L2.upd H1 p o) := fun c o n q => by
  have z := a c o n q
  rw [upd_ne (ne_of_none z h)]
  exact z
theorem _root_.L2.Same.but {f : Addr} {H H1 : Hp} (a : Same H H1) : SameBut f H H1 := fun c o _ h => a c o h
theorem SameBut.same {f : Addr} {H0 H H1 : Hp} (a : SameBut f H H1) (h : H0 f = none) (s : Same H0 H) : Same H0 H1 := fun c o q => a c o (ne_of_none q h) (s c o q)
/-! ### what the law draws from -/
def FeedAt (H : Hp) (f l : Addr) : Prop := ∃ (ns : List Int) (i : Nat) (n m c : Int), l ≠ f ∧ H f = some (.lst [.ref l, .int i, .int n, .int m, .int c]) ∧ H l = some (.lst (ns.map V.int)) ∧ i ≤ ns.length ∧ 0 ≤ n ∧ 0 ≤ m ∧ m < 2147483647
theorem FeedAt.same {H H' : Hp} {f l : Addr} (s : Same H H') (h : FeedAt H f l) : FeedAt H' f l := by
  obtain ⟨ns, i, n, m, c, a, b, d, r⟩ := h
  exact ⟨ns, i, n, m, c, a, s _ _ b, s _ _ d, r⟩
theorem FeedAt.put {H : Hp} {f l b : Addr} {o : HO} (h : FeedAt H f l) (n1 : b ≠ f) (n2 : b ≠ l) : FeedAt (upd H b o) f l := by
  obtain ⟨ns, i, n, m, c, a, b', d, r⟩ := h
  exact ⟨ns, i, n, m, c, a, by rw [upd_ne (Ne.symm n1)]; exact b', by rw [upd_ne (Ne.symm n2)]; exact d, r⟩
theorem FeedAt.ne {H : Hp} {f l p : Addr} (h : FeedAt H f l) (n : H p = none) : p ≠ f := by
  obtain ⟨_, _, _, _, _, _, b, _⟩ := h
  exact Ne.symm (ne_of_none b n)
theorem FeedAt.ne2 {H : Hp} {f l p : Addr} (h : FeedAt H f l) (n : H p = none) : p ≠ l := by
  obtain ⟨_, _, _, _, _, _, _, d, _⟩ := h
  exact Ne.symm (ne_of_none d n)
theorem FeedAt.tup {H : Hp} {f l p : Addr} {xs : List V} (h : FeedAt H f l) (n : H p = some (.tup xs)) : p ≠ f := by
  obtain ⟨_, _, _, _, _, _, b, _⟩ := h
  exact ne_of n b (by intro z; cases z)
theorem SameBut.updN {f b : Addr} {H H1 : Hp} {o : HO} (a : SameBut f H H1) (h : H b = none) : SameBut f H (L2.upd H1 b o) := fun c o n q => by
  rw [upd_ne (ne_of_none q h)]
  exact a c o n q
theorem int_at {ns : List Int} {i : Nat} {y : V} (h : (ns.map V.int)[i]? = some y) : ∃ u, ns[i]? = some u ∧ y = .int u := by
  rw [List.getElem?_map] at h
  cases e : ns[i]? with
  | none =>
    rw [e] at h
    cases h
  | some u =>
    rw [e] at h
    exact ⟨u, rfl, (Option.some.inj h).symm⟩
end Bw
set_option Elab.async false
set_option linter.all false
set_option maxRecDepth 100000
set_option maxHeartbeats 4000000
namespace Bw
open PySem PySem.Spec PyProof.Rows L2
theorem tuple_mul1 (l : Addr) (items : Array Value) (n : Nat) (dd : Option Addr) (sl : Array (Option Value)) (u : Tok) :
    Meets (Builtin.«tuple.__mul__» ⟨[.ref l, .int 1 u], []⟩) (fun _ R s => s.heap.get? l = some { cls := .type "tuple", dict := dd, data := .seq items n, slots := sl } ∧ R (.ok (.ret (Value.ref l))) s) :=
  .of_wp fun prog w A R s h => by
    obtain ⟨hp, g, d, tk, os⟩ := s
    obtain ⟨hl, h⟩ := h
    have f1 := AutoSeq1.idx_int
    have c1 : (items.isEmpty || (1 : Int) == 1) = true := by simp
    wp_walk using wpAny_loadPart' hl
    repeat (first
      | (refine wpAny_ite_true (decide_eq_true c1) ?_; wp_walk using wpAny_loadPart' hl)
      | (refine wpAny_ite_false (by decide) ?_; wp_walk using wpAny_loadPart' hl))
    exact ⟨_, rfl, h⟩
/-- t * k, k from 1 on -/
def rRep1 (K : PySem.W.Frag) : R2 := fun x y H Q => ∃ l k xs, x = .ref l ∧ y = .int k ∧ SqT K H l xs ∧ xs ≠ [] ∧ 1 ≤ k ∧ k ≤ 1000 ∧ xs.length ≤ 1000 ∧ (k = 1 → Q (.ref l) H) ∧ (2 ≤ k → ∀ p, H p = none → Q (.ref p) (upd H p (.tup (List.replicate k.toNat xs).flatten)))
theorem o_rep {X : Cx} {K : PySem.W.Frag} (hK : X.K = K := by rfl) : OpR X (binaryOp .Mult) (rRep1 K) := by
  subst hK
  intro pins s σ H x y v u Q I rx ry h
  obtain ⟨l, k, xs, rfl, rfl, hT, hne, h1, h2, hz, q1, q2⟩ := h
  by_cases hk : k = 1
  · subst hk
    cases rx
    obtain ⟨t, rfl⟩ := ry
    obtain ⟨its, r, ⟨⟨cls, dd, data, sl⟩, ho, hc, n, hd⟩, hs⟩ := I.tuple hT
    simp only at hc hd
    subst hc hd
    refine wpAny_binaryOp_repeat_ref (T := "tuple") (U := "int") (by decide) ⟨_, ho, rfl⟩ (fun s' => typeIs_int s' 1 t) noFill_tuple_mul F.fills_int_mul F.slot_int_rmul repeat_tuple F.slot_int_index.lookup
      (call_meets F.slot_int_rmul (typeIs_int s 1 t) F.entry_int_rmul (F.args_int_rmul_2 _ _) (int_rmul_tuple 1 t l its.toArray n dd sl)
        ⟨ho, rfl, ⟨_, ho, rfl⟩, call_meets F.slot_tuple_mul ⟨_, ho, rfl⟩ F.entry_tuple_mul (F.args_tuple_mul_2 _ _) (tuple_mul1 l its.toArray n dd sl t) ⟨ho, ?_⟩⟩)
    exact ⟨.ref l, H, I, rfl, q1 rfl⟩
  · exact op_repT pins s σ H _ _ v u Q I rx ry ⟨l, k, xs, rfl, rfl, hT, hne, by omega, h2, hz, q2 (by omega)⟩
end Bw
set_option Elab.async false
set_option linter.all false
set_option maxRecDepth 100000
set_option maxHeartbeats 4000000
namespace Bw
open PySem PySem.Spec PyProof.Rows L2
/-! ### t * k, k from 0 on -/
theorem tuple_mul0 (l : Addr) (items : Array Value) (n : Nat) (dd : Option Addr) (sl : Array (Option Value)) (u : Tok) (hne : items.isEmpty = false) :
    Meets (Builtin.«tuple.__mul__» ⟨[.ref l, .int 0 u], []⟩) (fun _ R s => s.heap.get? l = some { cls := .type "tuple", dict := dd, data := .seq items n, slots := sl } ∧ R (.ok (.ret (Value.ref s.heap.objs.size))) { s with heap := s.heap.push { cls := Value.type "tuple", data := Data.seq #[] }, toks := s.toks }) :=
  .of_wp fun prog w A R s h => by
    obtain ⟨hp, g, d, tk, os⟩ := s
    obtain ⟨hl, h⟩ := h
    have f1 := AutoSeq1.idx_int
    have c1 : (items.isEmpty || (0 : Int) == 1) = false := by rw [hne]; rfl
    have c2 : (decide ((0 : Int) ≤ 0) || items.isEmpty) = true := by simp
    wp_walk using wpAny_loadPart' hl
    repeat (first
      | (refine wpAny_ite_true (decide_eq_true c2) ?_; wp_walk using wpAny_loadPart' hl)
      | (refine wpAny_ite_false (by decide) ?_; wp_walk using wpAny_loadPart' hl)
      | (refine wpAny_ite_false (decide_eq_false (by rw [c1]; exact Bool.false_ne_true)) ?_; wp_walk using wpAny_loadPart' hl))
    exact ⟨_, rfl, h⟩
def rRepZ (K : PySem.W.Frag) : R2 := fun x y H Q => ∃ l k xs, x = .ref l ∧ y = .int k ∧ SqT K H l xs ∧ xs ≠ [] ∧ 0 ≤ k ∧ k ≤ 1000 ∧ xs.length ≤ 1000 ∧ (k = 0 → ∀ p, H p = none → Q (.ref p) (upd H p (.tup []))) ∧ (k = 1 → Q (.ref l) H) ∧ (2 ≤ k → ∀ p, H p = none → Q (.ref p) (upd H p (.tup (List.replicate k.toNat xs).flatten)))
theorem o_repZ {X : Cx} {K : PySem.W.Frag} (hK : X.K = K := by rfl) : OpR X (binaryOp .Mult) (rRepZ K) := by
  subst hK
  intro pins s σ H x y v u Q I rx ry h
  obtain ⟨l, k, xs, rfl, rfl, hT, hne, h1, h2, hz, q0, q1, q2⟩ := h
  by_cases hk : k = 0
  · subst hk
    cases rx
    obtain ⟨t, rfl⟩ := ry
    obtain ⟨its, r, ⟨⟨cls, dd, data, sl⟩, ho, hc, n, hd⟩, hs⟩ := I.tuple hT
    simp only at hc hd
    subst hc hd
    have hi : its.toArray.isEmpty = false := by
      cases its with
      | nil =>
        cases r
        exact absurd rfl hne
      | cons a b => rfl
    refine wpAny_binaryOp_repeat_ref (T := "tuple") (U := "int") (by decide) ⟨_, ho, rfl⟩ (fun s' => typeIs_int s' 0 t) noFill_tuple_mul F.fills_int_mul F.slot_int_rmul repeat_tuple F.slot_int_index.lookup
      (call_meets F.slot_int_rmul (typeIs_int s 0 t) F.entry_int_rmul (F.args_int_rmul_2 _ _) (int_rmul_tuple 0 t l its.toArray n dd sl)
        ⟨ho, rfl, ⟨_, ho, rfl⟩, call_meets F.slot_tuple_mul ⟨_, ho, rfl⟩ F.entry_tuple_mul (F.args_tuple_mul_2 _ _) (tuple_mul0 l its.toArray n dd sl t hi) ⟨ho, ?_⟩⟩)
    exact ⟨.ref s.heap.objs.size, _, I.laid (t' := s.toks) (o := .tup []) (fun b ob z => Heap.get?_push_of_some _ z) (Nat.le_refl _) ⟨Nat.zero_le _, [], .nil, IsTup.new _ _⟩, rfl, q0 rfl _ (I.hok.fresh (Nat.le_refl _))⟩
  · exact o_rep (X := X) rfl pins s σ H _ _ v u Q I rx ry ⟨l, k, xs, rfl, rfl, hT, hne, by omega, h2, hz, q1, q2⟩
/-! ### len(x), x == y, x != y of own instances -/
section
variable {X : Cx} {CX : CXT} {C f : Addr} {fd : FuncData} {ps : List Str} {sp : Sp} {n : Nat} {E : XK}
def rLenOwn (C : Addr) (sp : Sp) (E : XK) : List V → Hp → VK → Prop := fun xs H Q => ∃ a dx fs, xs = [V.ref a] ∧ H a = some (.ins C dx fs) ∧ sp [.ref a] H (fun z H' => ∃ i : Int, z = .int i ∧ 0 ≤ i ∧ i < 2 ^ 63 ∧ Q (.int i) H') E
theorem c_lenOwn (hs : PySem.W.findIn X.K (.ref C) "__len__" = some (some (.ref f))) (hf : PySem.W.isFn X.K (.ref f) = true) (F : FnOk X.prog X.w X.K X.mg X.base CX n f fd ps sp) (hr : Room (n + 1) X.A) (hb : Binds X.K fd ps []) (hx : Passes CX X E) : CallR X (.builtin "len") (rLenOwn C sp E) := by
  intro pins s σ H xs us Q I r h
  obtain ⟨a, dx, fs, rfl, ha, q⟩ := h
  obtain ⟨u, rfl, ru⟩ := vals1 r
  obtain rfl : u = Value.ref a := ru
  obtain ⟨mA, J, _⟩ := ins_get I.hok ha
  obtain ⟨od, J, _⟩ := J.look
  obtain ⟨m, hF⟩ := I.fr
  refine PySem.W.len_K hF I.ok.mod.kin J hs hf ?_
  have hl := F.len _ _ _ _ q
  refine wpAny_call (codeAny_mono (F.run X.A.in1 X.stack s H ⟨[.ref a], []⟩ [.ref a] [.ref a] _ E hr.in1 I.env0.in1 (by
    have z := hb s [.ref a] I.kIn (by simpa using hl)
    simpa using z) (.cons rfl .nil) q) fun r s' hq => ?_)
  cases r with
  | error e => exact hx pins σ H s e s' I hq
  | ok fl =>
    cases fl with
    | ret w =>
      obtain ⟨z, H', I', rz, i, ei, i0, i1, qz⟩ := I.after hq
      subst ei
      obtain ⟨t, rfl⟩ := (show ∃ t, w = Value.int i t from rz)
      exact ⟨⟨i0, i1⟩, .int i, H', I'.tok _, ⟨_, rfl⟩, qz⟩
    | next => exact False.elim hq
    | brk => exact False.elim hq
    | cont => exact False.elim hq
def rEqOwn (C : Addr) (sp : Sp) (E : XK) (neg : Bool) : R2 := fun x y H Q => ∃ a dx fs b dy gs, x = .ref a ∧ y = .ref b ∧ H a = some (.ins C dx fs) ∧ H b = some (.ins C dy gs) ∧ sp [.ref a, .ref b] H (fun z H' => ∃ c : Bool, z = .bl c ∧ Q (.bl (if neg then !c else c)) H') E
theorem own_run (F : FnOk X.prog X.w X.K X.mg X.base CX n f fd ps sp) {A : Around} (hr : Room n A) (hfr : A.frames = X.A.frames) (hb : Binds X.K fd ps []) (hx : Passes CX X E) {pins : List (Addr × Obj)} {s : Shared} {σ : L2.St} {H : Hp} {a b : Addr} {Q : Bool → Hp → Prop} (I : L2.Inv X pins σ H s)
    (q : sp [.ref a, .ref b] H (fun z H' => ∃ c : Bool, z = .bl c ∧ Q c H') E) : wpAny (model X.prog X.w) A (call (.ref f) [.ref a, .ref b]) (fun v s' => ∃ (c : Bool) (H' : Hp), v = .bool c ∧ L2.Inv X pins σ H' s' ∧ Q c H') X.xe s := by
  have hl := F.len _ _ _ _ q
  have e0 : Env0 X.prog X.w X.K X.mg X.base A X.stack s H := by
    have e := I.env0
    exact ⟨by rw [hfr]; exact e.frames, e.mod, e.bs, e.bsz, e.funs, e.frf, e.hok, e.bare⟩
  refine wpAny_call (codeAny_mono (F.run A X.stack s H ⟨[.ref a, .ref b], []⟩ [.ref a, .ref b] [.ref a, .ref b] _ E hr e0 (by
    have z := hb s [.ref a, .ref b] I.kIn (by simpa using hl)
    simpa using z) (.cons rfl (.cons rfl .nil)) q) fun r s' hq => ?_)
  cases r with
  | error e => exact hx pins σ H s e s' I hq
  | ok fl =>
    cases fl with
    | ret w =>
      obtain ⟨z, H', I', rz, c, ec, qc⟩ := I.after hq
      subst ec
      obtain rfl : w = Value.bool c := rz
      exact ⟨c, H', rfl, I', qc⟩
    | next => exact False.elim hq
    | brk => exact False.elim hq
    | cont => exact False.elim hq
theorem o_eqOwn (hs : PySem.W.findIn X.K (.ref C) "__eq__" = some (some (.ref f))) (hf : PySem.W.isFn X.K (.ref f) = true) (F : FnOk X.prog X.w X.K X.mg X.base CX n f fd ps sp) (hr : Room n X.A) (hb : Binds X.K fd ps []) (hx : Passes CX X E) : OpR X (compareOp .Eq) (rEqOwn C sp E false) := by
  intro pins s σ H x y v u Q I rx ry h
  obtain ⟨a, dx, fs, b, dy, gs, rfl, rfl, ha, hb', q⟩ := h
  cases rx
  cases ry
  obtain ⟨mA, J, _⟩ := ins_get I.hok ha
  obtain ⟨mB, J', _⟩ := ins_get I.hok hb'
  obtain ⟨od, J, _⟩ := J.look
  obtain ⟨od', J', _⟩ := J'.look
  obtain ⟨m, hF⟩ := I.fr
  show wpAny _ _ (richCompare .Eq (.ref a) (.ref b)) _ _ _
  refine PySem.W.cmp_K (op := .Eq) (tb := .ref C) hr.units0 hF I.ok.mod.kin J J'.type (by simp [PySem.W.notFirst]) hs hf ?_
  refine wpAny_mono (own_run F hr rfl hb hx I q) (fun v s' z => ?_) fun _ _ z => z
  obtain ⟨c, H', rfl, I', qc⟩ := z
  exact ⟨.bl c, H', I', rfl, qc⟩
end
end Bw
set_option Elab.async false
set_option linter.all false
set_option maxRecDepth 100000
set_option maxHeartbeats 4000000
namespace Bw
open PySem PySem.Spec PyProof.Rows L2
section
variable {prog : Program} {w : World} {A : Around} {E : Value → Shared → Prop} {s : Shared} {K : PySem.W.Frag} {x C f : Addr} {ox : Obj} {od : Option Obj} {b : Value}
theorem ifBound_ne {Q : Option Value → Shared → Prop} (X : K.In s.heap) (I : PySem.W.InstAt s.heap x ox C od) (hs : PySem.W.findIn K (.ref C) "__ne__" = some (some (.builtin "object.__ne__")))
    (h : wpAny (model prog w) A (call (.builtin "object.__ne__") [.ref x, b]) (fun v => Q (some v)) E s) : wpAny (model prog w) A (callSpecialIfBound? (.ref x) "__ne__" [b]) Q E s := by
  have S := F.cmp_object.ne
  simp only [callSpecialIfBound?, bindSpecialIfBound?]
  refine wpAny_holding (wpAny_bind (wpAny_bind (wpAny_bind (I.type.here ((PySem.W.looks_findIn X hs).here ?_)))))
  simp only [S.bind]
  refine wpAny_bind (wpAny_askSetting (wpAny_ite ?_))
  have fin : wpAny (model prog w) A (call (.builtin "object.__ne__") ([.ref x] ++ [b]) >>= fun v => pure (some v)) Q E s := wpAny_bind (wpAny_mono h (fun _ _ z => wpAny_pure z) fun _ _ z => z)
  split
  · exact wpAny_bind (wpAny_pure (wpAny_pure fin))
  · exact wpAny_tryCatch (wpAny_bind (wpAny_pure (wpAny_pure fin)))
theorem call_ne {Q : Value → Shared → Prop} (hu : A.units + 1 < cLine) (X : K.In s.heap) (I : PySem.W.InstAt s.heap x ox C od) (hob : PySem.W.mroIn K C (.type "object") = some true) (hs : PySem.W.findIn K (.ref C) "__eq__" = some (some (.ref f))) (hf : PySem.W.isFn K (.ref f) = true)
    (h : wpAny (model prog w) A.in1 (call (.ref f) [.ref x, b]) (fun v s' => ∃ c, v = .bool c ∧ Q (.bool !c) s') E s) : wpAny (model prog w) A (call (.builtin "object.__ne__") [.ref x, b]) Q E s := by
  have sub : PySem.W.Looks (model prog w) s.heap (isInstance (.ref x) (.type "object")) true := I.type.andThen (PySem.W.looks_mroIn X hob)
  refine wpAny_call (codeAny_call_builtin F.cmp_object.ne.plain F.cmpEntry_ne (PySem.W.check_slot F.cmpKind_ne F.cmpSplit_ne sub (F.cmpArgs_ne _ _) ?_))
  unfold Builtin.«object.__ne__»
  have one : wpAny (model prog w) A.in1 (callSpecialIfBound? (.ref x) "__eq__" [b]) (fun r s' => ∃ c, r = some (.bool c) ∧ Q (.bool !c) s') E s := PySem.W.ifBound_K X I hs hf (wpAny_mono h (fun v s' z => by
    obtain ⟨c, rfl, q⟩ := z
    exact ⟨c, rfl, q⟩) fun _ _ z => z)
  repeat (first | with_reducible refine wpAny_cRoomFor hu ?_ | (with_reducible refine wpAny_mono one (fun r s' z => ?_) (fun _ _ e => e); obtain ⟨c, rfl, q⟩ := z) | wp_step)
  exact q
theorem rich_ne {Q : Value → Shared → Prop} (hu : A.units + 1 < cLine) (X : K.In s.heap) (I : PySem.W.InstAt s.heap x ox C od) (hb : PySem.W.Looks (model prog w) s.heap (typeOf b) (.ref C)) (hob : PySem.W.mroIn K C (.type "object") = some true)
    (hn : PySem.W.findIn K (.ref C) "__ne__" = some (some (.builtin "object.__ne__"))) (hs : PySem.W.findIn K (.ref C) "__eq__" = some (some (.ref f))) (hf : PySem.W.isFn K (.ref f) = true)
    (h : wpAny (model prog w) A.in1 (call (.ref f) [.ref x, b]) (fun v s' => ∃ c, v = .bool c ∧ Q (.bool !c) s') E s) : wpAny (model prog w) A (richCompare .NotEq (.ref x) b) Q E s := by
  have one : wpAny (model prog w) A (tryCompare (.ref x) (cmpInfo .NotEq).2.1 b) (fun r s' => ∃ c : Bool, r = some (.bool !c) ∧ Q (.bool !c) s') E s := by
    unfold tryCompare
    have two : wpAny (model prog w) A (call (.builtin "object.__ne__") [.ref x, b]) (fun v s' => ∃ c : Bool, v = .bool !c ∧ Q (.bool !c) s') E s := by
      refine call_ne hu X I hob hs hf (wpAny_mono h (fun v s' z => ?_) fun _ _ z => z)
      obtain ⟨c, e, q⟩ := z
      exact ⟨c, e, c, rfl, q⟩
    refine wpAny_bind (ifBound_ne X I hn (wpAny_mono two (fun v s' y => ?_) fun _ _ y => y))
    obtain ⟨c, rfl, q⟩ := y
    exact wpAny_pure ⟨c, rfl, q⟩
  unfold richCompare
  simp only [oneThing_ref]
  refine wpAny_holding (wpAny_bind (wpAny_cRoomFor (by omega) ?_))
  refine wpAny_bind (I.type.here (wpAny_bind (hb.here ?_)))
  split
  · rename_i q
    simp at q
  · refine wpAny_bind (wpAny_pure ?_)
    simp only [Bool.false_eq_true, if_false]
    refine wpAny_bind (wpAny_mono one (fun r s' z => ?_) fun _ _ e => e)
    obtain ⟨c, rfl, hq⟩ := z
    exact wpAny_pure hq
end
section
variable {X : Cx} {CX : CXT} {C f : Addr} {fd : FuncData} {ps : List Str} {sp : Sp} {n : Nat} {E : XK}
theorem o_neOwn (hob : PySem.W.mroIn X.K C (.type "object") = some true) (hn : PySem.W.findIn X.K (.ref C) "__ne__" = some (some (.builtin "object.__ne__"))) (hs : PySem.W.findIn X.K (.ref C) "__eq__" = some (some (.ref f))) (hf : PySem.W.isFn X.K (.ref f) = true)
    (F : FnOk X.prog X.w X.K X.mg X.base CX n f fd ps sp) (hr : Room (n + 1) X.A) (hb : Binds X.K fd ps []) (hx : Passes CX X E) : OpR X (compareOp .NotEq) (rEqOwn C sp E true) := by
  intro pins s σ H x y v u Q I rx ry h
  obtain ⟨a, dx, fs, b, dy, gs, rfl, rfl, ha, hb', q⟩ := h
  cases rx
  cases ry
  obtain ⟨mA, J, _⟩ := ins_get I.hok ha
  obtain ⟨mB, J', _⟩ := ins_get I.hok hb'
  obtain ⟨od, J, _⟩ := J.look
  obtain ⟨od', J', _⟩ := J'.look
  show wpAny _ _ (richCompare .NotEq (.ref a) (.ref b)) _ _ _
  have hu : X.A.units + 1 < cLine := by
    have z := hr.un
    omega
  refine rich_ne hu I.kIn J J'.type hob hn hs hf (wpAny_mono (own_run F hr.in1 rfl hb hx I q) (fun v s' z => ?_) fun _ _ z => z)
  obtain ⟨c, H', rfl, I', qc⟩ := z
  exact ⟨c, rfl, .bl !c, H', I', rfl, qc⟩
end
end Bw
set_option Elab.async false
set_option linter.all false
set_option maxRecDepth 100000
set_option maxHeartbeats 4000000
namespace Bw
open PySem PySem.Spec PyProof.Rows L2
/-! ### zip of a list and a tuple, either way about: by what is asked of one side -/
structure Src (P : Program) (w : World) (i l : Addr) (St : Nat → Heap → Prop) (Sq : Array Value → Heap → Prop) : Prop where
  obj : ∀ k h, St k h → ∃ o, h.get? i = some o ∧ ∀ v, o.data ≠ .cell v
  keep : ∀ k h h', St k h → (∀ o, h.get? i = some o → h'.get? i = some o) → St k h'
  keepS : ∀ xs h h', Sq xs h → (∀ o, h.get? l = some o → h'.get? l = some o) → Sq xs h'
  item : ∀ (A : Around) (E : Value → Shared → Prop) (s : Shared) (k : Nat) (xs : Array Value) (x : Value) (Q : Value → Shared → Prop), St k s.heap → Sq xs s.heap → xs[k]? = some x →
    (∀ h', St (k + 1) h' → Heap.SameBut i s.heap h' → Q x { s with heap := h' }) → wpAny (model P w) A (Builtin.SmallTypes.nextOf (.ref i)) Q E s
  fin : ∀ (A : Around) (E : Value → Shared → Prop) (s : Shared) (k : Nat) (xs : Array Value) (Q : Value → Shared → Prop), A.handled = none → St k s.heap → Sq xs s.heap → xs[k]? = none →
    (∀ h' e, Heap.ExtBut i s.heap h' → (∃ o, h'.get? e = some o ∧ o.cls = .type "StopIteration") → E (.ref e) { s with heap := h' }) → wpAny (model P w) A (Builtin.SmallTypes.nextOf (.ref i)) Q E s
theorem src_list {P : Program} {w : World} {i l : Addr} : Src P w i l (fun k h => h.IsListIter i l k) (fun xs h => h.IsList l xs) where
  obj := fun k h st => by
    obtain ⟨o, e, _, d⟩ := st
    exact ⟨o, e, fun v q => by rw [d] at q; cases q⟩
  keep := fun k h h' st kp => st.at kp
  keepS := fun xs h h' st kp => st.at kp
  item := fun A E s k xs x Q st sq hx q => wpAny_nextOf_list_item st sq hx q
  fin := fun A E s k xs Q hh st sq hx q => wpAny_nextOf_list_end hh st sq hx q
theorem src_tup {P : Program} {w : World} {i l : Addr} : Src P w i l (fun k h => h.IsTupleIter i l k) (fun xs h => h.IsTuple l xs) where
  obj := fun k h st => by
    obtain ⟨o, e, _, d⟩ := st
    exact ⟨o, e, fun v q => by rw [d] at q; cases q⟩
  keep := fun k h h' st kp => st.at kp
  keepS := fun xs h h' st kp => by
    obtain ⟨o, e, z⟩ := st
    exact ⟨o, kp o e, z⟩
  item := fun A E s k xs x Q st sq hx q => RZ.nextOf_tuple_item st sq hx q
  fin := fun A E s k xs Q hh st sq hx q => RZ.nextOf_tuple_end hh st sq hx q
section
variable {P : Program} {w : World} {A : Around} {E : Value → Shared → Prop} {s : Shared} {z TI TO i1 i2 l1 l2 : Addr} {U1 U2 : Nat → Heap → Prop} {Z1 Z2 : Array Value → Heap → Prop}
theorem zipG_item {k : Nat} {xs ys : Array Value} {x y a b : Value} {Q : Value → Shared → Prop} (S1 : Src P w i1 l1 U1 Z1) (S2 : Src P w i2 l2 U2 Z2) (D : ZipApart z TI TO i1 i2 l1 l2)
    (hz : IsZip s.heap z TI TO .none) (hTI : IsPair s.heap TI (.ref i1) (.ref i2)) (hTO : IsPair s.heap TO a b) (h1 : U1 k s.heap) (h2 : U2 k s.heap) (hl1 : Z1 xs s.heap) (hl2 : Z2 ys s.heap) (hx : xs[k]? = some x) (hy : ys[k]? = some y)
    (hQ : ∀ h', IsZip h' z TI TO (rawInt s.heap.objs.size) → IsPair h' TO x y → U1 (k + 1) h' → U2 (k + 1) h' → IsPair h' s.heap.objs.size x y →
      (∀ c o, c ≠ z → c ≠ TO → c ≠ i1 → c ≠ i2 → s.heap.get? c = some o → h'.get? c = some o) → Q (.ref s.heap.objs.size) { s with heap := h' }) :
    wpAny (model P w) A (Builtin.«zip.__next__» ⟨[.ref z], []⟩) (fun fin s' => ∃ v, fin = .done (.ret v) ∧ Q v s') E s := by
  show wpAny _ _ (field (Value.ref z) 2 >>= _) _ _ _
  refine wpAny_bind (wpAny_field hz (rfl) (x := .bool false) rfl ?_); show wpAny _ _ (field (Value.ref z) 3 >>= _) _ _ _
  refine wpAny_bind (wpAny_field hz (rfl) (x := .ref TI) rfl ?_); refine wpAny_bind (wpAny_seqItems hTI (rfl) ?_)
  show wpAny _ _ (Builtin.SmallTypes.ownedTupleIsFree (Value.ref z) >>= _) _ _ _
  refine wpAny_bind ?_; unfold Builtin.SmallTypes.ownedTupleIsFree
  refine wpAny_bind (wpAny_field hz (rfl) (x := .none) rfl (wpAny_pure ?_)); simp only [if_true]
  refine wpAny_bind (wpAny_rule ?_); refine wpAny_bind (wpAny_field hz (rfl) (x := .ref TO) rfl ?_)
  refine wpAny_bind (wpAny_setField_rec hz (by simp) fun g1 z1 b1 => ?_); replace z1 : IsZip g1 z TI TO .ellipsis := z1
  refine wpAny_bind ?_; simp only [List.zipIdx_cons, List.zipIdx_nil, List.forIn_cons, List.forIn_nil]
  refine wpAny_bind (wpAny_bind (wpAny_onRaise ?_)); show wpAny _ _ (Builtin.SmallTypes.nextOf (Value.ref i1) >>= _) _ _ _
  refine wpAny_bind (S1.item _ _ _ k xs x _ (S1.keep _ _ _ h1 fun o e => b1.extBut _ _ D.i1z e) (S1.keepS _ _ _ hl1 fun o e => b1.extBut _ _ D.l1z e) hx fun g2 u1 b2 => wpAny_pure ?_)
  have p2 : IsPair g2 TO a b := b2.extBut _ _ D.TOi1 (b1.extBut _ _ D.TOz hTO)
  refine wpAny_bind (wpAny_seqItems p2 (rfl) ?_); refine wpAny_bind (wpAny_updateSeq_pair p2 fun g3 p3 b3 => ?_); replace p3 : IsPair g3 TO x b := p3
  refine wpAny_bind (wpAny_letGo (wpAny_pure ?_)); refine wpAny_bind (wpAny_bind (wpAny_onRaise ?_)); show wpAny _ _ (Builtin.SmallTypes.nextOf (Value.ref i2) >>= _) _ _ _
  refine wpAny_bind (S2.item _ _ _ k ys y _ (S2.keep _ _ _ h2 fun o e => b3.extBut _ _ D.TOi2.symm (b2.extBut _ _ D.i12.symm (b1.extBut _ _ D.i2z e)))
    (S2.keepS _ _ _ hl2 fun o e => b3.extBut _ _ D.l2TO (b2.extBut _ _ D.l2i1 (b1.extBut _ _ D.l2z e))) hy fun g4 u2 b4 => wpAny_pure ?_)
  have p4 : IsPair g4 TO x b := b4.extBut _ _ D.TOi2 p3
  refine wpAny_bind (wpAny_seqItems p4 (rfl) ?_); refine wpAny_bind (wpAny_updateSeq_pair p4 fun g5 p5 b5 => ?_); replace p5 : IsPair g5 TO x y := p5
  refine wpAny_bind (wpAny_letGo (wpAny_pure (wpAny_pure ?_))); refine wpAny_bind (wpAny_seqItems p5 (rfl) ?_); refine wpAny_bind (wpAny_newTuple ?_)
  have sz : g5.objs.size = s.heap.objs.size := by rw [b5.1, b4.1, b3.1, b2.1, b1.1]
  have z5 : IsZip g5 z TI TO .ellipsis := b5.extBut _ _ D.TOz.symm (b4.extBut _ _ D.i2z.symm (b3.extBut _ _ D.TOz.symm (b2.extBut _ _ D.i1z.symm z1)))
  have k5 : ∀ c o, c ≠ z → c ≠ TO → c ≠ i1 → c ≠ i2 → s.heap.get? c = some o → g5.get? c = some o := fun c o c1 c2 c3 c4 e => b5.extBut _ _ c2 (b4.extBut _ _ c4 (b3.extBut _ _ c2 (b2.extBut _ _ c3 (b1.extBut _ _ c1 e))))
  have v1 : U1 (k + 1) g5 := S1.keep _ _ _ u1 fun o e => b5.extBut _ _ D.TOi1.symm (b4.extBut _ _ D.i12 (b3.extBut _ _ D.TOi1.symm e))
  have v2 : U2 (k + 1) g5 := S2.keep _ _ _ u2 fun o e => b5.extBut _ _ D.TOi2.symm e
  have zl : z < g5.objs.size := Heap.lt_size z5
  show wpAny _ _ (Builtin.SmallTypes.ownedTupleHandOut (Value.ref z) (.ref g5.objs.size) >>= _) _ _ _
  refine wpAny_bind ?_; unfold Builtin.SmallTypes.ownedTupleHandOut
  have z6 : IsZip (g5.push { cls := .type "tuple", data := .seq #[x, y] }) z TI TO .ellipsis := Heap.get?_push_of_some _ z5
  refine wpAny_bind (wpAny_setField_rec z6 (by simp) fun g7 z7 b7 => ?_); replace z7 : IsZip g7 z TI TO (rawInt g5.objs.size) := z7
  refine wpAny_setField_rec z7 (by simp) fun g8 z8 b8 => ?_; replace z8 : IsZip g8 z TI TO (rawInt g5.objs.size) := z8
  have up : ∀ c o, c ≠ z → g5.get? c = some o → g8.get? c = some o := fun c o c1 e => b8.extBut _ _ c1 (b7.extBut _ _ c1 (Heap.get?_push_of_some _ e))
  have p8 : IsPair g8 g5.objs.size x y := b8.extBut _ _ (Nat.ne_of_gt zl) (b7.extBut _ _ (Nat.ne_of_gt zl) (Heap.get?_push_size _ rfl))
  rw [sz] at z8 p8
  refine wpAny_pure ⟨_, rfl, ?_⟩; show Q (.ref g5.objs.size) _; rw [sz]
  exact hQ g8 z8 (up _ _ D.TOz p5) (S1.keep _ _ _ v1 fun o e => up _ o D.i1z e) (S2.keep _ _ _ v2 fun o e => up _ o D.i2z e) p8 fun c o c1 c2 c3 c4 e => up c o c1 (k5 c o c1 c2 c3 c4 e)
theorem zipG_end {k : Nat} {xs ys : Array Value} {a b : Value} {Q : PySem.Fin → Shared → Prop} (S1 : Src P w i1 l1 U1 Z1) (S2 : Src P w i2 l2 U2 Z2) (hh : A.handled = none) (D : ZipApart z TI TO i1 i2 l1 l2)
    (hz : IsZip s.heap z TI TO .none) (hTI : IsPair s.heap TI (.ref i1) (.ref i2)) (hTO : IsPair s.heap TO a b) (h1 : U1 k s.heap) (h2 : U2 k s.heap) (hl1 : Z1 xs s.heap) (hl2 : Z2 ys s.heap) (hend : xs[k]? = none ∨ ys[k]? = none)
    (hE : ∀ h' e, (∀ c o, c ≠ z → c ≠ TO → c ≠ i1 → c ≠ i2 → s.heap.get? c = some o → h'.get? c = some o) → (∃ o, h'.get? e = some o ∧ o.cls = .type "StopIteration") → E (.ref e) { s with heap := h' }) :
    wpAny (model P w) A (Builtin.«zip.__next__» ⟨[.ref z], []⟩) Q E s := by
  show wpAny _ _ (field (Value.ref z) 2 >>= _) _ _ _
  refine wpAny_bind (wpAny_field hz (rfl) (x := .bool false) rfl ?_); show wpAny _ _ (field (Value.ref z) 3 >>= _) _ _ _
  refine wpAny_bind (wpAny_field hz (rfl) (x := .ref TI) rfl ?_); refine wpAny_bind (wpAny_seqItems hTI (rfl) ?_)
  show wpAny _ _ (Builtin.SmallTypes.ownedTupleIsFree (Value.ref z) >>= _) _ _ _
  refine wpAny_bind ?_; unfold Builtin.SmallTypes.ownedTupleIsFree
  refine wpAny_bind (wpAny_field hz (rfl) (x := .none) rfl (wpAny_pure ?_)); simp only [if_true]
  refine wpAny_bind (wpAny_rule ?_); refine wpAny_bind (wpAny_field hz (rfl) (x := .ref TO) rfl ?_)
  refine wpAny_bind (wpAny_setField_rec hz (by simp) fun g1 z1 b1 => ?_); replace z1 : IsZip g1 z TI TO .ellipsis := z1
  refine wpAny_bind ?_; simp only [List.zipIdx_cons, List.zipIdx_nil, List.forIn_cons, List.forIn_nil]
  refine wpAny_bind (wpAny_bind (wpAny_onRaise ?_)); show wpAny _ _ (Builtin.SmallTypes.nextOf (Value.ref i1) >>= _) _ _ _
  have j1 : U1 k g1 := S1.keep _ _ _ h1 fun o e => b1.extBut _ _ D.i1z e
  have m1 : Z1 xs g1 := S1.keepS _ _ _ hl1 fun o e => b1.extBut _ _ D.l1z e
  cases hx : xs[k]? with
  | none =>
    refine wpAny_bind (S1.fin _ _ _ k xs _ hh j1 m1 hx fun g2 e b2 he => ?_); obtain ⟨oe, hoe, hce⟩ := he
    have z2 : IsZip g2 z TI TO .ellipsis := b2 _ _ D.i1z.symm z1
    have ez : e ≠ z := fun q => by subst q; rw [z2] at hoe; cases hoe; simp at hce
    refine wpAny_setField_rec z2 (by simp) fun g3 _ b3 => hE g3 e (fun c o c1 _ c3 _ q => b3.extBut _ _ c1 (b2 _ _ c3 (b1.extBut _ _ c1 q))) ⟨oe, b3.extBut _ _ ez hoe, hce⟩
  | some x =>
    have hy : ys[k]? = none := by
      rcases hend with h | h
      · rw [hx] at h; cases h
      · exact h
    refine wpAny_bind (S1.item _ _ _ k xs x _ j1 m1 hx fun g2 u1 b2 => wpAny_pure ?_)
    have p2 : IsPair g2 TO a b := b2.extBut _ _ D.TOi1 (b1.extBut _ _ D.TOz hTO)
    refine wpAny_bind (wpAny_seqItems p2 (rfl) ?_); refine wpAny_bind (wpAny_updateSeq_pair p2 fun g3 p3 b3 => ?_)
    refine wpAny_bind (wpAny_letGo (wpAny_pure ?_)); refine wpAny_bind (wpAny_bind (wpAny_onRaise ?_)); show wpAny _ _ (Builtin.SmallTypes.nextOf (Value.ref i2) >>= _) _ _ _
    refine wpAny_bind (S2.fin _ _ _ k ys _ hh (S2.keep _ _ _ h2 fun o e => b3.extBut _ _ D.TOi2.symm (b2.extBut _ _ D.i12.symm (b1.extBut _ _ D.i2z e)))
      (S2.keepS _ _ _ hl2 fun o e => b3.extBut _ _ D.l2TO (b2.extBut _ _ D.l2i1 (b1.extBut _ _ D.l2z e))) hy fun g4 e b4 he => ?_)
    obtain ⟨oe, hoe, hce⟩ := he
    have z4 : IsZip g4 z TI TO .ellipsis := b4 _ _ D.i2z.symm (b3.extBut _ _ D.TOz.symm (b2.extBut _ _ D.i1z.symm z1))
    have ez : e ≠ z := fun q => by subst q; rw [z4] at hoe; cases hoe; simp at hce
    refine wpAny_setField_rec z4 (by simp) fun g5 _ b5 => hE g5 e (fun c o c1 c2 c3 c4 q => b5.extBut _ _ c1 (b4 _ _ c4 (b3.extBut _ _ c2 (b2.extBut _ _ c3 (b1.extBut _ _ c1 q))))) ⟨oe, b5.extBut _ _ ez hoe, hce⟩
end
/-! ### the step of the hand layer -/
/-- how a side is read off the hand layer's heap -/
structure Side (l : Addr) (K : PySem.W.Frag) (R : Hp → List V → Prop) (Sq : Array Value → Heap → Prop) : Prop where
  get : ∀ (X : Cx) (pins : List (Addr × Obj)) (σ : L2.St) (H : Hp) (s : Shared) (xs : List V), X.K = K → L2.Inv X pins σ H s → R H xs → ∃ its : List Value, Vals xs its ∧ Sq its.toArray s.heap ∧ l < s.heap.objs.size
  inj : ∀ (X : Cx) (pins : List (Addr × Obj)) (σ : L2.St) (H : Hp) (s : Shared) (xs ys : List V), X.K = K → L2.Inv X pins σ H s → R H xs → R H ys → xs = ys
theorem side_list {K : PySem.W.Frag} {a : Addr} : Side a K (fun H xs => SqL K H a xs) (fun arr h => h.IsList a arr) where
  get := fun X pins σ H s xs hK I r => by
    subst hK
    obtain ⟨its, rv, p, _⟩ := I.list r
    exact ⟨its, rv, p.isList, p.lt⟩
  inj := fun X pins σ H s xs ys hK I r r' => by
    subst hK
    exact I.list_inj r r'
theorem side_tup {K : PySem.W.Frag} {a : Addr} : Side a K (fun H xs => SqT K H a xs) (fun arr h => h.IsTuple a arr) where
  get := fun X pins σ H s xs hK I r => by
    subst hK
    obtain ⟨its, rv, p, _⟩ := I.tuple r
    obtain ⟨o, ho, _⟩ := id p
    exact ⟨its, rv, p, Heap.lt_size ho⟩
  inj := fun X pins σ H s xs ys hK I r r' => by
    subst hK
    exact I.tuple_inj r r'
def ItzG (R1 R2 : Hp → List V → Prop) : It :=
  ⟨fun i H => ∃ (xs ys : List V) (x y : V), R1 H xs ∧ R2 H ys ∧ xs[i]? = some x ∧ ys[i]? = some y,
    fun i H v H' => ∃ T x y, v = .ref T ∧ H T = none ∧ H' = upd H T (.tup [x, y]) ∧ (∀ xs, R1 H xs → xs[i]? = some x) ∧ ∀ ys, R2 H ys → ys[i]? = some y,
    fun i H => ∃ xs ys : List V, R1 H xs ∧ R2 H ys ∧ (xs.length ≤ i ∨ ys.length ≤ i)⟩
theorem turn_zipG {P : Program} {w : World} {K : PySem.W.Frag} {elts : List Expr} {kk : Nat} {tpos : Pos} {a b z TI TO i1 i2 : Addr} {R1 R2 : Hp → List V → Prop} {U1 U2 : Nat → Heap → Prop} {Z1 Z2 : Array Value → Heap → Prop}
    (S1 : Src P w i1 a U1 Z1) (S2 : Src P w i2 b U2 Z2) (L1 : Side a K R1 Z1) (L2' : Side b K R2 Z2) (D : ZipApart z TI TO i1 i2 a b) :
    Turn P w K (.Tuple elts kk tpos) (ItzG R1 R2) [z, TI, TO, i1, i2] z (fun i h => IsZip h z TI TO .none ∧ IsPair h TI (.ref i1) (.ref i2) ∧ (∃ x y, IsPair h TO x y) ∧ U1 i h ∧ U2 i h) where
  mem := by simp
  obj := fun i h st c hc => by
    obtain ⟨hz, hTI, ⟨x, y, hTO⟩, e1, e2⟩ := st
    have e' : c = z ∨ c = TI ∨ c = TO ∨ c = i1 ∨ c = i2 := by simpa using hc
    rcases e' with rfl | rfl | rfl | rfl | rfl
    · exact ⟨_, hz, fun v q => nomatch q⟩
    · exact ⟨_, hTI, fun v q => nomatch q⟩
    · exact ⟨_, hTO, fun v q => nomatch q⟩
    · exact S1.obj _ _ e1
    · exact S2.obj _ _ e2
  keep := fun i h h' st k => by
    obtain ⟨hz, hTI, ⟨x, y, hTO⟩, h1, h2⟩ := st
    exact ⟨k z (by simp) _ hz, k TI (by simp) _ hTI, ⟨x, y, k TO (by simp) _ hTO⟩, S1.keep _ _ _ h1 (k i1 (by simp)), S2.keep _ _ _ h2 (k i2 (by simp))⟩
  item := by
    intro X hP hw hK hc i pins s σ H E I hf st hg
    obtain ⟨hz, hTI, ⟨x0, y0, hTO⟩, h1, h2⟩ := st
    obtain ⟨xs, ys, x, y, hqx, hqy, hx, hy⟩ := hg
    obtain ⟨its, rv, p, _⟩ := L1.get X pins σ H s xs hK I hqx
    obtain ⟨its2, rv2, p2, _⟩ := L2'.get X pins σ H s ys hK I hqy
    obtain ⟨u, hu, ru⟩ := rv.get hx
    obtain ⟨u2, hu2, ru2⟩ := rv2.get hy
    have hzl : z < s.heap.objs.size := Heap.lt_size hz
    have hT : s.TypeIs (.ref z) "zip" := ⟨_, hz, rfl⟩
    unfold pyNext
    refine wpAny_bind (wpAny_attempt (wpAny_callSpecial?_slot (name := Str.ofString "__next__") hT F.slot_zip_next (wpAny_call_entry F.slot_zip_next hT F.entry_zip_next
      (zipG_item S1 S2 D hz hTI hTO h1 h2 p p2 (x := u) (y := u2) (by simpa using hu) (by simpa using hu2) fun h' z' TO' h1' h2' hT' hk => wpAny_pure ?_) (F.args_zip_next_1 _))))
    refine ⟨_, rfl, wpAny_letOwnedTupleGo_zip (s := { s with heap := h' }) z' fun h'' z'' sb => ?_⟩
    have hT2 : h''.get? s.heap.objs.size = some { cls := .type "tuple", data := .seq #[u, u2] } := ((sb.2 _ (Nat.ne_of_gt hzl)).trans hT')
    subst hP hw hK
    have new : ObjOk X.prog X.w (upd H s.heap.objs.size (.tup [x, y])) h'' s.heap.objs.size (.tup [x, y]) := ⟨by show 2 ≤ sizeLine; decide, [u, u2], .cons ru (.cons ru2 .nil), ⟨_, hT2, rfl, _, rfl⟩⟩
    have kk' : ∀ (c : Addr) (o : Obj), c ∉ [z, TI, TO, i1, i2] → s.heap.get? c = some o → h''.get? c = some o := fun c o hb q => (sb.2 c (fun q' => hb (by simp [q']))).trans (hk c o (fun q' => hb (by simp [q'])) (fun q' => hb (by simp [q'])) (fun q' => hb (by simp [q'])) (fun q' => hb (by simp [q'])) q)
    have I1 : L2.Inv X pins σ (upd H s.heap.objs.size (.tup [x, y])) { s with heap := h'' } := I.turnedNew (t' := s.toks) (ch := [z, TI, TO, i1, i2]) kk' hf (Nat.le_refl _) new
    refine ⟨.ref s.heap.objs.size, _, I1, rfl, ⟨_, x, y, rfl, I.hok.fresh (Nat.le_refl _), rfl, fun l hl => ?_, fun l hl => ?_⟩, ⟨z'', ?_, ⟨u, u2, ?_⟩, ?_, ?_⟩, fun c hcm => ?_⟩
    · rw [L1.inj X pins σ H s l xs rfl I hl hqx]
      exact hx
    · rw [L2'.inj X pins σ H s l ys rfl I hl hqy]
      exact hy
    · exact (sb.2 _ D.TIz).trans ((hk _ _ D.TIz D.TITO D.TIi1 D.TIi2 hTI))
    · exact (sb.2 _ D.TOz).trans TO'
    · exact S1.keep _ _ _ h1' fun o q => (sb.2 _ D.i1z).trans q
    · exact S2.keep _ _ _ h2' fun o q => (sb.2 _ D.i2z).trans q
    · have hlt : c < s.heap.objs.size := by
        have e' : c = z ∨ c = TI ∨ c = TO ∨ c = i1 ∨ c = i2 := by simpa using hcm
        rcases e' with rfl | rfl | rfl | rfl | rfl
        · exact hzl
        · exact Heap.lt_size hTI
        · exact Heap.lt_size hTO
        · obtain ⟨_, e1, _⟩ := S1.obj _ _ h1; exact Heap.lt_size e1
        · obtain ⟨_, e2, _⟩ := S2.obj _ _ h2; exact Heap.lt_size e2
      rw [upd_ne (Nat.ne_of_lt hlt)]
      exact (hf c hcm).1
  done := by
    intro X hP hw hK hc i pins s σ H E I hf st hg
    obtain ⟨hz, hTI, ⟨x0, y0, hTO⟩, h1, h2⟩ := st
    obtain ⟨xs, ys, hqx, hqy, hend⟩ := hg
    obtain ⟨its, rv, p, _⟩ := L1.get X pins σ H s xs hK I hqx
    obtain ⟨its2, rv2, p2, _⟩ := L2'.get X pins σ H s ys hK I hqy
    have l1 := rv.length
    have l2 := rv2.length
    have he : its.toArray[i]? = none ∨ its2.toArray[i]? = none := by
      rcases hend with q | q
      · exact .inl (by simp; omega)
      · exact .inr (by simp; omega)
    have hT : s.TypeIs (.ref z) "zip" := ⟨_, hz, rfl⟩
    unfold pyNext
    refine wpAny_bind (wpAny_attempt (wpAny_callSpecial?_slot (name := Str.ofString "__next__") hT F.slot_zip_next
      (wpAny_call_entry F.slot_zip_next hT F.entry_zip_next (zipG_end S1 S2 (I.ok.hd hc) D hz hTI hTO h1 h2 p p2 he fun h' e hk he => ?_) (F.args_zip_next_1 _))))
    obtain ⟨o, ho, hc'⟩ := he
    refine wpAny_bind (wpAny_isInstance (T := "StopIteration") (b := true) ⟨o, ho, hc'⟩ isSubtype_stop ?_)
    refine wpAny_pure ⟨rfl, I.turnedL (t' := s.toks) (ch := [z, TI, TO, i1, i2]) (fun c o hb q => hk c o (fun q' => hb (by simp [q'])) (fun q' => hb (by simp [q'])) (fun q' => hb (by simp [q'])) (fun q' => hb (by simp [q'])) q) hf⟩
  self := fun A i s Q E st h => wpAny_pyIter_zip st.1 h
/-! ### zip of a tuple and a list made -/
abbrev zTL1 (h : Heap) (l1 : Addr) : Heap := h.push { cls := .type "tuple_iterator", data := .fields #[.ref l1, .int 0 0] }
abbrev zTL2 (h : Heap) (l1 l2 : Addr) : Heap := (zTL1 h l1).push { cls := .type "list_iterator", data := .fields #[.ref l2, .int 0 0] }
abbrev zTL3 (h : Heap) (l1 l2 : Addr) : Heap := (zTL2 h l1 l2).push { cls := .type "tuple", data := .seq #[.ref h.objs.size, .ref (zTL1 h l1).objs.size] }
abbrev zTL4 (h : Heap) (l1 l2 : Addr) : Heap := (zTL3 h l1 l2).push { cls := .type "tuple", data := .seq #[.none, .none] }
abbrev zTL5 (h : Heap) (l1 l2 : Addr) : Heap := (zTL4 h l1 l2).push { cls := .type "zip", data := .fields #[.none, .bool false, .bool false, .ref (zTL2 h l1 l2).objs.size, .ref (zTL3 h l1 l2).objs.size] }
abbrev zLT1 (h : Heap) (l1 : Addr) : Heap := h.push { cls := .type "list_iterator", data := .fields #[.ref l1, .int 0 0] }
abbrev zLT2 (h : Heap) (l1 l2 : Addr) : Heap := (zLT1 h l1).push { cls := .type "tuple_iterator", data := .fields #[.ref l2, .int 0 0] }
abbrev zLT3 (h : Heap) (l1 l2 : Addr) : Heap := (zLT2 h l1 l2).push { cls := .type "tuple", data := .seq #[.ref h.objs.size, .ref (zLT1 h l1).objs.size] }
abbrev zLT4 (h : Heap) (l1 l2 : Addr) : Heap := (zLT3 h l1 l2).push { cls := .type "tuple", data := .seq #[.none, .none] }
abbrev zLT5 (h : Heap) (l1 l2 : Addr) : Heap := (zLT4 h l1 l2).push { cls := .type "zip", data := .fields #[.none, .bool false, .bool false, .ref (zLT2 h l1 l2).objs.size, .ref (zLT3 h l1 l2).objs.size] }
theorem new_zTL (l1 l2 : Addr) (xs ys : Array Value) : Meets (Builtin.«zip.__new__» ⟨[.type "zip", .ref l1, .ref l2], []⟩) (fun _ R s => s.heap.IsTuple l1 xs ∧ s.heap.IsList l2 ys ∧ R (.ok (.ret (.ref (zTL4 s.heap l1 l2).objs.size))) { s with heap := zTL5 s.heap l1 l2 }) :=
  .of_wp fun prog w A R s h => by
    obtain ⟨hp, g, d, tk, os⟩ := s
    obtain ⟨k1, k2, h⟩ := h
    have hsub := sub_zip
    have e1 : Heap.IsTuple (Shared.heap ⟨hp, g, d, tk, os⟩) l1 xs := k1
    have e2 : Heap.IsList (Shared.heap ⟨hp.push { cls := .type "tuple_iterator", data := .fields #[.ref l1, .int 0 0] }, g, d, tk, os⟩) l2 ys := Heap.IsList.push k2 _
    wp_walk using wpAny_pyIter_tuple e1, wpAny_pyIter_list e2
    exact ⟨_, rfl, h⟩
theorem new_zLT (l1 l2 : Addr) (xs ys : Array Value) : Meets (Builtin.«zip.__new__» ⟨[.type "zip", .ref l1, .ref l2], []⟩) (fun _ R s => s.heap.IsList l1 xs ∧ s.heap.IsTuple l2 ys ∧ R (.ok (.ret (.ref (zLT4 s.heap l1 l2).objs.size))) { s with heap := zLT5 s.heap l1 l2 }) :=
  .of_wp fun prog w A R s h => by
    obtain ⟨hp, g, d, tk, os⟩ := s
    obtain ⟨k1, k2, h⟩ := h
    have hsub := sub_zip
    have e1 : Heap.IsList (Shared.heap ⟨hp, g, d, tk, os⟩) l1 xs := k1
    have e2 : Heap.IsTuple (Shared.heap ⟨hp.push { cls := .type "list_iterator", data := .fields #[.ref l1, .int 0 0] }, g, d, tk, os⟩) l2 ys := Heap.IsTuple.push k2 _
    wp_walk using wpAny_pyIter_list e1, wpAny_pyIter_tuple e2
    exact ⟨_, rfl, h⟩
section
variable {P : Program} {w : World} {A : Around} {E : Value → Shared → Prop} {s : Shared}
theorem call_zTL {l1 l2 : Addr} {xs ys : Array Value} {Q : Value → Shared → Prop} (k1 : s.heap.IsTuple l1 xs) (k2 : s.heap.IsList l2 ys)
    (h : ∀ h', IsZip h' (s.heap.objs.size + 4) (s.heap.objs.size + 2) (s.heap.objs.size + 3) .none → IsPair h' (s.heap.objs.size + 2) (.ref s.heap.objs.size) (.ref (s.heap.objs.size + 1)) → IsPair h' (s.heap.objs.size + 3) .none .none →
      h'.IsTupleIter s.heap.objs.size l1 0 → h'.IsListIter (s.heap.objs.size + 1) l2 0 → (∀ c o, s.heap.get? c = some o → h'.get? c = some o) → Q (.ref (s.heap.objs.size + 4)) { s with heap := h' }) :
    wpAny (model P w) A (call (.type "zip") [.ref l1, .ref l2]) Q E s := by
  refine callType_new F.called_zip (by decide) (F.typeCall_zip_2 _ _) (F.newCall_zip_2 _ _) (fun obj => F.args_object_init_3 obj _ _) F.entry_zip_new (new_zTL l1 l2 xs ys) ⟨k1, k2, ?_⟩
  have z1 : (zTL1 s.heap l1).objs.size = s.heap.objs.size + 1 := Heap.size_push ..
  have z2 : (zTL2 s.heap l1 l2).objs.size = s.heap.objs.size + 2 := by rw [Heap.size_push, z1]
  have z3 : (zTL3 s.heap l1 l2).objs.size = s.heap.objs.size + 3 := by rw [Heap.size_push, z2]
  have z4 : (zTL4 s.heap l1 l2).objs.size = s.heap.objs.size + 4 := by rw [Heap.size_push, z3]
  have g5 : (zTL5 s.heap l1 l2).get? (zTL4 s.heap l1 l2).objs.size = some _ := Heap.get?_push_size _ rfl
  have g4 : (zTL5 s.heap l1 l2).get? (zTL3 s.heap l1 l2).objs.size = some _ := Heap.get?_push_of_some _ (Heap.get?_push_size _ rfl)
  have g3 : (zTL5 s.heap l1 l2).get? (zTL2 s.heap l1 l2).objs.size = some _ := Heap.get?_push_of_some _ (Heap.get?_push_of_some _ (Heap.get?_push_size _ rfl))
  have g2 : (zTL5 s.heap l1 l2).get? (zTL1 s.heap l1).objs.size = some _ := Heap.get?_push_of_some _ (Heap.get?_push_of_some _ (Heap.get?_push_of_some _ (Heap.get?_push_size _ rfl)))
  have g1 : (zTL5 s.heap l1 l2).get? s.heap.objs.size = some _ := Heap.get?_push_of_some _ (Heap.get?_push_of_some _ (Heap.get?_push_of_some _ (Heap.get?_push_of_some _ (Heap.get?_push_size _ rfl))))
  show _ ∧ _
  rw [z2, z3, z4] at g5; rw [z1, z2] at g3; rw [z3] at g4; rw [z1] at g2; rw [z4]
  exact ⟨⟨_, g5, rfl⟩, h _ g5 g3 g4 ⟨_, g1, rfl, rfl⟩ ⟨_, g2, rfl, rfl⟩ fun c o x => Heap.get?_push_of_some _ (Heap.get?_push_of_some _ (Heap.get?_push_of_some _ (Heap.get?_push_of_some _ (Heap.get?_push_of_some _ x))))⟩
theorem call_zLT {l1 l2 : Addr} {xs ys : Array Value} {Q : Value → Shared → Prop} (k1 : s.heap.IsList l1 xs) (k2 : s.heap.IsTuple l2 ys)
    (h : ∀ h', IsZip h' (s.heap.objs.size + 4) (s.heap.objs.size + 2) (s.heap.objs.size + 3) .none → IsPair h' (s.heap.objs.size + 2) (.ref s.heap.objs.size) (.ref (s.heap.objs.size + 1)) → IsPair h' (s.heap.objs.size + 3) .none .none →
      h'.IsListIter s.heap.objs.size l1 0 → h'.IsTupleIter (s.heap.objs.size + 1) l2 0 → (∀ c o, s.heap.get? c = some o → h'.get? c = some o) → Q (.ref (s.heap.objs.size + 4)) { s with heap := h' }) :
    wpAny (model P w) A (call (.type "zip") [.ref l1, .ref l2]) Q E s := by
  refine callType_new F.called_zip (by decide) (F.typeCall_zip_2 _ _) (F.newCall_zip_2 _ _) (fun obj => F.args_object_init_3 obj _ _) F.entry_zip_new (new_zLT l1 l2 xs ys) ⟨k1, k2, ?_⟩
  have z1 : (zLT1 s.heap l1).objs.size = s.heap.objs.size + 1 := Heap.size_push ..
  have z2 : (zLT2 s.heap l1 l2).objs.size = s.heap.objs.size + 2 := by rw [Heap.size_push, z1]
  have z3 : (zLT3 s.heap l1 l2).objs.size = s.heap.objs.size + 3 := by rw [Heap.size_push, z2]
  have z4 : (zLT4 s.heap l1 l2).objs.size = s.heap.objs.size + 4 := by rw [Heap.size_push, z3]
  have g5 : (zLT5 s.heap l1 l2).get? (zLT4 s.heap l1 l2).objs.size = some _ := Heap.get?_push_size _ rfl
  have g4 : (zLT5 s.heap l1 l2).get? (zLT3 s.heap l1 l2).objs.size = some _ := Heap.get?_push_of_some _ (Heap.get?_push_size _ rfl)
  have g3 : (zLT5 s.heap l1 l2).get? (zLT2 s.heap l1 l2).objs.size = some _ := Heap.get?_push_of_some _ (Heap.get?_push_of_some _ (Heap.get?_push_size _ rfl))
  have g2 : (zLT5 s.heap l1 l2).get? (zLT1 s.heap l1).objs.size = some _ := Heap.get?_push_of_some _ (Heap.get?_push_of_some _ (Heap.get?_push_of_some _ (Heap.get?_push_size _ rfl)))
  have g1 : (zLT5 s.heap l1 l2).get? s.heap.objs.size = some _ := Heap.get?_push_of_some _ (Heap.get?_push_of_some _ (Heap.get?_push_of_some _ (Heap.get?_push_of_some _ (Heap.get?_push_size _ rfl))))
  show _ ∧ _
  rw [z2, z3, z4] at g5; rw [z1, z2] at g3; rw [z3] at g4; rw [z1] at g2; rw [z4]
  exact ⟨⟨_, g5, rfl⟩, h _ g5 g3 g4 ⟨_, g1, rfl, rfl⟩ ⟨_, g2, rfl, rfl⟩ fun c o x => Heap.get?_push_of_some _ (Heap.get?_push_of_some _ (Heap.get?_push_of_some _ (Heap.get?_push_of_some _ (Heap.get?_push_of_some _ x))))⟩
end
def iZipM (K : PySem.W.Frag) (ta : TA) : TI := fun σ H R => ta σ H fun vs H1 => ∃ a b xs ys, vs = [.ref a, .ref b] ∧
  ((SqT K H1 a xs ∧ SqL K H1 b ys ∧ R (ItzG (fun H xs => SqT K H a xs) (fun H xs => SqL K H b xs)) H1) ∨ (SqL K H1 a xs ∧ SqT K H1 b ys ∧ R (ItzG (fun H xs => SqL K H a xs) (fun H xs => SqT K H b xs)) H1))
theorem p_zipM {X : Cx} {K : PySem.W.Frag} {e e2 : Expr} {ta : TA} {p pos tpos : Pos} {elts : List Expr} {kk : Nat} (hg : Gl X "zip") (hm : X.mg "zip" = none) (ha : PA X [e, e2] ta) (hK : X.K = K := by rfl)
    (hs : starEach [e, e2] X.env = (false, eval e X.env) :: starEach [e2] X.env := by rfl) (hpl : (backTo pos (starEach [e2] X.env)).any (·.1) = false := by rfl) : PI X (.Tuple elts kk tpos) (.Call (.Name "zip" p) [e, e2] [] pos) (iZipM K ta) := by
  subst hK
  refine ⟨fun pins s σ H R I h => ?_⟩
  refine Call_ (ld_blt I hg hm PyProof.Rows.boot_zip (PyProof.Rows.callWith_type1 (thn (ha.run pos pins s σ H _ I h) fun us s1 ⟨vs, H1, I1, r1, q1⟩ => ?_) hs hpl))
  obtain ⟨a, b, xs, ys, rfl, q1⟩ := q1
  obtain ⟨u, u', rfl, ru, ru'⟩ : ∃ u u', us = [u, u'] ∧ RelV (.ref a) u ∧ RelV (.ref b) u' := by
    cases r1 with
    | cons r rr =>
      cases rr with
      | cons r' rr =>
        cases rr
        exact ⟨_, _, rfl, r, r'⟩
  cases ru
  cases ru'
  have fresh5 : ∀ c, c ∈ [s1.heap.objs.size + 4, s1.heap.objs.size + 2, s1.heap.objs.size + 3, s1.heap.objs.size, s1.heap.objs.size + 1] → FpOk X pins H1 c := fun c hcm => by
    have hle : s1.heap.objs.size ≤ c := by
      simp only [List.mem_cons, List.not_mem_nil, or_false] at hcm
      omega
    exact I1.fpOk hle (I1.hok.fresh hle)
  rcases q1 with ⟨hqx, hqy, q⟩ | ⟨hqx, hqy, q⟩
  · obtain ⟨its, rv, p1, la⟩ := (side_tup (a := a)).get X pins σ H1 s1 xs rfl I1 hqx
    obtain ⟨its2, rv2, p2, lb⟩ := (side_list (a := b)).get X pins σ H1 s1 ys rfl I1 hqy
    refine call_zTL p1 p2 fun h' hz hTI hTO h1 h2 hk => wpAny_pyIter_zip hz ?_
    have I2 : L2.Inv X pins σ H1 { s1 with heap := h' } := I1.kept (t' := s1.toks) hk
    exact ⟨s1.heap.objs.size + 4, [s1.heap.objs.size + 4, s1.heap.objs.size + 2, s1.heap.objs.size + 3, s1.heap.objs.size, s1.heap.objs.size + 1], _, _, H1, rfl, I2, turn_zipG src_tup src_list side_tup side_list (PySem.W.ktu_apart s1.heap.objs.size a b la lb), ⟨hz, hTI, ⟨_, _, hTO⟩, h1, h2⟩, fresh5, q⟩
  · obtain ⟨its, rv, p1, la⟩ := (side_list (a := a)).get X pins σ H1 s1 xs rfl I1 hqx
    obtain ⟨its2, rv2, p2, lb⟩ := (side_tup (a := b)).get X pins σ H1 s1 ys rfl I1 hqy
    refine call_zLT p1 p2 fun h' hz hTI hTO h1 h2 hk => wpAny_pyIter_zip hz ?_
    have I2 : L2.Inv X pins σ H1 { s1 with heap := h' } := I1.kept (t' := s1.toks) hk
    exact ⟨s1.heap.objs.size + 4, [s1.heap.objs.size + 4, s1.heap.objs.size + 2, s1.heap.objs.size + 3, s1.heap.objs.size, s1.heap.objs.size + 1], _, _, H1, rfl, I2, turn_zipG src_list src_tup side_list side_tup (PySem.W.ktu_apart s1.heap.objs.size a b la lb), ⟨hz, hTI, ⟨_, _, hTO⟩, h1, h2⟩, fresh5, q⟩
theorem walk_zipG {R1 R2 : Hp → List V → Prop} {xs ys : List V} {n : Nat} (hn : n = min xs.length ys.length) : Walk (ItzG R1 R2) n (fun H => R1 H xs ∧ R2 H ys) (YPair (fun i => xs[i]?) (fun i => ys[i]?)) := by
  subst hn
  refine ⟨fun i _ hi q => ?_, fun _ q => ⟨xs, ys, q.1, q.2, by omega⟩, fun i H v H' _ q y => ?_⟩
  · have k1 : i < xs.length := by omega
    have k2 : i < ys.length := by omega
    exact ⟨xs, ys, xs[i], ys[i], q.1, q.2, by simp [k1], by simp [k2]⟩
  · obtain ⟨T, x, u, k1, k2, k3, k4, k5⟩ := y
    exact ⟨T, x, u, k1, k2, k3, k4 xs q.1, k5 ys q.2⟩
end Bw
set_option Elab.async false
set_option linter.all false
set_option maxRecDepth 100000
set_option maxHeartbeats 4000000
namespace Bw
open PySem PySem.Spec PyProof.Rows L2
section
variable {X : Cx} {K : PySem.W.Frag}
theorem p_bm {o e : Expr} {es : List Expr} {to : TE} {t : TA} {name : Str} {apos cpos : Pos} {T id : String} {r : V → List V → Hp → VK → Prop} (pa : PlainAttrs T) (slot : Slot T name id) (hty : typeOf (.builtin id) = pure (.type "method_descriptor")) (hm : MtM X id r) (ho : PE X o to) (ha : PA X (e :: es) t) (hK : X.K = K := by rfl)
    (hbase : attributeBase o name X.env (eval o X.env) = eval o X.env := by rfl)
    (hfew : ((backTo cpos (starEach (e :: es) X.env)).all (fun x => !x.1) && (backToKw cpos (keywordEach [] X.env)).all (fun x => x.1.isSome) && decide ((e :: es).length + ([] : List Keyword).length + (if ([] : List Keyword).isEmpty then 0 else 1) < 30)) = true := by rfl)
    (hline : (apos.endLine == cpos.line) = true := by rfl) (hs : starEach (e :: es) X.env = (false, eval e X.env) :: starEach es X.env := by rfl) (hplain : (backTo cpos (starEach es X.env)).any (·.1) = false := by rfl) :
    PE X (.Call (.Attribute o name apos) (e :: es) [] cpos) (tBM K T r to t) := by
  subst hK
  exact pe_bm pa slot hty hm ho ha hbase hfew hline hs hplain
theorem p_zipA {e e2 : Expr} {ta : TA} {p pos tpos : Pos} {elts : List Expr} {kk : Nat} (hg : Gl X "zip") (hm : X.mg "zip" = none) (ha : PA X [e, e2] ta) (hK : X.K = K := by rfl)
    (hs : starEach [e, e2] X.env = (false, eval e X.env) :: starEach [e2] X.env := by rfl) (hpl : (backTo pos (starEach [e2] X.env)).any (·.1) = false := by rfl) : PI X (.Tuple elts kk tpos) (.Call (.Name "zip" p) [e, e2] [] pos) (RZ.iZipA K ta) := by
  subst hK
  exact RZ.pi_zipA hg hm ha hs hpl
/-! ### a walk over a list or a tuple -/
def SqS (K : PySem.W.Frag) (b : Bool) (H : Hp) (a : Addr) (xs : List V) : Prop := if b then SqL K H a xs else SqT K H a xs
def ItS (K : PySem.W.Frag) (b : Bool) (a : Addr) : It := if b then Itl K a else Itt K a
def oS (b : Bool) (xs : List V) : HO := if b then .lst xs else .tup xs
theorem SqS.of {K : PySem.W.Frag} {b : Bool} {H : Hp} {a : Addr} {xs : List V} (h : H a = some (oS b xs)) : SqS K b H a xs := by
  cases b
  · exact SqT.of h
  · exact SqL.of h
theorem SqS.or {K : PySem.W.Frag} {b : Bool} {H : Hp} {a : Addr} {xs : List V} (h : SqS K b H a xs) : SqL K H a xs ∨ SqT K H a xs := by
  cases b
  · exact .inr h
  · exact .inl h
theorem walk_seq {b : Bool} {a : Addr} {xs : List V} : Walk (ItS K b a) xs.length (fun H => SqS K b H a xs) (YAt xs) := by
  cases b
  · exact walk_tup
  · exact walk_list
def iSeq (K : PySem.W.Frag) (tl : TE) : TI := fun σ H R => tl σ H fun v H1 => ∃ (a : Addr) (xs : List V) (b : Bool), v = .ref a ∧ SqS K b H1 a xs ∧ R (ItS K b a) H1
theorem p_seq {tg l : Expr} {tl : TE} (hl : PE X l tl) (hK : X.K = K := by rfl) : PI X tg l (iSeq K tl) := by
  subst hK
  refine ⟨fun pins s σ H R I h => thn (hl.run pins s σ H _ I h) fun v s1 ⟨x, H1, I1, r1, q1⟩ => ?_⟩
  obtain ⟨a, xs, b, rfl, hq, q⟩ := q1
  cases r1
  have hf : ∀ c ∈ [s1.heap.objs.size], FpOk X pins H1 c := fun c hc => by
    rw [List.mem_singleton.mp hc]
    exact I1.fpOk (Nat.le_refl _) (I1.hok.fresh (Nat.le_refl _))
  cases b
  · obtain ⟨its, rv, p, hz⟩ := I1.tuple hq
    exact wpAny_pyIter_tuple (show s1.heap.IsTuple a its.toArray from p) ⟨s1.heap.objs.size, [s1.heap.objs.size], _, _, H1, rfl, I1.kept (t' := s1.toks) fun b o e => Heap.get?_push_of_some _ e, turn_tuple a _, ⟨_, Heap.get?_push_size _ rfl, rfl, rfl⟩, hf, q⟩
  · obtain ⟨its, rv, p, hz⟩ := I1.list hq
    exact wpAny_pyIter_list p.isList ⟨s1.heap.objs.size, [s1.heap.objs.size], _, _, H1, rfl, I1.kept (t' := s1.toks) fun b o e => Heap.get?_push_of_some _ e, turn_list a _, ⟨_, Heap.get?_push_size _ rfl, rfl, rfl⟩, hf, q⟩
end
end Bw
set_option Elab.async false
set_option linter.all false
set_option maxRecDepth 100000
set_option maxHeartbeats 4000000
namespace Bw
open PySem PySem.Spec PyProof.Rows L2
/-- a def read off its class, by the class's name -/
structure ClsFn (K : PySem.W.Frag) (mg : Str → Option Value) (x m : Str) (C f : Addr) : Prop where
  g : mg x = some (.ref C)
  sg : PySem.W.specialIn K (.ref C) "__getattribute__" = some (some (.builtin "type.__getattribute__"))
  ty : PySem.W.typeIn K (.ref C) = some (.type "type")
  rd : PySem.W.readsIn K C (.type "type") = true
  fc : PySem.W.findCls K (.ref C) (.type "type") m = some (.val (.ref f))
  kf : PySem.W.keepIn K (.ref f) = true
theorem pe_cfun {X : Cx} {x m : Str} {C f : Addr} {CX : CXT} {k : Nat} {fd : FuncData} {ps : List Str} {sp : Sp} {E : XK} {e : Expr} {es : List Expr} {t : TA} {np apos pos : Pos} {pl : Sem Bool} (T : ClsFn X.K X.mg x m C f) (F : FnOk X.prog X.w X.K X.mg X.base CX k f fd ps sp) (hr : Room k X.A) (hg : Gl X x)
    (hb : Binds X.K fd ps []) (hx : Passes CX X E) (ha : PA X (e :: es) t) (hdb : (x == ("__debug__" : Str)) = false := by decide)
    (ht : eval (.Call (.Attribute (.Name x np) m apos) (e :: es) [] pos) X.env = (do
      let ov ← eval (.Name x np) X.env
      standAt apos.atName
      let (f, first) ← holding [ov] (getMethod ov m pl)
      callWith pos f first (backTo pos (starEach (e :: es) X.env)) (backToKw pos (keywordEach [] X.env))) := by rfl)
    (he : starEach (e :: es) X.env = (false, eval e X.env) :: starEach es X.env := by rfl) (hpl : (backTo pos (starEach es X.env)).any (·.1) = false := by rfl) :
    PE X (.Call (.Attribute (.Name x np) m apos) (e :: es) [] pos) (tCall sp [] E t) := by
  refine ⟨fun pins s σ H Q I h => ?_⟩
  refine PySem.W.methodCall_KW (ld_glob I hg T.g ?_ hdb) ht
  obtain ⟨m, fr⟩ := I.fr
  refine PySem.W.method_of_cls fr I.ok.mod.kin T.sg (PySem.W.cls_val fr I.ok.mod.kin T.ty T.rd T.fc rfl ?_)
  show wpAny _ _ (callWith pos (Value.ref f) [] (backTo pos (starEach (e :: es) X.env)) []) _ _ _
  refine PySem.W.callWith_K (h₀ := X.base) I.ok.mod.kin T.kf (thn (ha.run pos pins _ σ H _ (I.tok _) h) fun us s1 ⟨vs, H1, I1, r, q⟩ => ⟨I1.kIn, ?_⟩) he hpl
  exact run_fn F hr hb .nil hx I1 r q
/-! ### raise C(), C with an __init__ of its own that wants nothing -/
theorem pmk_oex0 {X : Cx} {p pos : Pos} {CX : CXT} {x : Str} {C fI : Addr} {k : Nat} {fd : FuncData} {ps : List Str} {sp : Sp} (T : OexC X.K C) (iC : PySem.W.findIn X.K (.ref C) "__init__" = some (some (.ref fI))) (tI : PySem.W.typeIn X.K (.ref fI) = some (.type "function"))
    (F1 : FnOk X.prog X.w X.K X.mg X.base CX k fI fd ps sp) (hr : Room (k + 1) X.A) (hb : Binds X.K fd ps []) (hx : Passes CX X (fun _ _ _ => False)) (hg : Gl X x) (hm : X.mg x = some (.ref C)) (hdb : (x == ("__debug__" : Str)) = false := by decide) :
    PMk X (.Call (.Name x p) [] [] pos) (tMkO C sp [] tNil) := by
  intro pins s1 σ H1 Q I1 h
  obtain ⟨hz, q1⟩ := h
  obtain ⟨nm, q, N, bs, bm, sn, sub, ab, col, dd, k0, k1, k2, k3, k5, hC, hbm⟩ := T.cls
  refine wpAny_Call_Name_kw (ld_glob I1 hg hm ?_ hdb); refine PySem.W.callWith_K0 I1.kIn T.kC ?_
  show wpAny _ _ (call (.ref C) []) _ _ _
  obtain ⟨hp, g, dr, tk, os⟩ := s1
  have hsz : hp.objs.size ≤ hp.objs.size + 1 := Nat.le_succ _
  have hn : H1 (hp.objs.size + 1) = none := I1.hok.fresh hsz
  have hq := q1 (hp.objs.size + 1) hn
  have kk : ∀ b o, hp.get? b = some o → ((hp.push (PySem.W.kdv_tup [])).push (PySem.HandSPX.excO C hp.objs.size)).get? b = some o := fun b o e => Heap.get?_push_of_some _ (Heap.get?_push_of_some _ e)
  have hget : ((hp.push (PySem.W.kdv_tup [])).push (PySem.HandSPX.excO C hp.objs.size)).get? (hp.objs.size + 1) = some (PySem.HandSPX.excO C hp.objs.size) := by heap_get
  have I2 : L2.Inv X pins σ (upd H1 (hp.objs.size + 1) (exo (hp.objs.size + 1) C none)) ⟨(hp.push (PySem.W.kdv_tup [])).push (PySem.HandSPX.excO C hp.objs.size), g, dr, tk, os⟩ := I1.laid (t' := tk) (a := hp.objs.size + 1) (o := exo (hp.objs.size + 1) C none) (h' := (hp.push (PySem.W.kdv_tup [])).push (PySem.HandSPX.excO C hp.objs.size)) kk hsz (exo_ok hget)
  have r2 : Vals [V.ref (hp.objs.size + 1)] [Value.ref (hp.objs.size + 1)] := .cons rfl .nil
  have hl : ([Value.ref (hp.objs.size + 1)] ++ ([] : List Value)).length = ps.length := F1.len _ _ _ _ hq
  refine wpAny_call (PySem.HandSPX.call_own F.excBase_ValueError (fun Y => PySem.HandSPX.refsVE_contains Y bm hbm) (I1.kIn _ _ hC) (PySem.W.looks_findIn I1.kIn iC) (fun self => PySem.W.bind_fn I1.kIn self tI) (Nat.zero_le _)
    (codeAny_mono (F1.run _ X.stack _ _ ⟨[Value.ref (hp.objs.size + 1)], []⟩ [Value.ref (hp.objs.size + 1)] _ _ (fun _ _ _ => False) (hr.make C [] []) (I2.env0.make C [] []) (hb _ [Value.ref (hp.objs.size + 1)] I2.kIn hl) r2 hq) fun r s' hq' => ?_))
  cases r with
  | error er => exact hx pins σ _ _ er s' I2 hq'
  | ok fl =>
    cases fl with
    | ret u =>
      obtain ⟨v, H2, os2, bare2, un2, hok2, rv, ev, d, fs, ea, ed, hd1, q2⟩ := hq'
      subst ev
      obtain ⟨h2, g2, d2, t2, os'⟩ := s'
      exact ⟨rv, mk_end (raises_own T.exC T.tyC) I1 hsz kk un2 hok2 os2 bare2 ea ed hd1 q2⟩
    | next => exact False.elim hq'
    | brk => exact False.elim hq'
    | cont => exact False.elim hq'
/-- f(k = e, ..), nothing by place -/
def tCallK0 (sp : Sp) (gV : List V → List V → List V) (E : XK) (tk : TA) : TE := fun σ H Q => tk σ H fun zs H2 => sp (gV [] zs) H2 Q E
theorem pe_callK0 {X : Cx} {CX : CXT} {k : Nat} {f : Addr} {fd : FuncData} {ps ks : List Str} {sp : Sp} {E : XK} {x : Str} {p pos : Pos} {kws : List Keyword} {tk : TA} {g : List Value → List Value → List Value} {gV : List V → List V → List V}
    (F : FnOk X.prog X.w X.K X.mg X.base CX k f fd ps sp) (hr : Room k X.A) (hg : Gl X x) (hm : X.mg x = some (.ref f)) (hk : PySem.W.keepIn X.K (.ref f) = true) (hb : KBinds X.K fd ps ks g gV) (hx : Passes CX X E)
    (hkw : PK X kws tk) (hall : (backToKw pos (keywordEach kws X.env)).all (·.1.isSome) = true := by rfl) (hks : (backToKw pos (keywordEach kws X.env)).filterMap (·.1) = ks := by rfl)
    (hdb : (x == ("__debug__" : Str)) = false := by decide) (hpl : ((backTo pos (starEach [] X.env)).any (·.1) || (backToKw pos (keywordEach kws X.env)).any (·.1.isNone)) = false := by rfl) :
    PE X (.Call (.Name x p) [] kws pos) (tCallK0 sp gV E tk) := by
  refine ⟨fun pins s σ H Q I h => ?_⟩
  refine wpAny_Call_Name_kw (ld_glob I hg hm ?_ hdb)
  refine PySem.W.callWith_KW0 (h₀ := X.base) I.ok.mod.kin hk hall (thn (hkw.run pos pins s σ H _ I h) fun ws s2 ⟨zs, H2, I2, rz, q2⟩ => ⟨I2.kIn, ?_⟩) hpl
  rw [hks]
  exact run_fnk (us := []) (vs := []) F hr hb hx I2 .nil rz q2
theorem it_walk {J : It} {n : Nat} {G : Hp → Prop} {Y : Nat → Hp → V → Hp → Prop} (wk : Walk J n G Y) {H1 : Hp} {Qd : Hp → Prop} {Body : V → Hp → (Hp → Prop) → Prop} (Pv : Nat → Hp → Prop) (h0 : Pv 0 H1) (hG : ∀ i H, i ≤ n → Pv i H → G H)
    (hs : ∀ i x H H', i < n → Pv i H → Y i H x H' → Body x H' (Pv (i + 1))) (hd : ∀ H, Pv n H → Qd H) :
    ∃ W : Nat → Nat → Hp → Prop, (∃ m, W 0 m H1) ∧ ∀ i m H, W i m H → (J.stop i H ∧ Qd H) ∨ (J.go i H ∧ ∃ Nx : Hp → Prop, (∀ H', Nx H' → ∃ m', m' < m ∧ W (i + 1) m' H') ∧ ∀ x H', J.yld i H x H' → Body x H' Nx) := by
  refine ⟨fun i m H => m = n - i ∧ i ≤ n ∧ Pv i H, ⟨n, rfl, Nat.zero_le _, h0⟩, ?_⟩
  rintro i m H ⟨rfl, hi, p⟩
  have q := hG i H hi p
  by_cases hlt : i < n
  · exact .inr ⟨wk.goes i H hlt q, Pv (i + 1), fun H' p' => ⟨n - (i + 1), by omega, rfl, hlt, p'⟩, fun x H' y => hs i x H H' hlt p (wk.yields i H x H' hlt q y)⟩
  · have e : i = n := by omega
    subst e
    exact .inl ⟨wk.stops H q, hd H p⟩
section
variable {X : Cx} {K : PySem.W.Frag}
theorem p_bmR {o e : Expr} {es : List Expr} {to : TE} {t : TA} {name : Str} {apos cpos : Pos} {T id : String} {r : V → List V → Hp → VK → Prop} (pa : PlainAttrs T) (slot : Slot T name id) (hty : typeOf (.builtin id) = pure (.type "method_descriptor")) (hm : MtR X id r) (ho : PE X o to) (ha : PA X (e :: es) t) (hK : X.K = K := by rfl)
    (hbase : attributeBase o name X.env (eval o X.env) = eval o X.env := by rfl)
    (hfew : ((backTo cpos (starEach (e :: es) X.env)).all (fun x => !x.1) && (backToKw cpos (keywordEach [] X.env)).all (fun x => x.1.isSome) && decide ((e :: es).length + ([] : List Keyword).length + (if ([] : List Keyword).isEmpty then 0 else 1) < 30)) = true := by rfl)
    (hline : (apos.endLine == cpos.line) = true := by rfl) (hs : starEach (e :: es) X.env = (false, eval e X.env) :: starEach es X.env := by rfl) (hplain : (backTo cpos (starEach es X.env)).any (·.1) = false := by rfl) :
    PE X (.Call (.Attribute o name apos) (e :: es) [] cpos) (tBM K T r to t) := by
  subst hK
  exact pe_bm pa slot hty hm ho ha hbase hfew hline hs hplain
theorem c_max (hc : X.calm = true) (h : X.K = K := by rfl) : CallR X (.builtin "max") (rMax K) := by
  subst h
  exact cr_max hc
end
end Bw
set_option Elab.async false
set_option linter.all false
set_option maxRecDepth 100000
set_option maxHeartbeats 4000000
namespace Bw
open PySem PySem.Spec PyProof.Rows L2
/-! ### max and min of a tuple of whole numbers -/
section
variable {prog : Program} {w : World} {A : Around} {E : Value → Shared → Prop} {s : Shared} {l : Addr} {xs : Array (Int × Tok)}
theorem iter_intTup {Q : Value → Shared → Prop} (hl : s.heap.IsTuple l (intItems xs))
    (h : ∀ s₂ : Shared, s₂ = { s with heap := s.heap.push { cls := .type "tuple_iterator", data := .fields #[.ref l, .int 0 0] } } →
      (s₂.heap.IsTupleIter s.heap.objs.size l 0 ∧ s₂.heap.IsTuple l (intItems xs)) → (∀ b ∈ [s.heap.objs.size, l], b < s₂.heap.objs.size) → l ≠ s.heap.objs.size → Q (.ref s.heap.objs.size) s₂) :
    wpAny (model prog w) A (pyIter (.ref l)) Q E s := by
  have hlt : l < s.heap.objs.size := by obtain ⟨_, e, _⟩ := hl; exact Heap.lt_size e
  refine wpAny_pyIter_tuple hl (h _ rfl ⟨⟨_, Heap.get?_push_size _ rfl, rfl, rfl⟩, hl.at fun o e => Heap.get?_push_of_some _ e⟩ (fun b hb => ?_) (Nat.ne_of_lt hlt))
  show b < (s.heap.push _).objs.size
  rw [Heap.size_push]
  rcases List.mem_cons.mp hb with rfl | hb
  · exact Nat.lt_succ_self _
  · rcases List.mem_cons.mp hb with rfl | hb
    · exact Nat.lt_succ_of_lt hlt
    · cases hb
theorem old_keptT {h' : Heap} {o₀ : Obj} (hk : ∀ b o, b ∉ [s.heap.objs.size] → (s.heap.push o₀).get? b = some o → h'.get? b = some o) :
    ∀ b o, s.heap.get? b = some o → h'.get? b = some o := fun b o e => by
  refine hk b o (fun hm => ?_) (Heap.get?_push_of_some _ e)
  rcases List.mem_cons.mp hm with e1 | hm
  · exact absurd (e1 ▸ Heap.lt_size e) (Nat.lt_irrefl _)
  · cases hm
theorem max_intTup {Q : Value → Shared → Prop} (hh : A.handled = none) (hl : s.heap.IsTuple l (intItems xs)) (hne : 0 < xs.size)
    (h : ∀ v h' tk, (intItems xs)[argBest (fun i j => decide (numAt xs i > numAt xs j)) (xs.size - 1)]? = some v → (∀ b o, s.heap.get? b = some o → h'.get? b = some o) → Q v { s with heap := h', toks := tk }) :
    wpAny (model prog w) A (call (.builtin "max") [.ref l]) Q E s := by
  refine call_max_walk (iter_intTup hl fun s₂ e st hfp hlI => ?_)
  subst e
  refine ⟨_, _, _, _, _, _, _, rfl, Walks.tuple (A := A.in1) hh _ l hlI (intItems xs), st, hfp, by simpa [intItems] using hne, CmpOf.ints_gt (numAt xs) (fun _ _ => intItems_at), fun v h' tk hP hk => ?_⟩
  exact h v h' tk (by simpa [intItems] using hP) (old_keptT hk)
theorem min_intTup {Q : Value → Shared → Prop} (hh : A.handled = none) (hl : s.heap.IsTuple l (intItems xs)) (hne : 0 < xs.size)
    (h : ∀ v h' tk, (intItems xs)[argBest (fun i j => decide (numAt xs i < numAt xs j)) (xs.size - 1)]? = some v → (∀ b o, s.heap.get? b = some o → h'.get? b = some o) → Q v { s with heap := h', toks := tk }) :
    wpAny (model prog w) A (call (.builtin "min") [.ref l]) Q E s := by
  refine call_min_walk (iter_intTup hl fun s₂ e st hfp hlI => ?_)
  subst e
  refine ⟨_, _, _, _, _, _, _, rfl, Walks.tuple (A := A.in1) hh _ l hlI (intItems xs), st, hfp, by simpa [intItems] using hne, CmpOf.ints_lt (numAt xs) (fun _ _ => intItems_at), fun v h' tk hP hk => ?_⟩
  exact h v h' tk (by simpa [intItems] using hP) (old_keptT hk)
theorem max_rawT {its : List Value} {ns : List Int} {Q : Value → Shared → Prop} (hh : A.handled = none) (hl : s.heap.IsTuple l its.toArray) (hi : IntsAre its ns) (hne : 0 < ns.length)
    (h : ∀ h' tk M t', (∀ b o, s.heap.get? b = some o → h'.get? b = some o) → M ∈ ns → (∀ a, a ∈ ns → a ≤ M) → Q (.int M t') { s with heap := h', toks := tk }) : wpAny (model prog w) A (call (.builtin "max") [.ref l]) Q E s := by
  obtain ⟨xs, e⟩ := hi.allInts.items
  have hn : numsOf (intItems xs).toList = ns := by rw [← e]; exact hi.numsOf
  rw [nums_intItems] at hn
  subst hn
  rw [e] at hl
  have hsz : 0 < xs.size := by simpa using hne
  refine max_intTup hh hl hsz fun v h' tk hv hk => ?_
  obtain ⟨t, rfl⟩ := intItems_at hv
  obtain ⟨h1, h2⟩ := argBest_gt (numAt xs) (xs.size - 1)
  refine h h' tk _ t hk ?_ fun a ha => ?_
  · rw [numAt_eq]; exact PySem.getD_mem (by rw [List.length_map, Array.length_toList]; omega)
  · obtain ⟨j, hj, rfl⟩ := mem_getD ha
    rw [List.length_map, Array.length_toList] at hj
    rw [← numAt_eq]; exact h2 j (by omega)
theorem min_rawT {its : List Value} {ns : List Int} {Q : Value → Shared → Prop} (hh : A.handled = none) (hl : s.heap.IsTuple l its.toArray) (hi : IntsAre its ns) (hne : 0 < ns.length)
    (h : ∀ h' tk M t', (∀ b o, s.heap.get? b = some o → h'.get? b = some o) → M ∈ ns → (∀ a, a ∈ ns → M ≤ a) → Q (.int M t') { s with heap := h', toks := tk }) : wpAny (model prog w) A (call (.builtin "min") [.ref l]) Q E s := by
  obtain ⟨xs, e⟩ := hi.allInts.items
  have hn : numsOf (intItems xs).toList = ns := by rw [← e]; exact hi.numsOf
  rw [nums_intItems] at hn
  subst hn
  rw [e] at hl
  have hsz : 0 < xs.size := by simpa using hne
  refine min_intTup hh hl hsz fun v h' tk hv hk => ?_
  obtain ⟨t, rfl⟩ := intItems_at hv
  obtain ⟨h1, h2⟩ := argBest_lt (numAt xs) (xs.size - 1)
  refine h h' tk _ t hk ?_ fun a ha => ?_
  · rw [numAt_eq]; exact PySem.getD_mem (by rw [List.length_map, Array.length_toList]; omega)
  · obtain ⟨j, hj, rfl⟩ := mem_getD ha
    rw [List.length_map, Array.length_toList] at hj
    rw [← numAt_eq]; exact h2 j (by omega)
end
section
variable {X : Cx} {K : PySem.W.Frag}
def rMaxT (K : PySem.W.Frag) : List V → Hp → VK → Prop := fun vs H Q => ∃ (a : Addr) (ns : List Int), vs = [V.ref a] ∧ SqT K H a (ns.map V.int) ∧ 0 < ns.length ∧ ∀ m, m ∈ ns → (∀ y, y ∈ ns → y ≤ m) → Q (.int m) H
def rMinT (K : PySem.W.Frag) : List V → Hp → VK → Prop := fun vs H Q => ∃ (a : Addr) (ns : List Int), vs = [V.ref a] ∧ SqT K H a (ns.map V.int) ∧ 0 < ns.length ∧ ∀ m, m ∈ ns → (∀ y, y ∈ ns → m ≤ y) → Q (.int m) H
theorem c_maxT (hc : X.calm = true) (h : X.K = K := by rfl) : CallR X (.builtin "max") (rMaxT K) := by
  subst h
  intro pins s σ H vs us Q I r h
  obtain ⟨a, ns, rfl, hs, hne, q⟩ := h
  obtain ⟨its, rv, hl, _⟩ := I.tuple hs
  rw [Vals.ref1 r]
  exact max_rawT (I.ok.hd hc) hl rv.ints hne fun h' tk m t' hk h1 h2 => ⟨.int _, H, I.kept hk, ⟨_, rfl⟩, q m h1 h2⟩
theorem c_minT (hc : X.calm = true) (h : X.K = K := by rfl) : CallR X (.builtin "min") (rMinT K) := by
  subst h
  intro pins s σ H vs us Q I r h
  obtain ⟨a, ns, rfl, hs, hne, q⟩ := h
  obtain ⟨its, rv, hl, _⟩ := I.tuple hs
  rw [Vals.ref1 r]
  exact min_rawT (I.ok.hd hc) hl rv.ints hne fun h' tk m t' hk h1 h2 => ⟨.int _, H, I.kept hk, ⟨_, rfl⟩, q m h1 h2⟩
end
end Bw
set_option Elab.async false
set_option linter.all false
set_option maxRecDepth 100000
set_option maxHeartbeats 4000000
namespace Bw
open PySem PySem.Spec PyProof.Rows L2
/-! ### a op b op c op d -/
section
variable {X : Cx} {K : PySem.W.Frag} {a b c d : Expr} {ta tb tc td : TE} {pos : Pos}
def tChain3 (r r' r'' : R2) (ta tb tc td : TE) : TE := fun σ H Q => ta σ H fun x H1 => tb σ H1 fun y H2 => r x y H2 fun z H3 => ∃ k, z = .bl k ∧
  (if k = true then tc σ H3 fun w' H4 => r' y w' H4 fun z H5 => ∃ k, z = .bl k ∧ (if k = true then td σ H5 fun v' H6 => r'' w' v' H6 Q else Q (.bl false) H5) else Q (.bl false) H3)
theorem pe_chain3 {op op' op'' : CmpOp} {r r' r'' : R2} (ho : OpR X (compareOp op) r) (ho' : OpR X (compareOp op') r') (ho'' : OpR X (compareOp op'') r'') (ha : PE X a ta) (hb : PE X b tb) (hc : PE X c tc) (hd : PE X d td)
    (hm : lastMarks [op, op', op''] [b, c, d] = false := by with_unfolding_all rfl) : PE X (.Compare a [op, op', op''] [b, c, d] pos) (tChain3 r r' r'' ta tb tc td) := by
  refine ⟨fun pins s σ H Q I h => ?_⟩
  refine Compare_chain (thn (ha.run pins s σ H _ I h) fun v s1 ⟨x, H1, I1, r1, q1⟩ => chain_link (thn (hb.run pins s1 σ H1 _ I1 q1) fun u s2 ⟨y, H2, I2, r2, q2⟩ =>
    thn (ho pins s2 σ H2 x y v u _ I2 r1 r2 q2) fun d s3 ⟨z, H3, I3, r3, k, e, q3⟩ => ?_)) hm
  subst e
  cases r3
  refine wpAny_truthy_bool ?_
  cases k with
  | false => exact ite_ff ⟨.bl false, H3, I3, rfl, q3⟩
  | true =>
    refine ite_tt (chain_link (thn (hc.run pins s3 σ H3 _ I3 q3) fun w' s4 ⟨z', H4, I4, r4, q4⟩ => thn (ho' pins s4 σ H4 y z' u w' _ I4 r2 r4 q4) fun d s5 ⟨z, H5, I5, r5, k, e, q5⟩ => ?_))
    subst e
    cases r5
    refine wpAny_truthy_bool ?_
    cases k with
    | false => exact ite_ff ⟨.bl false, H5, I5, rfl, q5⟩
    | true => exact ite_tt (chain_last (thn (hd.run pins s5 σ H5 _ I5 q5) fun w2 s6 ⟨z2, H6, I6, r6, q6⟩ => ho'' pins s6 σ H6 z' z2 w' w2 Q I6 r4 r6 q6))
/-! ### x in t, a tuple of data -/
def rInDT (K : PySem.W.Frag) (neg : Bool) : R2 := fun x y H Q => ∃ d ds, Dp K H x d ∧ Dp K H y (.tuple ds) ∧ SeqAt.shaped d = true ∧ SeqAt.shaped (.tuple ds) = true ∧ Q (.bl (if neg then !(ds.any fun z => PyData.eqv z d) else ds.any fun z => PyData.eqv z d)) H
theorem o_inDT (hu : X.A.units + 65 < cLine) (hK : X.K = K := by rfl) : OpR X (compareOp .In) (rInDT K false) := by
  subst hK
  intro pins s σ H x y v u Q I rx ry h
  obtain ⟨d, ds, hd, he, sd, se, q⟩ := h
  obtain ⟨as, r1⟩ := Dp.reads I d x v hd rx
  obtain ⟨bs, r2⟩ := Dp.reads I (.tuple ds) y u he ry
  exact SeqAt.in_tuple_reads r2 r1 (SeqAt.canLay_of_shaped se) (SeqAt.canLay_of_shaped sd) (room_in_shaped sd hu) ⟨.bl _, H, I, rfl, q⟩
theorem o_notInDT (hu : X.A.units + 65 < cLine) (hK : X.K = K := by rfl) : OpR X (compareOp .NotIn) (rInDT K true) := by
  subst hK
  intro pins s σ H x y v u Q I rx ry h
  obtain ⟨d, ds, hd, he, sd, se, q⟩ := h
  obtain ⟨as, r1⟩ := Dp.reads I d x v hd rx
  obtain ⟨bs, r2⟩ := Dp.reads I (.tuple ds) y u he ry
  exact SeqAt.notIn_tuple_reads r2 r1 (SeqAt.canLay_of_shaped se) (SeqAt.canLay_of_shaped sd) (room_in_shaped sd hu) ⟨.bl _, H, I, rfl, q⟩
theorem o_inDL (hu : X.A.units + 65 < cLine) (hK : X.K = K := by rfl) : OpR X (compareOp .In) (rInD K) := by
  subst hK
  exact op_inD hu
theorem o_notInDL (hu : X.A.units + 65 < cLine) (hK : X.K = K := by rfl) : OpR X (compareOp .NotIn) (rNotInD K) := by
  subst hK
  exact op_notInD hu
theorem o_leT (hu : X.A.units < cLine) (hK : X.K = K := by rfl) : OpR X (compareOp .LtE) (rLeT K) := by
  subst hK
  exact op_leT hu
theorem o_ltT (hu : X.A.units < cLine) (hK : X.K = K := by rfl) : OpR X (compareOp .Lt) (rLtT K) := by
  subst hK
  exact op_ltT hu
end
/-! ### t[::-1] of a tuple -/
section
variable {prog : Program} {w : World} {A : Around} {E : Value → Shared → Prop} {s : Shared}
theorem places_rev (n : Nat) : Builtin.Slice.slicePlaces ((n : Int) - 1) (-1) (-1) = n := by
  unfold Builtin.Slice.slicePlaces
  rw [if_neg (by decide)]
  by_cases h : (n : Int) - 1 > -1
  · rw [if_pos h, show (- -1 : Int) = 1 by decide, Int.ediv_one]
    omega
  · rw [if_neg h]
    omega
theorem fm_congr {α β : Type} {f g : α → Option β} : ∀ {l : List α}, (∀ x ∈ l, f x = g x) → l.filterMap f = l.filterMap g
  | [], _ => rfl
  | x :: l, h => by
    rw [List.filterMap_cons, List.filterMap_cons, h x List.mem_cons_self, fm_congr (l := l) fun y hy => h y (List.mem_cons_of_mem _ hy)]
theorem pick_rev (xs : Array Value) : ((List.range xs.size).filterMap fun (k : Nat) => xs[(((xs.size : Int) - 1) + (k : Int) * (-1)).toNat]?).toArray = xs.toList.reverse.toArray := by
  have e : ((List.range xs.size).filterMap fun (k : Nat) => xs[(((xs.size : Int) - 1) + (k : Int) * (-1)).toNat]?) = ((List.range xs.size).map fun k => xs.size - 1 - k).filterMap (xs[·]?) := by
    rw [List.filterMap_map]
    refine fm_congr fun k hk => ?_
    have := List.mem_range.mp hk
    show _ = xs[xs.size - 1 - k]?
    congr 1
    omega
  rw [e, PySem.W.krv_range, List.filterMap_reverse, PySem.W.krv_all]
theorem sliceApplied_rev {sl : Addr} {n : Nat} {u : Tok} {Q : Int × Int × Nat → Shared → Prop} (hs : s.heap.IsSliceOf sl .none .none (.int (-1) u))
    (h : Q ((n : Int) - 1, -1, n) s) :
    wpAny (model prog w) A (Builtin.Slice.sliceApplied (.ref sl) (pure (n : Int))) Q E s := by
  obtain ⟨os, hos, hcs, hds⟩ := id hs
  unfold Builtin.Slice.sliceApplied Builtin.Slice.sliceFields
  refine wpAny_bind (wpAny_bind (wpAny_field hos hds (x := .none) rfl (wpAny_bind (wpAny_field hos hds (x := .none) rfl (wpAny_bind (wpAny_field hos hds (x := .int (-1) u) rfl (wpAny_pure ?_)))))))
  refine wpAny_bind (slicePart_int ?_)
  show wpAny _ _ (if ((-1 : Int) == 0) = true then _ else _) _ _ s
  rw [if_neg (by decide)]
  refine wpAny_bind (slicePart_none (wpAny_bind (slicePart_none (wpAny_bind (wpAny_pure ?_)))))
  show wpAny _ _ (pure ((n : Int) - 1, (-1 : Int), Builtin.Slice.slicePlaces ((n : Int) - 1) (-1) (-1))) _ _ s
  rw [places_rev]
  exact wpAny_pure h
theorem getItem_tuple_rev {t sl : Addr} {items : Array Value} {u : Tok} {Q : Value → Shared → Prop} (ht : IsTup s.heap t items) (hs : s.heap.IsSliceOf sl .none .none (.int (-1) u))
    (h : Q (.ref s.heap.objs.size) { s with heap := s.heap.push { cls := .type "tuple", data := .seq items.toList.reverse.toArray } })
    (hsz : items.size ≤ sizeLine := by size_fits) : wpAny (model prog w) A (getItem (.ref t) (.ref sl)) Q E s := by
  have hdrop : sizeOk (.seq items.toList.reverse.toArray) := by
    show items.toList.reverse.toArray.size ≤ sizeLine
    rw [List.size_toArray, List.length_reverse, Array.length_toList]
    omega
  obtain ⟨os, hos, hcs, hds⟩ := id hs
  have hTs : s.TypeIs (.ref sl) "slice" := ⟨os, hos, hcs⟩
  unfold getItem
  try with_reducible refine wpAny_holding ?_
  first | refine wpAny_bind (wpAny_pure ?_) | skip
  refine wpAny_bind (wpAny_sequenceKey ht.typeIs (by decide) ?_)
  refine wpAny_bind (wpAny_callSpecial?_slot (name := Str.ofString "__getitem__") ht.typeIs slot_tuple_getitem
    (wpAny_call_entry slot_tuple_getitem ht.typeIs entry_tuple_getitem ?_ (args_tuple_getitem _ _)))
  show wpAny _ _ (Builtin.Tuple.tupleItemsOf (.ref t) >>= _) _ _ s
  refine wpAny_bind (tupleItemsOf_ ht ?_)
  refine wpAny_bind (wpAny_typeOf hTs ?_)
  rw [if_pos (by decide)]
  refine wpAny_bind (sliceApplied_rev hs ?_)
  have hno : ¬ ((((items.size : Int) - 1 == 0) && ((-1 : Int) == 1) && (items.size == items.size)) = true) := by
    cases ((items.size : Int) - 1 == 0) <;> simp
  show wpAny _ _ (if (((items.size : Int) - 1 == 0) && ((-1 : Int) == 1) && (items.size == items.size)) = true then _ else _) _ _ s
  rw [if_neg hno, pick_rev items]
  first
    | exact wpAny_bind (m := Builtin.Tuple.tupleExact _) (wpAny_newObj_type (wpAny_pure ⟨_, rfl, wpAny_pure h⟩) hdrop)
    | exact wpAny_bind (m := Builtin.Tuple.tupleExact _) (wpAny_newObj_type (wpAny_bind (wpAny_pure (wpAny_pure ⟨_, rfl, wpAny_pure h⟩))) hdrop)
    | exact wpAny_bind (wpAny_bind (m := Builtin.Tuple.tupleExact _) (wpAny_newObj_type (wpAny_pure (wpAny_pure ⟨_, rfl, wpAny_pure h⟩)) hdrop))
    | exact wpAny_bind (wpAny_bind (m := Builtin.Tuple.tupleExact _) (wpAny_newObj_type (wpAny_pure ⟨_, rfl, wpAny_pure h⟩) hdrop))
end
section
variable {X : Cx} {K : PySem.W.Frag}
def tRevT (K : PySem.W.Frag) (te : TE) : TE := fun σ H Q => te σ H fun x H1 => ∃ a xs, x = .ref a ∧ SqT K H1 a xs ∧ ∀ p, H1 p = none → Q (.ref p) (upd H1 p (.tup xs.reverse))
theorem pe_revT {e : Expr} {te : TE} {k : Nat} {p1 p2 p3 pos : Pos} (he : PE X e te) (hK : X.K = K := by rfl) : PE X (.Subscript e (.Slice none none (some (.UnaryOp .USub (.Constant (.int 1) k p1) p2)) p3) pos) (tRevT K te) := by
  subst hK
  refine ⟨fun pins s σ H Q I h => ?_⟩
  refine Subscript_ (thn (he.run pins s σ H _ I h) fun v s1 ⟨x, H1, I1, r1, q1⟩ => ?_)
  obtain ⟨a, xs, ex, hx, q⟩ := q1
  subst ex
  cases r1
  have hst : PO X (some (.UnaryOp .USub (.Constant (.int 1) k p1) p2)) (tPart (tUn (rU fun i => .int (-i)) (tC (.int 1)))) := po_some (pe_un un_neg pe_int)
  refine wpAny_Slice (thn (po_none.run pins s1 σ H1 (fun o H2 => o = none ∧ H2 = H1) I1 ⟨rfl, rfl⟩) fun vl s2 ⟨l, H2, I2, pl, el, e2⟩ => ?_)
  subst el e2
  refine thn (po_none.run pins s2 σ H2 (fun o H3 => o = none ∧ H3 = H2) I2 ⟨rfl, rfl⟩) fun vu s3 ⟨u, H3, I3, pu, eu, e3⟩ => ?_
  subst eu e3
  refine thn (hst.run pins s3 σ H3 (fun o H4 => o = some (-1) ∧ H4 = H3) I3 ⟨1, rfl, -1, rfl, rfl, rfl⟩) fun vs s4 ⟨o, H4, I4, ps, eo, e4⟩ => ?_
  subst eo e4
  have I5 : L2.Inv X pins σ H4 { s4 with heap := s4.heap.push { cls := .type "slice", data := .fields #[vl, vu, vs] } } := I4.kept (t' := s4.toks) fun b ob q => Heap.get?_push_of_some _ q
  obtain ⟨its, r, ht, hz⟩ := I5.tuple hx
  have hlen := r.length
  cases pl
  cases pu
  obtain ⟨u, es⟩ : ∃ u, vs = .int (-1) u := by
    cases ps
    exact ⟨_, rfl⟩
  subst es
  show wpAny (model X.prog X.w) X.A (subscriptTail e (.Slice none none (some (.UnaryOp .USub (.Constant (.int 1) k p1) p2)) p3) (.ref a) (.ref s4.heap.objs.size)) (EP X pins σ Q) X.xe _
  refine tail_any (ops := [.ref a, .ref s4.heap.objs.size]) ht.typeIs (slot_tuple_getitem.lookup) ?_ (by with_unfolding_all rfl)
  refine getItem_tuple_rev ht (Heap.IsSliceOf.new _ _ _ _) ?_ (by rw [List.size_toArray]; omega)
  refine ⟨.ref _, _, I5.laid (t' := s4.toks) (o := .tup xs.reverse) (fun b ob q => Heap.get?_push_of_some _ q) (Nat.le_refl _) ?_, rfl, q _ (I5.hok.fresh (Nat.le_refl _))⟩
  exact ⟨by rw [List.length_reverse]; exact hz, _, r.reverse, IsTup.new _ _⟩
end
end Bw
set_option Elab.async false
set_option linter.all false
set_option maxRecDepth 100000
set_option maxHeartbeats 4000000
namespace Bw
open PySem PySem.Spec PyProof.Rows L2 LamX
/-! ### try: .. except x as n: .. and more clauses, where the first one takes whatever is raised -/
def wAs1 (K : PySem.W.Frag) (c : Value) (i : Nat) (ts : Addr → Value → Option Addr → TS) (D : Ends) : WX := fun cls d σ H =>
  PySem.W.exmOne K cls c = some true ∧ ∀ a, H a = none → ts a cls d { nx := fun σ' H' => D.nx (σ'.set i none) H', rt := D.rt, bk := fun σ' H' => D.bk (σ'.set i none) H', ct := fun σ' H' => D.ct (σ'.set i none) H' } (σ.set i (some (.ref a))) H
theorem ps_try_as1 {X : Cx} {x n : Str} {c : Value} {i : Nat} {body suite : List Stmt} {b₀ : Stmt} {np pos pos' : Pos} {tb : WX → TS} {ts : Addr → Value → Option Addr → TS} {hds : List ExceptHandler} (hs : X.stack = X.env :: X.outer) (hf : X.env.frame = some X.env.locals) (hN : X.N.Nodup) (hi : X.N[i]? = some n) (hln : X.env.kindOf n = some .local) (hc : Names X x c)
    (hb : ∀ (W : WX) (pn : List (Addr × Obj)) (xe : Value → Shared → Prop), Takes (X.tr pn xe) W → PassesOwn (model X.prog X.w) X.A X.env xe → PSs (X.tr pn xe) body (tb W))
    (hsu : ∀ (a : Addr) (oe : Obj) (cls : Value) (d : Option Addr) (pn : List (Addr × Obj)), Zc cls d oe → (∃ vs, oe.data = .fields vs) → PSs (X.suite a ((a, oe) :: pn)) (b₀ :: suite) (ts a cls d)) :
    PS X (.Try body (.ExceptHandler (some (.Name x np)) (some n) (b₀ :: suite) pos' :: hds) [] [] pos) (fun D σ H => tb (wAs1 X.K c i ts D) D σ H) := by
  refine ⟨fun pins s σ H D I h => ?_⟩
  have ok := I.ok
  have hfr : X.A.frames = some (X.env :: X.outer) := by rw [ok.frames, hs]
  have hloc : Loc X.env.scope n := .inl hln
  refine wpAny_Try_except ?_
  refine wpAny_mono ((hb (wAs1 X.K c i ts D) (X.pn ++ pins) (fun e s₁ => wpAny (model X.prog X.w) X.A (noteFrame e X.env) (fun _ s₂ => wpAny (model X.prog X.w) X.A (setFlight e none) (fun _ s₃ => wpAny (model X.prog X.w) X.A (handleBy e X.env (.ExceptHandler (some (.Name x np)) (some n) (b₀ :: suite) pos' :: hds)) (SP X pins D) X.xe s₃) X.xe s₂) X.xe s₁) (fun u s' xx => ?_) PassesOwn.looking).run [] s σ H D (I.toTry _) h) (fun f s1 hsp => ?_) (fun e s1 he => he)
  · obtain ⟨a, B, sI, pins', σ', H', cls, d, rfl, J', nb, up, sky, na, os, ag, hb1, hyes⟩ := xx
    have J : L2.Inv X pins σ' H' sI := J'.ofTry ok
    have sky' : Sky B (X.env :: X.outer) a (Zc cls d) X.env.locals s'.heap := by rw [← hs]; exact sky
    show wpAny (model X.prog X.w) X.A (noteFrame (.ref a) X.env) _ _ _
    refine Sky.land Zc.steady hfr hf sky' fun h3 fl3 up3 => ?_
    have J3 : L2.Inv X pins σ' H' { s' with heap := h3 } := J.landed nb fl3.1 (up.trans up3) os ag
    obtain ⟨oe3, vs3, he3, hz3, hd3⟩ := fl3.there
    have nfr : a ∉ frs (X.env :: X.outer) := fun hm => by
      obtain ⟨_, o', e', hnf⟩ := fl3.2.2.1.mem hm
      rw [he3] at e'; cases e'
      exact hnf _ hd3
    have nL : a ≠ X.env.locals := fun z => nfr (List.mem_filterMap.mpr ⟨X.env, List.mem_cons_self, by rw [hf, z]⟩)
    have nF : a ∉ X.fs := fun hm => by
      obtain ⟨e, he, q⟩ := List.mem_filterMap.mp hm
      exact nfr (List.mem_filterMap.mpr ⟨e, List.mem_cons_of_mem _ he, q⟩)
    have S3 := J3.suite he3 hd3 na nL nF
    refine wpAny_handleBy_cons (codeAny_handlers_test ?_) (by intro q; cases q)
    have LT : PySem.W.Looks (model X.prog X.w) h3 (typeOf (.ref a)) cls := fun A Q E s k q => wpAny_typeOf_ref (k _ _ he3) (by rw [hz3.1]; exact q)
    have LM := PySem.W.exm_one (M := model X.prog X.w) (J3.kIn) LT hb1
    have test : ∀ {Q : Value → Shared → Prop} {E : Value → Shared → Prop}, Q c { s' with heap := h3 } → wpAny (model X.prog X.w) (X.A.mark (some (.ref a))) (eval (.Name x np) X.env) Q E { s' with heap := h3 } := fun {Q E} q => by
      obtain ⟨hg, hdbg, hm | ⟨hm, hv, hnn⟩⟩ := hc
      · exact ld_glob (X := X.suite a ((a, oe3) :: (X.pn ++ pins))) S3 hg hm q hdbg
      · exact ld_blt (X := X.suite a ((a, oe3) :: (X.pn ++ pins))) S3 hg hm hv q hnn hdbg
    refine test (LM.here ?_)
    refine codeAny_handlers_suite_as ?_
    refine HandSPX.lands_againZ fl3 fun h4 fl4 up4 => ?_
    have J4 : L2.Inv X pins σ' H' { s' with heap := h4 } := J.landed nb fl4.1 ((up.trans up3).trans up4) os ag
    obtain ⟨oe4, vs4, he4, hz4, hd4⟩ := fl4.there
    have S4 := J4.suite he4 hd4 na nL nF
    refine store_ok (X := X.suite a ((a, oe4) :: (X.pn ++ pins))) (v := .ref a) S4 hN hi hloc rfl (fun s5 S5 => ?_) (.inr hln)
    refine wpAny_mono ((hsu a oe4 cls d (X.pn ++ pins) hz4 ⟨_, hd4⟩).run [] s5 _ H' _ S5 (hyes a na)) (fun f s6 hsp => ?_) (fun _ _ z => False.elim z)
    have end_ : ∀ {σ6 : L2.St} {H6 : Hp} {Q : Shared → Prop}, L2.Inv (X.suite a ((a, oe4) :: (X.pn ++ pins))) [] σ6 H6 s6 → (∀ s7, L2.Inv X pins (σ6.set i none) H6 s7 → Q s7) → wpAny (model X.prog X.w) X.A (do bindName X.env n .none; unbindBehindTheSuite X.env n pos') (fun _ s7 => Q s7) X.xe s6 := fun {σ6 H6 Q} S6 hq => gone_ok (S6.unsuite ok) hN hi hln hq
    cases f with
    | next => exact let ⟨σ6, H6, S6, q6⟩ := hsp; end_ S6 fun s7 J7 => ⟨_, _, J7, q6⟩
    | brk => exact let ⟨σ6, H6, S6, q6⟩ := hsp; end_ S6 fun s7 J7 => ⟨_, _, J7, q6⟩
    | cont => exact let ⟨σ6, H6, S6, q6⟩ := hsp; end_ S6 fun s7 J7 => ⟨_, _, J7, q6⟩
    | ret u => exact let ⟨v6, σ6, H6, S6, r6, q6⟩ := hsp; end_ S6 fun s7 J7 => ⟨_, _, _, J7, r6, q6⟩
  · cases f with
    | next => exact let ⟨σ', H', J', q⟩ := hsp; wpAny_execs_nil ⟨σ', H', J'.ofTry ok, q⟩
    | brk => exact let ⟨σ', H', J', q⟩ := hsp; ⟨σ', H', J'.ofTry ok, q⟩
    | cont => exact let ⟨σ', H', J', q⟩ := hsp; ⟨σ', H', J'.ofTry ok, q⟩
    | ret u => exact let ⟨v, σ', H', J', r, q⟩ := hsp; ⟨v, σ', H', J'.ofTry ok, r, q⟩
/-! ### e.n of a caught error whose class is known only then -/
def tXfD (K : PySem.W.Frag) (a : Addr) (cls : Value) (d : Option Addr) (n : Str) (i : Nat) : TE := fun σ H Q => σ[i]? = some (some (.ref a)) ∧ ∃ (C dd : Addr) (fs : List (Str × V)) (v : V), cls = .ref C ∧ XfC K C ∧ PySem.W.findIn K (.ref C) n = some none ∧ d = some dd ∧ H dd = some (.xd fs) ∧ fs.lookup n = some v ∧ Q v H
theorem pe_xfD {X : Cx} {a : Addr} {oe : Obj} {cls : Value} {d : Option Addr} {pn : List (Addr × Obj)} {e : Expr} {i : Nat} {pos : Pos} {n : Str} (hz : Zc cls d oe) (hf : ∃ vs, oe.data = .fields vs) (he : PE (X.suite a ((a, oe) :: pn)) e (tVar i)) (hb : attributeBase e n X.env (eval e X.env) = eval e X.env := by rfl) :
    PE (X.suite a ((a, oe) :: pn)) (.Attribute e n pos) (tXfD X.K a cls d n i) := by
  refine ⟨fun pins s σ H Q I h => ?_⟩
  obtain ⟨h1, C, dd, fs, v, rfl, T, hno, rfl, h2, h3, q⟩ := h
  exact (pe_xf T hno hz hf he hb).run pins s σ H Q I ⟨.ref a, h1, rfl, rfl, dd, fs, v, rfl, h2, h3, q⟩
/-! ### the word of a refusal, or none -/
/-- an error that a call may let out, with its word -/
def ErrAt (K : PySem.W.Frag) (CB : Addr) (cls : Value) (d : Option Addr) (H : Hp) (v : V) : Prop := ∃ (C dd : Addr) (fs : List (Str × V)), cls = .ref C ∧ d = some dd ∧ PySem.W.exmOne K (.ref C) (.ref CB) = some true ∧ XfC K C ∧ PySem.W.findIn K (.ref C) "word" = some none ∧ H dd = some (.xd fs) ∧ fs.lookup ("word" : Str) = some v
def TWord (K : PySem.W.Frag) (CB : Addr) : (XK → Hp → VK → Prop) → Hp → VK → Prop := fun tl H Q => tl (fun cls d H' => ∃ v, ErrAt K CB cls d H' v ∧ Q v H') H (fun _ H' => Q (.str "") H')
theorem takes_len {X : Cx} {W : WX} (tk : Takes X W) : Takes X (fun cls d σ H => σ.length = X.N.length → W cls d σ H) := fun u s' xx => by
  obtain ⟨a, B, sI, pins', σ', H', cls, d, rfl, J', nb, up, sky, na, os, ag, hw⟩ := xx
  exact tk _ _ ⟨a, B, sI, pins', σ', H', cls, d, rfl, J', nb, up, sky, na, os, ag, hw J'.len⟩
theorem word_gives {X : Cx} {Ng : List Str} {x a q : Str} {sg : Scope} {g CB : Addr} {cdg : Value} {j : Nat} {h2 : ExceptHandler} {p1 p2 p3 p4 p5 p6 p7 p8 p9 p10 p11 : Pos} (hge : sg.names.lookup ("BudError" : Str) = some .globalImplicit) (hme : X.mg "BudError" = some (.ref CB)) (hNd : Ng.Nodup) (hN1 : Ng[1]? = some ("e" : Str)) (hk : sg.names.lookup ("e" : Str) = some .local)
    (h0 : ∀ f : Addr, (L2.start Ng [V.ref f])[0]? = some (some (V.ref f))) :
    GivesTo X Ng x sg g cdg [.Try [.Expr (.Call (.Name a p1) [] [] p2) p3] [.ExceptHandler (some (.Name "BudError" p4)) (some "e") [.Return (some (.Attribute (.Name "e" p5) "word" p6)) p7] p8, h2] [] [] p9, .Return (some (.Constant (.str "") j p10)) p11] a q (TWord X.K CB) := by
  intro f c' s H Q tl act hc h
  have hgl : Gl (cxOf C8.CX0 X.prog X.w X.K X.mg X.base Ng x sg g cdg X.A X.stack s H C8.E0).nox "BudError" := hge
  refine ⟨_, pss_cons (ps_try_as1 (X := (cxOf C8.CX0 X.prog X.w X.K X.mg X.base Ng x sg g cdg X.A X.stack s H C8.E0).nox) (c := .ref CB) (i := 1)
      (tb := fun W D σ H => ∃ Ech : XK, (∀ cls d σ' H', Ech cls d H' → σ'.length = Ng.length → W cls d σ' H') ∧ σ[0]? = some (some (.ref f)) ∧ H c' = some (CodeO c' q) ∧ tl Ech H fun _ H' => D.nx σ H')
      (ts := fun a cls d => tRet (tXfD X.K a cls d "word" 1)) rfl rfl hNd hN1 hk ⟨hgl, by decide, .inl hme⟩ (fun W pn xe tk _ => ?_) (fun b oe cls d pn hz hf => pss_one (ps_ret (pe_xfD hz hf (pe_var hN1 (.inl hk)))))) (pss_one (ps_ret pe_str)), ?_⟩
  · refine ⟨fun pins s' σ H' D I h' => ?_⟩
    obtain ⟨Ech, hW, h1, h2, h3⟩ := h'
    have hp := act _ pn xe Ech p1 p2 (takes_len tk) hW
    have hq := pss_one (ps_expr (pos := p3) hp)
    exact hq.run pins s' σ H' D I ⟨h1, h2, h3⟩
  · refine ⟨fun cls d H' => ∃ v, ErrAt X.K CB cls d H' v ∧ Q v H', fun cls d σ' H' hE hl => ?_, h0 f, hc, h⟩
    obtain ⟨v, ⟨C, dd, fs, rfl, rfl, e1, e2, e3, e4, e5⟩, hQ⟩ := hE
    refine ⟨e1, fun b _ => ⟨?_, C, dd, fs, v, rfl, e2, e3, rfl, e4, e5, hQ⟩⟩
    have : 1 < σ'.length := by
      rw [hl]
      exact (List.getElem?_eq_some_iff.mp hN1).1
    rw [List.getElem?_set_self this]
end Bw
set_option Elab.async false
set_option linter.all false
set_option maxRecDepth 100000
set_option maxHeartbeats 4000000
namespace Bw
open PySem PySem.Spec PyProof.Rows L2
/-! ### o.m(k=v): a method called by one keyword -/
def tMethK (C : Addr) (m : Str) (sp : Sp) (gV : List V → List V → List V) (E : XK) (ta : TE) (tk : TA) : TE := fun σ H Q => ta σ H fun x H1 => ∃ a dx fs, x = .ref a ∧ H1 a = some (.ins C dx fs) ∧ fs.lookup m = none ∧ tk σ H1 fun zs H2 => sp (gV [x] zs) H2 Q E
theorem pe_methK0 {X : Cx} {CX : CXT} {k : Nat} {C f : Addr} {fd : FuncData} {ps ks : List Str} {sp : Sp} {E : XK} {m : Str} {o : Expr} {ta : TE} {apos pos : Pos} {kws : List Keyword} {tk : TA} {g : List Value → List Value → List Value} {gV : List V → List V → List V} {pl : Sem Bool}
    (he : PE X o ta) (c : Cls X.K C) (hm : Meth X.K C m f) (F : FnOk X.prog X.w X.K X.mg X.base CX k f fd ps sp) (hr : Room k X.A) (hb : KBinds X.K fd ps ks g gV) (hx : Passes CX X E)
    (hkw : PK X kws tk) (hall : (backToKw pos (keywordEach kws X.env)).all (·.1.isSome) = true := by rfl) (hks : (backToKw pos (keywordEach kws X.env)).filterMap (·.1) = ks := by rfl)
    (hpl : ((backTo pos (starEach [] X.env)).any (·.1) || (backToKw pos (keywordEach kws X.env)).any (·.1.isNone)) = false := by rfl)
    (ht : eval (.Call (.Attribute o m apos) [] kws pos) X.env = (do
      let ov ← eval o X.env
      standAt apos.atName
      let (f, first) ← holding [ov] (getMethod ov m pl)
      callWith pos f first (backTo pos (starEach [] X.env)) (backToKw pos (keywordEach kws X.env))) := by rfl) :
    PE X (.Call (.Attribute o m apos) [] kws pos) (tMethK C m sp gV E ta tk) := by
  refine ⟨fun pins s σ H Q I h => ?_⟩
  refine PySem.W.methodCall_KW (pl := pl) (thn (he.run pins s σ H _ I h) fun u s1 ⟨x, H1, I1, rx, a, dx, fs, ex, ea, l, q⟩ => ?_) ht
  subst ex
  obtain rfl : u = Value.ref a := rx
  refine getmeth_ok I1 ea c hm l ?_
  refine PySem.W.callWith_KW0 (h₀ := X.base) (first := [.ref a]) I.ok.mod.kin hm.kp hall (thn (hkw.run pos pins s1 σ H1 _ I1 q) fun ws s2 ⟨zs, H2, I2, rz, q2⟩ => ⟨I2.kIn, ?_⟩) hpl
  rw [hks]
  exact run_fnk (us := [.ref a]) (vs := [.ref a]) F hr hb hx I2 (.cons rfl .nil) rz q2
/-! ### {k: v}, k a tuple -/
def tDisp1T (tk tv : TE) : TE := fun σ H Q => ∀ p, H p = none → tk σ (upd H p (.dT [])) fun x H1 => tv σ H1 fun y H2 => H2 p = some (.dT []) ∧ ∃ (b : Addr) (q : List Key), x = .ref b ∧ H2 b = some (.tup (q.map kV)) ∧ Q (.ref p) (upd H2 p (.dT [(q, y)]))
theorem pe_disp1T {X : Cx} {pos : Pos} {k v : Expr} {tk tv : TE} (hu : X.A.units < cLine) (hk : PE X k tk) (hv : PE X v tv) : PE X (.Dict [some k] [v] pos) (tDisp1T tk tv) := by
  refine ⟨fun pins s σ H Q I q => ?_⟩
  have hn := I.hok.fresh (Nat.le_refl s.heap.objs.size)
  have I1 := I.laid (a := s.heap.objs.size) (o := .dT []) (h' := s.heap.push { cls := .type "dict", data := .dict #[] }) (t' := s.toks) (fun _ _ q => Heap.get?_push_of_some _ q) (Nat.le_refl _) (dt_empty s.heap I.big)
  have h : PPs X pos [some k] [v] [(tk, tv)] := pps_cons hk hv pps_nil
  let Qp : List (V × V) → Hp → Prop := fun ps H2 => match ps with
    | [(x, y)] => H2 s.heap.objs.size = some (.dT []) ∧ ∃ (b : Addr) (q : List Key), x = .ref b ∧ H2 b = some (.tup (q.map kV)) ∧ Q (.ref s.heap.objs.size) (upd H2 s.heap.objs.size (.dT [(q, y)]))
    | _ => False
  have rd : tPairs [(tk, tv)] σ (upd H s.heap.objs.size (.dT [])) Qp := q _ hn
  rw [arm_eval_Dict, zip_pairTrees [some k] [v] X.env pos rfl rfl, dictDisplay_pairs _ (by simp [pairTrees]) (by show 1 < 17; decide)]
  refine wpAny_bind (wpAny_standAt (wpAny_bind ?_))
  unfold subDict
  refine wpAny_bind (wpAny_alloc ?_)
  refine wpAny_bind (wpAny_holding ?_)
  rw [if_pos (by show 1 ≤ 15; decide)]
  refine wpAny_bind (thn (h.run pins _ σ _ _ I1 rd) fun ws s2 ⟨ps, H2, I2, rel, qp⟩ => ?_)
  obtain ⟨b, qk, y, ep, e, eb, q2⟩ : ∃ (b : Addr) (qk : List Key) (y : V), ps = [(.ref b, y)] ∧ H2 s.heap.objs.size = some (.dT []) ∧ H2 b = some (.tup (qk.map kV)) ∧ Q (.ref s.heap.objs.size) (upd H2 s.heap.objs.size (.dT [(qk, y)])) := by
    match ps, qp with
    | [(x, y)], qp =>
      obtain ⟨e, b, qk, rfl, eb, q2⟩ := qp
      exact ⟨b, qk, y, rfl, e, eb, q2⟩
  subst ep
  obtain ⟨u, r, rfl, hur⟩ : ∃ u r, ws = [(u, r)] ∧ RelV (.ref b) u ∧ RelV y r := by
    cases rel with
    | cons h t =>
      cases t
      exact ⟨_, _, rfl, h⟩
  obtain ⟨ru, rr⟩ := hur
  obtain rfl : u = Value.ref b := ru
  refine wpAny_holding ?_
  rw [List.forIn_cons]
  obtain ⟨z, hd, xs, rel2, dd⟩ := dt_of I2.hok e
  have hx : xs = [] := by
    cases rel2
    rfl
  subst hx
  refine wpAny_bind (wpAny_bind (wpAny_bind (wpAny_dictSet_heap (hsz := Nat.zero_le _) (knd := tupleKind (mixKind X.prog X.w)) (show X.A.units < cLine from hu) (key_of I2.hok eb) dd fun h' dd' hs => wpAny_pure ?_)))
  show wpAny _ _ (forIn ([] : List (Value × Value)) PUnit.unit _) _ _ _
  rw [List.forIn_nil]
  refine wpAny_pure (wpAny_pure (wpAny_pure (wpAny_pure ?_)))
  obtain ⟨qo, es, ep, hq, h2, h3, h4, _, h5⟩ := dd'
  refine ⟨.ref s.heap.objs.size, _, ?_, rfl, q2⟩
  refine d_write I2 (by rw [e]; exact True.intro) hs ⟨qo, hq⟩ ⟨by show 1 ≤ sizeLine; decide, hd, _, (KT.put rel2 qk eb rr).keeps fun c ys ec => ?_, qo, es, ep, hq, h2, h3, h4, h5⟩
  rw [upd_ne (ne_of ec e (fun z => nomatch z))]
  exact ec
end Bw
set_option Elab.async false
set_option linter.all false
set_option maxRecDepth 100000
set_option maxHeartbeats 1000000
namespace Bw
open PySem PySem.Spec PyProof.Rows L2
/-! ### sums of products, as what they make of any weighing of powers -/
abbrev Tm := List Int × Int
def Lf (ts : List Tm) (φ : List Int → Int) : Int := (ts.map fun a => a.2 * φ a.1).sum
theorem Lf_nil (φ : List Int → Int) : Lf [] φ = 0 := rfl
theorem Lf_cons (a : Tm) (ts : List Tm) (φ : List Int → Int) : Lf (a :: ts) φ = a.2 * φ a.1 + Lf ts φ := by
  unfold Lf
  rw [List.map_cons, List.sum_cons]
theorem Lf_append (a b : List Tm) (φ : List Int → Int) : Lf (a ++ b) φ = Lf a φ + Lf b φ := by
  unfold Lf
  rw [List.map_append, List.sum_append]
theorem Lf_perm {a b : List Tm} (h : a.Perm b) (φ : List Int → Int) : Lf a φ = Lf b φ := by
  induction h with
  | nil => rfl
  | cons x _ ih => rw [Lf_cons, Lf_cons, ih]
  | swap x y l =>
    rw [Lf_cons, Lf_cons, Lf_cons, Lf_cons]
    omega
  | trans _ _ h1 h2 => exact h1.trans h2
theorem Lf_filter (ts : List Tm) (φ : List Int → Int) : Lf (ts.filter fun a => decide (a.2 ≠ 0)) φ = Lf ts φ := by
  induction ts with
  | nil => rfl
  | cons a ts ih =>
    rw [List.filter_cons]
    by_cases h : a.2 = 0
    · rw [if_neg (by simp [h]), ih, Lf_cons, h]
      omega
    · rw [if_pos (by simp [h]), Lf_cons, Lf_cons, ih]
theorem Lf_map (ts : List Tm) (g : List Int → List Int) (φ : List Int → Int) : Lf (ts.map fun a => (g a.1, a.2)) φ = Lf ts fun p => φ (g p) := by
  induction ts with
  | nil => rfl
  | cons a ts ih => rw [List.map_cons, Lf_cons, Lf_cons, ih]
theorem Lf_neg (ts : List Tm) (φ : List Int → Int) : Lf (ts.map fun a => (a.1, -a.2)) φ = -(Lf ts φ) := by
  induction ts with
  | nil => rfl
  | cons a ts ih =>
    rw [List.map_cons, Lf_cons, Lf_cons, ih]
    show -a.2 * φ a.1 + -(Lf ts φ) = -(a.2 * φ a.1 + Lf ts φ)
    rw [Int.neg_mul]
    omega
/-- products falling by their powers, none of count 0 -/
def Falls (r : List Tm) : Prop := r.Pairwise (fun a b => HT.lexLt b.1 a.1 = true)
structure Cn (ℓ : (List Int → Int) → Int) (r : List Tm) : Prop where
  fall : Falls r
  nz : ∀ a ∈ r, a.2 ≠ 0
  lf : ∀ φ, Lf r φ = ℓ φ
theorem lex_irr (p : List Int) : HT.lexLt p p = false := by
  cases h : HT.lexLt p p with
  | false => rfl
  | true =>
    have := NtL.lex_asym _ _ h
    rw [h] at this
    cases this
theorem lex_ne {p q : List Int} (h : HT.lexLt p q = true) : p ≠ q := fun e => by
  rw [e, lex_irr] at h
  cases h
theorem lex_tot : ∀ {p q : List Int}, HT.lexLt p q = false → HT.lexLt q p = false → p = q
  | [], [], _, _ => rfl
  | [], _ :: _, h, _ => by cases h
  | _ :: _, [], _, h => by cases h
  | x :: p, y :: q, h1, h2 => by
    rw [HT.lexLt_cons] at h1 h2
    by_cases e : x = y
    · subst e
      rw [if_pos rfl] at h1 h2
      rw [lex_tot h1 h2]
    · rw [if_neg e] at h1
      rw [if_neg (fun z => e z.symm)] at h2
      have a1 := of_decide_eq_false h1
      have a2 := of_decide_eq_false h2
      omega
/-- the count of p in r -/
def ind (p : List Int) : List Int → Int := fun q => if q = p then 1 else 0
theorem Lf_ind_none {r : List Tm} {p : List Int} (h : ∀ a ∈ r, a.1 ≠ p) : Lf r (ind p) = 0 := by
  induction r with
  | nil => rfl
  | cons a r ih =>
    rw [Lf_cons, ih fun b hb => h b (List.mem_cons_of_mem _ hb)]
    unfold ind
    rw [if_neg (h a (List.mem_cons_self ..))]
    omega
theorem Lf_ind_mem {r : List Tm} (hf : Falls r) {p : List Int} {c : Int} (h : (p, c) ∈ r) : Lf r (ind p) = c := by
  induction r with
  | nil => cases h
  | cons a r ih =>
    have hf' := List.pairwise_cons.mp hf
    rw [Lf_cons]
    rcases List.mem_cons.mp h with e | h
    · subst e
      rw [Lf_ind_none fun b hb => lex_ne (hf'.1 b hb)]
      show c * ind p p + 0 = c
      unfold ind
      rw [if_pos rfl]
      omega
    · have ne : a.1 ≠ p := Ne.symm (lex_ne (hf'.1 (p, c) h))
      rw [ih hf'.2 h]
      unfold ind
      rw [if_neg ne]
      omega
theorem Cn.mem {ℓ : (List Int → Int) → Int} {r : List Tm} (h : Cn ℓ r) (p : List Int) (c : Int) : (p, c) ∈ r ↔ c ≠ 0 ∧ ℓ (ind p) = c := by
  constructor
  · intro m
    refine ⟨h.nz _ m, ?_⟩
    rw [← h.lf, Lf_ind_mem h.fall m]
  · rintro ⟨hc, e⟩
    rw [← h.lf] at e
    by_cases m : ∃ a ∈ r, a.1 = p
    · obtain ⟨a, ha, rfl⟩ := m
      rw [Lf_ind_mem h.fall (p := a.1) (c := a.2) ha] at e
      rw [← e]
      exact ha
    · rw [Lf_ind_none fun a ha e' => m ⟨a, ha, e'⟩] at e
      exact absurd e.symm hc
theorem falls_uniq : ∀ {r r' : List Tm}, Falls r → Falls r' → (∀ a, a ∈ r ↔ a ∈ r') → r = r'
  | [], [], _, _, _ => rfl
  | [], b :: r', _, _, h => absurd ((h b).mpr (List.mem_cons_self ..)) (by simp)
  | a :: r, [], _, _, h => absurd ((h a).mp (List.mem_cons_self ..)) (by simp)
  | a :: r, b :: r', h1, h2, h => by
    have f1 := List.pairwise_cons.mp h1
    have f2 := List.pairwise_cons.mp h2
    have e : a = b := by
      rcases List.mem_cons.mp ((h a).mp (List.mem_cons_self ..)) with e | m
      · exact e
      · rcases List.mem_cons.mp ((h b).mpr (List.mem_cons_self ..)) with e | m'
        · exact e.symm
        · have x := f2.1 a m
          have y := f1.1 b m'
          have z := NtL.lex_asym _ _ x
          rw [y] at z
          cases z
    subst e
    have hr : r = r' := falls_uniq f1.2 f2.2 fun c => by
      constructor
      · intro m
        rcases List.mem_cons.mp ((h c).mp (List.mem_cons_of_mem _ m)) with e | m'
        · subst e
          exact absurd rfl (lex_ne (f1.1 c m))
        · exact m'
      · intro m
        rcases List.mem_cons.mp ((h c).mpr (List.mem_cons_of_mem _ m)) with e | m'
        · subst e
          exact absurd rfl (lex_ne (f2.1 c m))
        · exact m'
    rw [hr]
theorem Cn.uniq {ℓ : (List Int → Int) → Int} {r r' : List Tm} (h : Cn ℓ r) (h' : Cn ℓ r') : r = r' := by
  refine falls_uniq h.fall h'.fall fun a => ?_
  obtain ⟨p, c⟩ := a
  rw [h.mem, h'.mem]
/-! ### books: a count for each powers, in the order in which they came -/
def getB (bk : List Tm) (p : List Int) : Option Int := (bk.find? fun a => decide (a.1 = p)).map (·.2)
def putB (bk : List Tm) (p : List Int) (c : Int) : List Tm := if (bk.any fun a => decide (a.1 = p)) = true then bk.map (fun a => if a.1 = p then (a.1, c) else a) else bk ++ [(p, c)]
def NdB (bk : List Tm) : Prop := (bk.map (·.1)).Nodup
theorem putB_keys {bk : List Tm} {p : List Int} {c : Int} (h : NdB bk) : NdB (putB bk p c) := by
  unfold putB NdB
  by_cases q : (bk.any fun a => decide (a.1 = p)) = true
  · rw [if_pos q, List.map_map]
    have e : ((fun a : Tm => a.1) ∘ fun a : Tm => if a.1 = p then (a.1, c) else a) = fun a => a.1 := by
      funext a
      show (if a.1 = p then (a.1, c) else a).1 = a.1
      split <;> rfl
    rw [e]
    exact h
  · rw [if_neg q, List.map_append]
    refine List.nodup_append.mpr ⟨h, by simp, ?_⟩
    intro x hx y hy e
    obtain ⟨a, ha, rfl⟩ := List.mem_map.mp hx
    have : y = p := by simpa using hy
    subst this
    exact q (List.any_eq_true.mpr ⟨a, ha, decide_eq_true e⟩)
theorem putB_len (bk : List Tm) (p : List Int) (c : Int) : (putB bk p c).length ≤ bk.length + 1 := by
  unfold putB
  split
  · rw [List.length_map]
    omega
  · rw [List.length_append]
    exact Nat.le_refl _
theorem Lf_repl {p : List Int} {c d : Int} : ∀ {bk : List Tm}, NdB bk → (p, d) ∈ bk → ∀ φ, Lf (bk.map fun a => if a.1 = p then (a.1, c) else a) φ = Lf bk φ + (c - d) * φ p
  | [], _, h, _ => by cases h
  | a :: bk, nd, h, φ => by
    have nd' := List.nodup_cons.mp nd
    rw [List.map_cons, Lf_cons, Lf_cons]
    by_cases e : a.1 = p
    · have rest : (bk.map fun a => if a.1 = p then (a.1, c) else a) = bk := by
        have z : bk.map (fun a => if a.1 = p then (a.1, c) else a) = bk.map id := List.map_congr_left fun b hb => by
          rw [if_neg]
          · rfl
          · intro e'
            exact nd'.1 (List.mem_map.mpr ⟨b, hb, e'.trans e.symm⟩)
        rw [z, List.map_id]
      have ad : a = (p, d) := by
        rcases List.mem_cons.mp h with h | h
        · exact h.symm
        · exact absurd (List.mem_map.mpr ⟨(p, d), h, e.symm⟩) nd'.1
      rw [rest, if_pos e, ad]
      show c * φ p + Lf bk φ = d * φ p + Lf bk φ + (c - d) * φ p
      rw [Int.sub_mul]
      omega
    · rw [if_neg e]
      have h' : (p, d) ∈ bk := by
        rcases List.mem_cons.mp h with h | h
        · rw [← h] at e
          exact absurd rfl e
        · exact h
      rw [Lf_repl nd'.2 h' φ]
      omega
theorem getB_some {bk : List Tm} {p : List Int} {d : Int} (h : getB bk p = some d) : (p, d) ∈ bk := by
  unfold getB at h
  obtain ⟨a, ha, rfl⟩ := Option.map_eq_some_iff.mp h
  have e := List.find?_some ha
  have m := List.mem_of_find?_eq_some ha
  have : a.1 = p := of_decide_eq_true e
  rw [← this]
  exact m
theorem getB_none {bk : List Tm} {p : List Int} (h : getB bk p = none) : (bk.any fun a => decide (a.1 = p)) = false := by
  unfold getB at h
  have z := Option.map_eq_none_iff.mp h
  cases q : (bk.any fun a => decide (a.1 = p)) with
  | false => rfl
  | true =>
    obtain ⟨a, ha, e⟩ := List.any_eq_true.mp q
    exact absurd e (List.find?_eq_none.mp z a ha)
def addB (bk : List Tm) (p : List Int) (c : Int) : List Tm := putB bk p ((getB bk p).getD 0 + c)
theorem Lf_addB {bk : List Tm} (nd : NdB bk) (p : List Int) (c : Int) (φ : List Int → Int) : Lf (addB bk p c) φ = Lf bk φ + c * φ p := by
  unfold addB
  cases h : getB bk p with
  | none =>
    unfold putB
    rw [getB_none h, if_neg (by simp), Lf_append, Lf_cons, Lf_nil]
    show Lf bk φ + ((0 + c) * φ p + 0) = _
    rw [Int.zero_add]
    omega
  | some d =>
    unfold putB
    have m := getB_some h
    rw [if_pos (List.any_eq_true.mpr ⟨_, m, decide_eq_true rfl⟩), Lf_repl nd m]
    show Lf bk φ + (d + c - d) * φ p = _
    have e : d + c - d = c := by omega
    rw [e]
/-- a book as a dict -/
def enc (a : Tm) : List Key × V := (a.1.map Sum.inl, V.int a.2)
theorem inl_inj {p q : List Int} (h : p.map (Sum.inl : Int → Key) = q.map Sum.inl) : p = q := by
  have e := congrArg (List.map fun k : Key => match k with | .inl i => i | .inr _ => 0) h
  rw [List.map_map, List.map_map] at e
  have z : ((fun k : Key => match k with | .inl i => i | .inr _ => 0) ∘ (Sum.inl : Int → Key)) = id := rfl
  rw [z, List.map_id, List.map_id] at e
  exact e
theorem enc_iff {a : Tm} {p : List Int} : (enc a).1 = p.map Sum.inl ↔ a.1 = p := ⟨fun z => inl_inj z, fun z => by rw [← z]; rfl⟩
theorem enc_any (bk : List Tm) (p : List Int) : ((bk.map enc).any fun kv => decide (kv.1 = p.map Sum.inl)) = bk.any fun a => decide (a.1 = p) := by
  rw [List.any_map]
  congr 1
  funext a
  exact decide_eq_decide.mpr enc_iff
theorem enc_put (bk : List Tm) (p : List Int) (c : Int) : putK (bk.map enc) (p.map Sum.inl) (V.int c) = (putB bk p c).map enc := by
  unfold putK putB
  rw [enc_any]
  split
  · rw [List.map_map, List.map_map]
    refine List.map_congr_left fun a _ => ?_
    show (if (enc a).1 = p.map Sum.inl then ((enc a).1, V.int c) else enc a) = enc (if a.1 = p then (a.1, c) else a)
    by_cases e : a.1 = p
    · rw [if_pos (enc_iff.mpr e), if_pos e]
      rfl
    · rw [if_neg fun z => e (enc_iff.mp z), if_neg e]
  · rw [List.map_append]
    rfl
theorem enc_val : ∀ (bk : List Tm) (p : List Int), valV (bk.map enc) (p.map Sum.inl) = (getB bk p).map V.int
  | [], _ => rfl
  | a :: bk, p => by
    rw [List.map_cons]
    by_cases e : a.1 = p
    · have h1 : getB (a :: bk) p = some a.2 := by
        unfold getB
        rw [List.find?_cons_of_pos (by simpa using e)]
        rfl
      rw [h1, valV_pos (enc_iff.mpr e)]
      rfl
    · have h1 : getB (a :: bk) p = getB bk p := by
        unfold getB
        rw [List.find?_cons_of_neg (by simpa using e)]
      rw [h1, ← enc_val bk p, valV_neg fun z => e (enc_iff.mp z)]
theorem enc_keys (bk : List Tm) : KeysI (bk.map enc) (bk.map (·.1)) := by
  unfold KeysI
  rw [List.map_map, List.map_map]
  rfl
end Bw
set_option Elab.async false
set_option linter.all false
set_option maxRecDepth 100000
set_option maxHeartbeats 4000000
namespace Bw
open PySem PySem.Spec PyProof.Rows L2
/-! ### rows of numbers and products as data -/
theorem ints_lay : ∀ p : List Int, PyData.canLayAll0 (p.map PyData.int) = true
  | [] => by simp [PyData.canLayAll0]
  | a :: p => by
    have ih := ints_lay p
    simp only [List.map_cons, PyData.canLayAll0, PyData.canLay0, ih, Bool.and_self]
theorem ints_depth : ∀ p : List Int, PyData.depthAll (p.map PyData.int) ≤ 1
  | [] => by simp [PyData.depthAll]
  | a :: p => by
    have ih := ints_depth p
    simp only [List.map_cons, PyData.depthAll, PyData.depth]
    omega
theorem ints_eqv : ∀ p q : List Int, PyData.eqvAll (p.map PyData.int) (q.map PyData.int) = decide (p = q)
  | [], [] => by simp [PyData.eqvAll]
  | [], b :: q => by simp [PyData.eqvAll]
  | a :: p, [] => by simp [PyData.eqvAll]
  | a :: p, b :: q => by
    have ih := ints_eqv p q
    simp only [List.map_cons, PyData.eqvAll, PyData.eqv, ih]
    by_cases e : a = b
    · subst e
      by_cases z : p = q
      · subst z
        simp
      · simp [z]
    · simp [e]
def rowD (p : List Int) : PyData := .tuple (p.map .int)
theorem rowD_lay (p : List Int) : (rowD p).canLay0 = true := by
  simp only [rowD, PyData.canLay0]
  exact ints_lay p
theorem rowD_depth (p : List Int) : (rowD p).depth ≤ 2 := by
  have := ints_depth p
  simp only [rowD, PyData.depth]
  omega
theorem rowD_eqv (p q : List Int) : PyData.eqv (rowD p) (rowD q) = decide (p = q) := by
  simp only [rowD, PyData.eqv]
  exact ints_eqv p q
theorem all_lay {α : Type} {d : α → PyData} (h : ∀ a, (d a).canLay0 = true) : ∀ r : List α, PyData.canLayAll0 (r.map d) = true
  | [] => by simp [PyData.canLayAll0]
  | a :: r => by
    have ih := all_lay h r
    simp only [List.map_cons, PyData.canLayAll0, h a, ih, Bool.and_self]
theorem all_depth {α : Type} {d : α → PyData} {n : Nat} (h : ∀ a, (d a).depth ≤ n) : ∀ r : List α, PyData.depthAll (r.map d) ≤ n
  | [] => by simp [PyData.depthAll]
  | a :: r => by
    have ih := all_depth h r
    have := h a
    simp only [List.map_cons, PyData.depthAll]
    omega
theorem all_eqv {α : Type} [DecidableEq α] {d : α → PyData} (h : ∀ a b, PyData.eqv (d a) (d b) = decide (a = b)) : ∀ r r' : List α, PyData.eqvAll (r.map d) (r'.map d) = decide (r = r')
  | [], [] => by simp [PyData.eqvAll]
  | [], b :: q => by simp [PyData.eqvAll]
  | a :: p, [] => by simp [PyData.eqvAll]
  | a :: p, b :: q => by
    have ih := all_eqv h p q
    simp only [List.map_cons, PyData.eqvAll, h a b, ih]
    by_cases e : a = b
    · subst e
      by_cases z : p = q
      · subst z
        simp
      · simp [z]
    · simp [e]
def tmD (a : Tm) : PyData := .tuple [rowD a.1, .int a.2]
theorem tmD_lay (a : Tm) : (tmD a).canLay0 = true := by
  have := rowD_lay a.1
  simp only [tmD, PyData.canLay0, PyData.canLayAll0, this, Bool.and_self]
theorem tmD_depth (a : Tm) : (tmD a).depth ≤ 3 := by
  have := rowD_depth a.1
  simp only [tmD, PyData.depth, PyData.depthAll]
  omega
theorem tmD_eqv (a b : Tm) : PyData.eqv (tmD a) (tmD b) = decide (a = b) := by
  obtain ⟨p, c⟩ := a
  obtain ⟨q, d⟩ := b
  have := rowD_eqv p q
  simp only [tmD, PyData.eqv, PyData.eqvAll, this]
  by_cases e : p = q
  · subst e
    by_cases z : c = d
    · subst z
      simp
    · simp [z]
  · simp [e]
theorem shaped_tup {ds : List PyData} (h1 : PyData.canLayAll0 ds = true) (h2 : PyData.depthAll ds ≤ 50) : SeqAt.shaped (.tuple ds) = true := by
  have h3 : PyData.depth (.tuple ds) ≤ 64 := by
    simp only [PyData.depth]
    omega
  show (PyData.canLay0 (.tuple ds) && decide (PyData.depth (.tuple ds) ≤ 64)) = true
  rw [Bool.and_eq_true]
  exact ⟨by simp only [PyData.canLay0]; exact h1, decide_eq_true h3⟩
theorem shaped_lst {ds : List PyData} (h1 : PyData.canLayAll0 ds = true) (h2 : PyData.depthAll ds ≤ 50) : SeqAt.shaped (.list ds) = true := by
  have h3 : PyData.depth (.list ds) ≤ 64 := by
    simp only [PyData.depth]
    omega
  show (PyData.canLay0 (.list ds) && decide (PyData.depth (.list ds) ≤ 64)) = true
  rw [Bool.and_eq_true]
  exact ⟨by simp only [PyData.canLay0]; exact h1, decide_eq_true h3⟩
theorem dp_ints {K : PySem.W.Frag} {H : Hp} : ∀ p : List Int, DpAll K H (p.map V.int) (p.map PyData.int)
  | [] => .nil
  | a :: p => .cons (.int a) (dp_ints p)
theorem o_eqD {X : Cx} {K : PySem.W.Frag} (hu : X.A.units + 64 < cLine) (hK : X.K = K := by rfl) : OpR X (compareOp .Eq) (rEqD K) := by
  subst hK
  exact op_eqD hu
theorem o_neD {X : Cx} {K : PySem.W.Frag} (hu : X.A.units + 64 < cLine) (hK : X.K = K := by rfl) : OpR X (compareOp .NotEq) (rNeD K) := by
  subst hK
  exact op_neD hu
end Bw
set_option Elab.async false
set_option linter.all false
set_option maxRecDepth 100000
set_option maxHeartbeats 4000000
/-! ### enumerate(t) of a tuple -/
namespace PySem
set_option maxHeartbeats 1000000 in
theorem meets_enumerate_newTu (l : Addr) (items : Array Value) (n : Nat) (dct : Option Addr) (sl : Array (Option Value)) :
    Meets (Builtin.«enumerate.__new__» ⟨[.type "enumerate", .ref l], []⟩) (fun _ R s => s.heap.get? l = some { cls := .type "tuple", dict := dct, data := .seq items n, slots := sl } ∧
      R (.ok (.ret (.ref (s.heap.push { cls := .type "tuple_iterator", data := .fields #[.ref l, .int 0 0] }).objs.size)))
        { s with heap := (s.heap.push { cls := .type "tuple_iterator", data := .fields #[.ref l, .int 0 0] }).push { cls := .type "enumerate", data := .fields #[.none, .bool false, .ref s.heap.objs.size, rawInt 0, .none, .none] } }) :=
  .of_wp fun prog w A R s h => by
    obtain ⟨hp, g, d, tk, os⟩ := s; obtain ⟨hl, h⟩ := h
    have hsub := sub_enumerate
    have hL : Heap.IsTuple (Shared.heap ⟨hp, g, d, tk, os⟩) l items := ⟨_, hl, rfl, n, rfl⟩
    wp_walk using wpAny_loadPart' hl
    refine wpAny_stack_any fun st => wpAny_pure ?_
    split
    · rename_i c _ _ _ _ _
      cases (c == Value.type "enumerate")
      · wp_walk using wpAny_loadPart' hl, wpAny_pyIter_tuple hL
        exact ⟨_, rfl, h⟩
      · wp_walk using wpAny_loadPart' hl, wpAny_pyIter_tuple hL
        exact ⟨_, rfl, h⟩
    · wp_walk using wpAny_loadPart' hl, wpAny_pyIter_tuple hL
      exact ⟨_, rfl, h⟩
theorem call_enumerate_tu {prog : Program} {w : World} {A : Around} {E : Value → Shared → Prop} {s : Shared} {l : Addr} {items : Array Value} {Q : Value → Shared → Prop} (hL : s.heap.IsTuple l items)
    (h : ∀ h', IsEnum h' (s.heap.objs.size + 1) s.heap.objs.size 0 .none → h'.IsTupleIter s.heap.objs.size l 0 → h'.objs.size = s.heap.objs.size + 2 →
      (∀ b o, s.heap.get? b = some o → h'.get? b = some o) → Q (.ref (s.heap.objs.size + 1)) { s with heap := h' }) :
    wpAny (model prog w) A (call (.type "enumerate") [.ref l]) Q E s := by
  obtain ⟨⟨c, dct, dt, sl⟩, hl, hc, n, hd⟩ := hL
  replace hc : c = .type "tuple" := hc
  replace hd : dt = .seq items n := hd
  subst hc hd
  refine callType_new F.called_enumerate (by decide) (F.typeCall_enumerate_1 _) (F.newCall_enumerate_1 _) (fun obj => F.args_object_init_2 obj _) F.entry_enumerate_new
    (meets_enumerate_newTu l items n dct sl) ⟨hl, ?_⟩
  have hz : (s.heap.push { cls := .type "tuple_iterator", data := .fields #[.ref l, .int 0 0] }).objs.size = s.heap.objs.size + 1 := Heap.size_push ..
  show _ ∧ _
  rw [hz]
  have he : IsEnum ((s.heap.push { cls := .type "tuple_iterator", data := .fields #[.ref l, .int 0 0] }).push
      { cls := .type "enumerate", data := .fields #[.none, .bool false, .ref s.heap.objs.size, rawInt 0, .none, .none] }) (s.heap.objs.size + 1) s.heap.objs.size 0 .none := by
    have := Heap.get?_push_size (s.heap.push { cls := .type "tuple_iterator", data := .fields #[.ref l, .int 0 0] })
      (o := { cls := .type "enumerate", data := .fields #[.none, .bool false, .ref s.heap.objs.size, rawInt 0, .none, .none] }) rfl
    rw [hz] at this; exact this
  refine ⟨⟨_, he, rfl⟩, h _ he ⟨_, Heap.get?_push_of_some _ (Heap.get?_push_size _ rfl), rfl, rfl⟩ (by rw [Heap.size_push, hz]) fun b o x => Heap.get?_push_of_some _ (Heap.get?_push_of_some _ x)⟩
end PySem
namespace Bw
open PySem PySem.Spec PyProof.Rows L2
def IteT (K : PySem.W.Frag) (a : Addr) : It :=
  ⟨fun i H => ∃ (xs : List V) (x : V), SqT K H a xs ∧ xs[i]? = some x, fun i H v H' => ∃ T x, v = .ref T ∧ H T = none ∧ H' = upd H T (.tup [.int (i : Nat), x]) ∧ ∀ xs, SqT K H a xs → xs[i]? = some x, fun i H => ∃ xs : List V, SqT K H a xs ∧ xs.length ≤ i⟩
theorem turn_enumT {P : Program} {w : World} {K : PySem.W.Frag} {elts : List Expr} {kk : Nat} {tpos : Pos} (a e it : Addr) (hait : a ≠ it) (hea : e ≠ a) :
    Turn P w K (.Tuple elts kk tpos) (IteT K a) [e, it] e (fun i h => (∃ old, IsEnum h e it ((i : Nat) : Int) old) ∧ h.IsTupleIter it a i ∧ e ≠ it) where
  mem := by simp
  obj := fun i h st b hb => by
    obtain ⟨⟨old, he⟩, ⟨o, ho, hc, hd⟩, _⟩ := st
    have e' : b = e ∨ b = it := by simpa using hb
    rcases e' with z | z
    · rw [z]; exact ⟨_, he, fun v q => nomatch q⟩
    · rw [z]; exact ⟨o, ho, fun v q => by rw [hd] at q; cases q⟩
  keep := fun i h h' st k => let ⟨⟨old, he⟩, hi, hne⟩ := st; ⟨⟨old, k e (by simp) _ he⟩, hi.at fun o q => k it (by simp) o q, hne⟩
  item := by
    intro X hP hw hK hc i pins s σ H E I hf st hg
    subst hP hw hK
    obtain ⟨⟨old, he⟩, hit, hne⟩ := st
    obtain ⟨xs, x, hq, hx⟩ := hg
    obtain ⟨its, rv, p, hz⟩ := I.tuple hq
    obtain ⟨u, hu, ru⟩ := rv.get hx
    have hel : e < s.heap.objs.size := Heap.lt_size he
    have hil : it < s.heap.objs.size := by obtain ⟨_, q, _⟩ := hit; exact Heap.lt_size q
    have hiu : its.toArray[i]? = some u := by simpa using hu
    have hlt : i < its.toArray.size := (Array.getElem?_eq_some_iff.mp hiu).1
    refine wpAny_pyNext_enum_itemD (Draws.tuple (A := X.A.in1) (I.ok.hd hc) it a hait its.toArray) he ⟨hit, p⟩ hlt hne (by simp [hne, hea]) fun u' h' tk hP ho st' hT hsz hk => ?_
    have eu : u' = u := Option.some.inj (hP.symm.trans hiu)
    subst eu
    obtain ⟨hit', _⟩ := st'
    refine ⟨_, rfl, wpAny_letOwnedTupleGo_enum (s := { s with heap := h', toks := tk + 1 }) ho fun h'' he' sb => ?_⟩
    have hT2 : h''.get? s.heap.objs.size = some { cls := .type "tuple", data := .seq #[.int i tk, u'] } := (sb.2 _ (Nat.ne_of_gt hel)).trans hT
    have new : ObjOk X.prog X.w (upd H s.heap.objs.size (.tup [.int (i : Nat), x])) h'' s.heap.objs.size (.tup [.int (i : Nat), x]) :=
      ⟨by show 2 ≤ sizeLine; decide, [.int i tk, u'], .cons ⟨_, rfl⟩ (.cons ru .nil), ⟨_, hT2, rfl, _, rfl⟩⟩
    have I1 : L2.Inv X pins σ (upd H s.heap.objs.size (.tup [.int (i : Nat), x])) { s with heap := h'', toks := tk + 1 } :=
      I.turnedNew (ch := [e, it]) (fun b ob hb q => (sb.2 b (fun z => hb (by simp [z]))).trans (hk b ob (fun z => hb (by simp [z])) (fun z => hb (by simp [z])) q)) hf (Nat.le_refl _) new
    refine ⟨.ref s.heap.objs.size, _, I1, rfl, ⟨_, x, rfl, I.hok.fresh (Nat.le_refl _), rfl, fun ys hy => by rw [I.tuple_inj hy hq]; exact hx⟩, ⟨⟨u', ?_⟩, hit'.at fun o q => (sb.2 it (Ne.symm hne)).trans q, hne⟩, fun b hb => ?_⟩
    · have e1 : ((i + 1 : Nat) : Int) = (i : Int) + 1 := by omega
      rw [e1]; exact he'
    · have hb' : b < s.heap.objs.size := by
        have e' : b = e ∨ b = it := by simpa using hb
        rcases e' with z | z
        · rw [z]; exact hel
        · rw [z]; exact hil
      rw [upd_ne (Nat.ne_of_lt hb')]
      exact (hf b hb).1
  done := by
    intro X hP hw hK hc i pins s σ H E I hf st hg
    subst hP hw hK
    obtain ⟨⟨old, he⟩, hit, hne⟩ := st
    obtain ⟨xs, hq, hx⟩ := hg
    obtain ⟨its, rv, p, hz⟩ := I.tuple hq
    obtain ⟨f0, f1, f2, f3, f4, f5⟩ := hf it (by simp)
    have hl := rv.length
    have hT : s.TypeIs (.ref e) "enumerate" := ⟨_, he, rfl⟩
    unfold pyNext
    refine wpAny_bind (wpAny_attempt (wpAny_callSpecial?_slot (name := Str.ofString "__next__") hT F.slot_enumerate_next
      (wpAny_call_entry F.slot_enumerate_next hT F.entry_enumerate_next ?_ (F.args_enumerate_next_1 _))))
    show wpAny _ _ (field (.ref e) 2 >>= _) _ _ _
    refine wpAny_bind (wpAny_field he rfl (x := .ref it) rfl ?_)
    refine wpAny_bind (wpAny_nextOf_tuple_end (A := X.A.in1) (I.ok.hd hc) hit p (by simp; omega) fun h' x he' hx' => ?_)
    obtain ⟨o, ho, hc'⟩ := hx'
    refine wpAny_bind (wpAny_isInstance (T := "StopIteration") (b := true) ⟨o, ho, hc'⟩ isSubtype_stop ?_)
    exact wpAny_pure ⟨rfl, I.turned (t' := s.toks) (fun b o hb q => he' b o hb q) f0 f1 f3 f4 f5⟩
  self := fun A i s Q E st h => let ⟨⟨_, he⟩, _⟩ := st; wpAny_pyIter_enum he h
def iEnumT (K : PySem.W.Frag) (ta : TA) : TI := fun σ H R => ta σ H fun vs H1 => ∃ a xs, vs = [.ref a] ∧ SqT K H1 a xs ∧ R (IteT K a) H1
theorem p_enumT {X : Cx} {K : PySem.W.Frag} {e : Expr} {ta : TA} {p pos tpos : Pos} {elts : List Expr} {kk : Nat} (hg : Gl X "enumerate") (hm : X.mg "enumerate" = none) (ha : PA X [e] ta) (hK : X.K = K := by rfl) (hs : starEach [e] X.env = [(false, eval e X.env)] := by rfl) :
    PI X (.Tuple elts kk tpos) (.Call (.Name "enumerate" p) [e] [] pos) (iEnumT K ta) := by
  subst hK
  refine ⟨fun pins s σ H R I h => ?_⟩
  refine Call_ (ld_blt I hg hm boot_enumerate (PyProof.Rows.callWith_type1 (thn (ha.run pos pins s σ H _ I h) fun us s1 ⟨vs, H1, I1, r1, q1⟩ => ?_) hs rfl))
  obtain ⟨a, xs, ex, hq, q⟩ := q1
  subst ex
  cases r1 with
  | cons r rr =>
    cases rr
    cases r
    obtain ⟨its, rv, p', hz⟩ := I1.tuple hq
    have hal : a < s1.heap.objs.size := by obtain ⟨_, e, _⟩ := p'; exact Heap.lt_size e
    refine call_enumerate_tu p' fun h' he hit hsz hk => wpAny_pyIter_enum he ?_
    have I2 : L2.Inv X pins σ H1 { s1 with heap := h' } := I1.kept (t' := s1.toks) hk
    refine ⟨s1.heap.objs.size + 1, [s1.heap.objs.size + 1, s1.heap.objs.size], _, _, H1, rfl, I2, turn_enumT a (s1.heap.objs.size + 1) s1.heap.objs.size (Nat.ne_of_lt hal) (Nat.ne_of_gt (Nat.lt_succ_of_lt hal)), ⟨⟨.none, he⟩, hit, Nat.succ_ne_self _⟩, fun b hb => ?_, q⟩
    have e' : b = s1.heap.objs.size + 1 ∨ b = s1.heap.objs.size := by simpa using hb
    have hle : s1.heap.objs.size ≤ b := by
      rcases e' with z | z
      · rw [z]; exact Nat.le_add_right _ _
      · rw [z]; exact Nat.le_refl _
    exact I1.fpOk hle (I1.hok.fresh hle)
theorem walk_enumT {K : PySem.W.Frag} {a : Addr} {xs : List V} : Walk (IteT K a) xs.length (fun H => SqT K H a xs) (YPair (fun i => some (.int (i : Nat))) (fun i => xs[i]?)) := by
  refine ⟨fun i _ hi q => ⟨xs, xs[i], q, by simp [hi]⟩, fun _ q => ⟨xs, q, Nat.le_refl _⟩, fun i H v H' _ q y => ?_⟩
  obtain ⟨T, x, h1, h2, h3, h4⟩ := y
  exact ⟨T, .int (i : Nat), x, h1, h2, h3, rfl, h4 xs q⟩
end Bw
set_option Elab.async false
set_option linter.all false
set_option maxRecDepth 100000
set_option maxHeartbeats 4000000
/-! ### own errors right over a built-in error other than ValueError -/
namespace Bw
open PySem PySem.Spec PyProof.Rows L2
section
open PySem.W PySem.Calls PySem.HandSPX Builtin Builtin.ObjectAttr
variable {prog : Program} {w : World} {A : Around} {R : Result → Shared → Prop} {hp : Heap} {g : Array GenState} {d : Drawn} {t : Nat} {os : OsState}
theorem osaB {K : W.Frag} {B : String} {tl : List Value} {name : Str} {tk : Tok} {v : Value} {x C : Addr} {ox : Obj} {od : Option Obj} {cd : ClassData} (SB : StoreFacts B tl "object.__setattr__" "object") (ob : tl.contains (.type "object") = true)
    (X : K.In hp) (I : W.InstAt hp x ox C od) (hcd : W.clsIn K C = some cd) (hm : cd.mro = .ref C :: tl) (ha : W.findIn K (.ref C) name = some none)
    (hq : wpAny (model prog w) A.in1 (storeInOwnDict (.ref x) (.ref C) (.str name tk) name v false) (fun fin s' => match fin with | .done f => R (.ok f) s' | .again c' => c'.quiet = true ∧ codeAny (model prog w) A c' R s') (fun e s' => R (.error e) s') ⟨hp, g, d, t, os⟩) : codeAny (model prog w) A (.call (.builtin "object.__setattr__") ⟨[.ref x, .str name tk, v], []⟩) R ⟨hp, g, d, t, os⟩ := by
  have has : (Value.ref C :: tl).contains (.type "object") = true := by rw [List.contains_cons, ob, Bool.or_true]
  have mi : W.mroIn K C (.type "object") = some true := by unfold W.mroIn; rw [hcd, Option.bind_some, hm, if_neg (show ¬ (List.isEmpty (Value.ref C :: tl) = true) from Bool.false_ne_true), has]
  refine codeAny_call_builtin PySem.F.store_object.slot.plain PySem.F.store_object.entry (@W.check_slot (model prog w) _ _ ⟨hp, g, d, t, os⟩ "object.__setattr__" "object" "__setattr__" (.ref x) [.str name tk, v] [] _ PySem.F.store_object.kind PySem.F.store_object.split (I.type.andThen (W.looks_mroIn X mi)) (PySem.F.store_object.args (.ref x) (.str name tk) v) ?_)
  have mr : W.Looks (model prog w) hp (mroOf (.ref C)) cd.mro := (W.looks_clsIn X hcd).andThen .now
  have noT : W.Looks (model prog w) hp (storeTaker? none) none := .now
  rw [W.osa_eq, refuse_eq]; refine wpAny_bind (wpAny_bind (I.type.at (wpAny_bind (mr.at ?_)))); rw [hm, refuseLoop_ref, SB.passes]
  exact wpAny_pure (wpAny_bind (I.type.at (wpAny_bind ((W.looks_findIn X ha).at (wpAny_bind (noT.at hq))))))
theorem osaB_new {K : W.Frag} {B : String} {tl : List Value} {name : Str} {tk : Tok} {v : Value} {x C : Addr} {fv : Array Value} {cd : ClassData} (SB : StoreFacts B tl "object.__setattr__" "object") (ob : tl.contains (.type "object") = true) (X : K.In hp) (hx : hp.get? x = some { cls := .ref C, data := .fields fv }) (hcd : W.clsIn K C = some cd) (hm : cd.mro = .ref C :: tl) (hh : cd.hasDict = true) (ha : W.findIn K (.ref C) name = some none)
    (hq : ∀ h' tk' dx, (∀ b o, b ≠ x → hp.get? b = some o → h'.get? b = some o) → hp.objs.size ≤ dx → dx ≠ x → h'.get? x = some { cls := .ref C, dict := some dx, data := .fields fv } → h'.Ns1 dx (fun y => if y = name then some v else none) → R (.ok (.ret .none)) ⟨h', g, d, tk', os⟩) : codeAny (model prog w) A (.call (.builtin "object.__setattr__") ⟨[.ref x, .str name tk, v], []⟩) R ⟨hp, g, d, t, os⟩ := by
  have xs : x ≠ hp.objs.size := Nat.ne_of_lt (Heap.lt_size hx)
  refine osaB SB ob X (ox := { cls := .ref C, data := .fields fv }) (od := none) ⟨hx, rfl, rfl, trivial⟩ hcd hm ha ?_
  have kl : W.Looks (model prog w) hp (classData C) cd := W.looks_clsIn X hcd
  obtain ⟨_, _, _, _, _, hd, _, _, _, _, _⟩ := cd; dsimp only at hh; subst hh; unfold storeInOwnDict ownDictForStores
  repeat (first | with_reducible refine HandSPX.store_in_new ?_ ?_ | with_reducible refine wpAny_loadPart_at hx ?_ | with_reducible refine kl.at ?_ | wp_step)
  · exact ⟨_, #[], _, (Heap.get?_update_ne _ _ _ _ xs.symm).trans (Heap.get?_push_at rfl rfl), rfl, fun e he => absurd he (by simp), fun _ => rfl⟩
  · intro h' tk' hn' hs
    have hx1 : (hp.push { cls := .type "dict", data := .dict #[] }).get? x = some { cls := .ref C, data := .fields fv } := Heap.get?_push_of_some _ hx
    exact hq h' tk' hp.objs.size (fun b o hb ho => (hs.2 b (Nat.ne_of_lt (Heap.lt_size ho))).trans ((Heap.get?_update_ne _ _ _ _ hb).trans (Heap.get?_push_of_some _ ho))) (Nat.le_refl _) xs.symm ((hs.2 x xs).trans (Heap.get?_update_self _ hx1 rfl)) hn'
theorem osaB_old {K : W.Frag} {B : String} {tl : List Value} {name : Str} {tk : Tok} {v : Value} {x C dx : Addr} {fv : Array Value} {cd : ClassData} {m0 : Str → Option Value} {nl : List Str} (SB : StoreFacts B tl "object.__setattr__" "object") (ob : tl.contains (.type "object") = true)
    (X : K.In hp) (hx : hp.get? x = some { cls := .ref C, dict := some dx, data := .fields fv }) (hns : hp.Ns1 dx m0) (hw : Within m0 nl) (hz : nl.length ≤ 1000) (hcd : W.clsIn K C = some cd) (hm : cd.mro = .ref C :: tl) (hh : cd.hasDict = true) (ha : W.findIn K (.ref C) name = some none)
    (hq : ∀ h' tk', (∀ b o, b ≠ dx → hp.get? b = some o → h'.get? b = some o) → h'.Ns1 dx (fun y => if y = name then some v else m0 y) → R (.ok (.ret .none)) ⟨h', g, d, tk', os⟩) : codeAny (model prog w) A (.call (.builtin "object.__setattr__") ⟨[.ref x, .str name tk, v], []⟩) R ⟨hp, g, d, t, os⟩ := by
  obtain ⟨oD, _, _, hoD, _, _⟩ := hns.count hw
  refine osaB SB ob X (ox := { cls := .ref C, dict := some dx, data := .fields fv }) (od := some oD) ⟨hx, rfl, rfl, hoD⟩ hcd hm ha ?_
  have kl : W.Looks (model prog w) hp (classData C) cd := W.looks_clsIn X hcd
  obtain ⟨_, _, _, _, _, hd, _, _, _, _, _⟩ := cd; dsimp only at hh; subst hh; unfold storeInOwnDict ownDictForStores
  repeat (first | with_reducible refine PySem.OEX.store_in_old hns hw hz ?_ | with_reducible refine wpAny_loadPart_at hx ?_ | with_reducible refine kl.at ?_ | wp_step)
  exact fun h' tk' hn' hs => hq h' tk' (fun b o hb ho => (hs.2 b hb).trans ho) hn'
end
/-- what the written part says of such a class -/
structure OexB (K : PySem.W.Frag) (C : Addr) (B nw ini : String) (tl : List Value) : Prop where
  cls : ∃ nm q N bs sn sub ab col dd k0 k1 k2 k3 k5, K.lookup C = some (excClassObj nm q C N bs tl true sn sub ab col dd k0 k1 k2 k3 k5 nw)
  fb : ExcBaseFacts B nw ini tl
  st : PySem.StoreFacts B tl "object.__setattr__" "object"
  ob : tl.contains (.type "object") = true
  sa : PySem.W.findIn K (.ref C) "__setattr__" = some (some (.builtin "object.__setattr__"))
  exC : PySem.W.subIn K (.ref C) (.type "BaseException") = some true
  tyC : PySem.W.typeIn K (.ref C) = some (.type "type")
  kC : PySem.W.keepIn K (.ref C) = true
section
variable {X : Cx} {pins : List (Addr × Obj)} {σ : L2.St} {H : Hp} {s : Shared} {a C dx : Addr} {f : Str} {y : V} {u : Value} {fs : List (Str × V)} {Q : Unit → Shared → Prop} {E : Value → Shared → Prop} {A : Around} {B nw ini : String} {tl : List Value}
theorem ostB_new (T : OexB X.K C B nw ini tl) (I : L2.Inv X pins σ H s) (e : H a = some (exo a C none)) (hno : PySem.W.findIn X.K (.ref C) f = some none) (ry : RelV y u) (h : ∀ dx s', H dx = none → dx ≠ a → L2.Inv X pins σ (upd (upd H dx (exd dx [(f, y)])) a (exo a C (some dx))) s' → Q () s') : wpAny (model X.prog X.w) A (setAttr (.ref a) f u) Q E s := by
  obtain ⟨nm, q, N, bs, sn, sub, ab, col, dd, k0, k1, k2, k3, k5, hC⟩ := T.cls
  have hcl : PySem.W.clsIn X.K C = some { name := nm, bases := bs, mro := .ref C :: tl, ns := N, qualname := q, hasDict := true, slotNames := sn, subclasses := sub, abstract := ab, collection := col, hasDel := false } := by unfold PySem.W.clsIn; rw [hC] <;> rfl
  obtain ⟨t1, ho⟩ := exo_at I.hok e; obtain ⟨hp, g, d, t, os⟩ := s
  refine PySem.W.set_plain I.kIn (ox := { cls := .ref C, dict := none, data := .fields #[.ref t1, .none, .none, .none, .bool false, .none] }) (od := none) ⟨ho, rfl, rfl, trivial⟩ T.sa (osaB_new T.st T.ob I.kIn ho hcl rfl rfl hno fun h' tk' dx k dn dne hx hn => ?_)
  have n0 : H dx = none := I.hok.fresh dn
  have nd : ∀ {b : Addr} {o : Obj}, hp.get? b = some o → b ≠ dx := fun {b o} q => Nat.ne_of_lt (Nat.lt_of_lt_of_le (Heap.lt_size q) dn)
  have na : ∀ {b : Addr}, H b = none → b ≠ a := fun {b} n z => by rw [z, e] at n; cases n
  have U : Un X.fs [] H (upd (upd H dx (exd dx [(f, y)])) a (exo a C (some dx))) hp h' := ⟨fun b o q n _ _ => k b o (na n) q, fun b o q n _ _ => ⟨o.slots, k b o (na n) q⟩, fun b o q n _ => by rw [upd_ne (na n), upd_ne (nd q)]; exact n,
    fun b o q _ => (Classical.em (b = a)).elim (fun hb => ⟨_, hb ▸ hx⟩) (fun hb => ⟨o, k b o hb q⟩), fun b xs q => by rw [upd_ne (at_ne e q exo_tup), upd_ne (ne_of_none q n0)]; exact q, fun b o v q => by rw [upd_ne (at_ne e q exo_frz), upd_ne (ne_of_none q n0)]; exact q, fun b ps q => ⟨#[], by rw [upd_ne (at_ne e q exo_tbl), upd_ne (ne_of_none q n0), q]; simp⟩⟩
  refine h dx _ n0 dne (I.un (t' := tk') U fun b o q => ?_)
  by_cases hb : b = a
  · subst hb; rw [upd_same] at q; cases q; exact exo_ok hx
  · rw [upd_ne hb] at q
    by_cases hd : b = dx
    · subst hd; rw [upd_same] at q; cases q; exact exd_ok hn (relO_put (fs := []) ry fun g => True.intro)
    · rw [upd_ne hd] at q
      exact (I.hok b o q).stay (fun c v hc z => k c v (hc.elim (fun hc => hc ▸ hb) (fun hc => at_ne e hc exo_own)) z) (fun c hc => by rw [upd_ne (at_ne e hc exo_own), upd_ne (ne_of_none hc n0)]; exact hc) (fun c xs hc => by rw [upd_ne (at_ne e hc exo_tup), upd_ne (ne_of_none hc n0)]; exact hc)
theorem ostB_old (T : OexB X.K C B nw ini tl) (I : L2.Inv X pins σ H s) (e : H a = some (exo a C (some dx))) (ed : H dx = some (exd dx fs)) (hl : fs.length ≤ 900) (hno : PySem.W.findIn X.K (.ref C) f = some none) (ry : RelV y u) (h : ∀ s', L2.Inv X pins σ (upd H dx (exd dx ((f, y) :: fs))) s' → Q () s') : wpAny (model X.prog X.w) A (setAttr (.ref a) f u) Q E s := by
  obtain ⟨nm, q, N, bs, sn, sub, ab, col, dd, k0, k1, k2, k3, k5, hC⟩ := T.cls
  have hcl : PySem.W.clsIn X.K C = some { name := nm, bases := bs, mro := .ref C :: tl, ns := N, qualname := q, hasDict := true, slotNames := sn, subclasses := sub, abstract := ab, collection := col, hasDel := false } := by unfold PySem.W.clsIn; rw [hC] <;> rfl
  obtain ⟨t1, ho⟩ := exo_at I.hok e; obtain ⟨mA, hns, rel⟩ := exd_at I.hok ed; have hw := within_of rel; obtain ⟨hp, g, d, t, os⟩ := s; obtain ⟨oD, _, _, hoD, _, _⟩ := hns.count hw
  refine PySem.W.set_plain I.kIn (ox := { cls := .ref C, dict := some dx, data := .fields #[.ref t1, .none, .none, .none, .bool false, .none] }) (od := some oD) ⟨ho, rfl, rfl, hoD⟩ T.sa (osaB_old T.st T.ob I.kIn ho hns hw (by rw [List.length_map]; omega) hcl rfl rfl hno fun h' tk' k hn => ?_)
  exact h _ (I.write (t' := tk') (x := dx) (e := dx) (o := exd dx ((f, y) :: fs)) (by rw [ed]; exact True.intro) (.inl rfl) k (by obtain ⟨o, _, _, e', _⟩ := hn; exact ⟨o, e'⟩) (exd_ok hn (relO_put ry rel)))
theorem oinitB {us : List Value} {Q : Value → Shared → Prop} (T : OexB X.K C B nw ini tl) (I : L2.Inv X pins σ H s) (e : H a = some (exo a C none)) (hl : us.length ≤ sizeLine) (h : ∀ s', L2.Inv X pins σ H s' → Q .none s') : wpAny (model X.prog X.w) A (call (.builtin ini) (.ref a :: us)) Q E s := by
  obtain ⟨nm, q, N, bs, sn, sub, ab, col, dd, k0, k1, k2, k3, k5, hC⟩ := T.cls
  obtain ⟨t1, ho⟩ := exo_at I.hok e; obtain ⟨hp, g, d, t, os⟩ := s
  refine wpAny_call (PySem.HandSPX.init_base T.fb (fun _ => rfl) (I.kIn _ _ hC) ho hl fun h' t2 k hx => ?_)
  have J := I.write (t' := t) (x := a) (e := a) (o := exo a C none) (by rw [e]; exact True.intro) (.inl rfl) k ⟨_, hx⟩ (exo_ok hx)
  have eu : upd H a (exo a C none) = H := funext fun b => if hb : b = a then by rw [hb, upd_same, e] else by rw [upd_ne hb]
  rw [eu] at J; exact h _ J
end
def tBeI (K : PySem.W.Frag) (B nw ini : String) (tl : List Value) (ta : TA) : TE := fun σ H Q => ta σ H fun vs H1 => ∃ (a C : Addr) (ws : List V), vs = .ref a :: ws ∧ ws.length ≤ 1000 ∧ OexB K C B nw ini tl ∧ H1 a = some (exo a C none) ∧ Q .non H1
def tOsB (K : PySem.W.Frag) (B nw ini : String) (tl : List Value) (f : Str) (to te : TE) : TS := fun D σ H => te σ H fun y H1 => to σ H1 fun x H2 => ∃ a C : Addr, x = .ref a ∧ OexB K C B nw ini tl ∧ PySem.W.findIn K (.ref C) f = some none ∧
  ((H2 a = some (exo a C none) ∧ ∀ dx, H2 dx = none → dx ≠ a → D.nx σ (upd (upd H2 dx (exd dx [(f, y)])) a (exo a C (some dx)))) ∨ ∃ (dx : Addr) (fs : List (Str × V)), H2 a = some (exo a C (some dx)) ∧ H2 dx = some (exd dx fs) ∧ fs.length ≤ 900 ∧ D.nx σ (upd H2 dx (exd dx ((f, y) :: fs))))
section
variable {X : Cx} {o e : Expr} {es : List Expr} {to te : TE} {ta : TA} {f : Str} {p p' p1 p2 pos : Pos} {B nw ini : String} {tl : List Value}
theorem pe_beinit {x : Str} {pl : Sem Bool} (hg : Gl X x) (hm : X.mg x = none) (hB : bootBuiltins x = some (.type B)) (ht : typeOf (.type B) = pure (.type "type")) (hs : Manifest.isStub B = false) (vV : PySem.W.findCls X.K (.type B) (.type "type") "__init__" = some (.val (.builtin ini))) (hh : PySem.W.handedIn (.builtin ini) = true) (ha : PA X (e :: es) ta) (hnn : x ≠ "__name__" := by decide) (hdb : (x == ("__debug__" : Str)) = false := by decide)
    (hc : eval (.Call (.Attribute (.Name x p1) "__init__" p2) (e :: es) [] pos) X.env = (do let ov ← eval (.Name x p1) X.env; standAt p2.atName; let (f, first) ← holding [ov] (getMethod ov "__init__" pl); callWith pos f first (backTo pos (starEach (e :: es) X.env)) (backToKw pos (keywordEach [] X.env))) := by rfl)
    (he : starEach (e :: es) X.env = (false, eval e X.env) :: starEach es X.env := by rfl) (hpl : (backTo pos (starEach es X.env)).any (·.1) = false := by rfl) : PE X (.Call (.Attribute (.Name x p1) "__init__" p2) (e :: es) [] pos) (tBeI X.K B nw ini tl ta) := by
  refine ⟨fun pins s σ H Q I h => PySem.W.methodCall_KW (ld_blt I hg hm hB ?_ hnn hdb) hc⟩
  obtain ⟨m, fr⟩ := I.fr
  refine PySem.W.method_type fr I.ok.mod.kin ht hs vV hh ?_
  show wpAny _ _ (callWith pos (Value.builtin ini) [] (backTo pos (starEach (e :: es) X.env)) []) _ _ _
  refine PyProof.Rows.callWith_method1 (thn (ha.run pos pins _ σ H _ (I.tok _) h) fun us s1 ⟨vs, H1, I1, r1, a, C, ws, ev, hl, T, ea, q⟩ => ?_) he hpl
  subst ev
  cases r1 with
  | @cons _ u0 _ ur ra rw' =>
    have eu : u0 = Value.ref a := ra
    subst eu
    exact oinitB T I1 ea (by rw [← Paired.length rw', sizeLine_eq]; omega) fun s' J => ⟨.non, H1, J, rfl, q⟩
theorem ps_osB (ho : PE X o to) (he : PE X e te) (hs : swapsWith e (some (.Attribute o f p')) pos.line X.env = pure false := by rfl) : PS X (.Assign [.Attribute o f p'] e pos) (tOsB X.K B nw ini tl f to te) := by
  refine ⟨fun pins s σ H D I h => plainObj_wpAny_Assign_Attribute (thn (he.run pins s σ H _ I h) fun v s1 ⟨y, H1, I1, r1, q1⟩ => thn (ho.run pins s1 σ H1 _ I1 q1) fun u s2 ⟨x, H2, I2, r2, a, C, ex, T, hno, q⟩ => ?_) hs⟩
  subst ex
  have eu : u = Value.ref a := r2
  subst eu
  rcases q with ⟨ea, q⟩ | ⟨dx, fs, ea, ed, hl, q⟩
  · exact ostB_new T I2 ea hno r1 fun dx s' n ne J => ⟨σ, _, J, q dx n ne⟩
  · exact ostB_old T I2 ea ed hl hno r1 fun s' J => ⟨σ, _, J, q⟩
/-- C(e, ..), C's own __init__ keeping sp -/
theorem pmkB {CX : CXT} {x : Str} {C fI : Addr} {k : Nat} {fd : FuncData} {ps : List Str} {sp : Sp} (T : OexB X.K C B nw ini tl) (iC : PySem.W.findIn X.K (.ref C) "__init__" = some (some (.ref fI))) (tI : PySem.W.typeIn X.K (.ref fI) = some (.type "function")) (F1 : FnOk X.prog X.w X.K X.mg X.base CX k fI fd ps sp) (hr : Room (k + 1) X.A) (hb : Binds X.K fd ps []) (hx : Passes CX X (fun _ _ _ => False)) (hg : Gl X x) (hm : X.mg x = some (.ref C)) (ha : PA X (e :: es) ta)
    (hdb : (x == ("__debug__" : Str)) = false := by decide) (he : starEach (e :: es) X.env = (false, eval e X.env) :: starEach es X.env := by rfl) (hpl : (backTo pos (starEach es X.env)).any (·.1) = false := by rfl) : PMk X (.Call (.Name x p) (e :: es) [] pos) (tMkO C sp [] ta) := by
  intro pins s σ H Q I h
  obtain ⟨nm, q, N, bs, sn, sub, ab, col, dd, k0, k1, k2, k3, k5, hC⟩ := T.cls
  refine wpAny_Call_Name_kw (ld_glob I hg hm (PySem.W.callWith_K (h₀ := X.base) I.ok.mod.kin T.kC (thn (ha.run pos pins s σ H _ I h) fun us s1 ⟨vs, H1, I1, r1, hz, q1⟩ => ⟨I1.kIn, ?_⟩) he hpl) hdb)
  show wpAny _ _ (call (.ref C) us) _ _ _
  obtain ⟨hp, g, dr, tk, os⟩ := s1
  have z : hp.objs.size ≤ hp.objs.size + 1 := Nat.le_succ _
  have hq := q1 (hp.objs.size + 1) (I1.hok.fresh z)
  have kk : ∀ b o, hp.get? b = some o → ((hp.push (PySem.W.kdv_tup us)).push (PySem.HandSPX.excO C hp.objs.size)).get? b = some o := fun b o e1 => Heap.get?_push_of_some _ (Heap.get?_push_of_some _ e1)
  have I2 : L2.Inv X pins σ (upd H1 (hp.objs.size + 1) (exo (hp.objs.size + 1) C none)) ⟨(hp.push (PySem.W.kdv_tup us)).push (PySem.HandSPX.excO C hp.objs.size), g, dr, tk, os⟩ := I1.laid (t' := tk) (a := hp.objs.size + 1) (o := exo (hp.objs.size + 1) C none) (h' := (hp.push (PySem.W.kdv_tup us)).push (PySem.HandSPX.excO C hp.objs.size)) kk z (exo_ok (by heap_get))
  have r2 : Vals (V.ref (hp.objs.size + 1) :: (vs ++ [])) (Value.ref (hp.objs.size + 1) :: (us ++ [])) := .cons rfl (r1.append .nil)
  have hl : (Value.ref (hp.objs.size + 1) :: us ++ []).length = ps.length := by have e1 := r2.length; rw [F1.len _ _ _ _ hq] at e1; exact e1.symm
  have bt := hb _ (Value.ref (hp.objs.size + 1) :: us) I2.kIn hl
  rw [List.cons_append] at bt
  refine wpAny_call (PySem.HandSPX.call_own T.fb (fun _ => rfl) (I1.kIn _ _ hC) (PySem.W.looks_findIn I1.kIn iC) (fun self => PySem.W.bind_fn I1.kIn self tI) (by rw [← Paired.length r1, sizeLine_eq]; omega) (codeAny_mono (F1.run _ X.stack _ _ ⟨Value.ref (hp.objs.size + 1) :: us, []⟩ (Value.ref (hp.objs.size + 1) :: (us ++ [])) _ _ (fun _ _ _ => False) (hr.make C us []) (I2.env0.make C us []) bt r2 hq) fun r s' hq' => ?_))
  cases r with
  | error er => exact hx pins σ _ _ er s' I2 hq'
  | ok fl =>
    cases fl with
    | ret u => obtain ⟨v, H2, os2, bare2, un2, hok2, rv, ev, d, fs, ea, ed, hd1, q2⟩ := hq'; subst ev; obtain ⟨h2, g2, d2, t2, os'⟩ := s'; exact ⟨rv, mk_end (raises_own T.exC T.tyC) I1 z kk un2 hok2 os2 bare2 ea ed hd1 q2⟩
    | next => exact hq'.elim
    | brk => exact hq'.elim
    | cont => exact hq'.elim
/-- C() -/
theorem pmkB0 {CX : CXT} {x : Str} {C fI : Addr} {k : Nat} {fd : FuncData} {ps : List Str} {sp : Sp} (T : OexB X.K C B nw ini tl) (iC : PySem.W.findIn X.K (.ref C) "__init__" = some (some (.ref fI))) (tI : PySem.W.typeIn X.K (.ref fI) = some (.type "function")) (F1 : FnOk X.prog X.w X.K X.mg X.base CX k fI fd ps sp) (hr : Room (k + 1) X.A) (hb : Binds X.K fd ps []) (hx : Passes CX X (fun _ _ _ => False)) (hg : Gl X x) (hm : X.mg x = some (.ref C)) (hdb : (x == ("__debug__" : Str)) = false := by decide) : PMk X (.Call (.Name x p) [] [] pos) (tMkO C sp [] tNil) := by
  intro pins s1 σ H1 Q I1 h
  obtain ⟨hz, q1⟩ := h
  obtain ⟨nm, q, N, bs, sn, sub, ab, col, dd, k0, k1, k2, k3, k5, hC⟩ := T.cls
  refine wpAny_Call_Name_kw (ld_glob I1 hg hm (PySem.W.callWith_K0 I1.kIn T.kC ?_) hdb)
  show wpAny _ _ (call (.ref C) []) _ _ _
  obtain ⟨hp, g, dr, tk, os⟩ := s1
  have z : hp.objs.size ≤ hp.objs.size + 1 := Nat.le_succ _
  have hq := q1 (hp.objs.size + 1) (I1.hok.fresh z)
  have rv0 : Vals [V.ref (hp.objs.size + 1)] [Value.ref (hp.objs.size + 1)] := .cons rfl .nil
  have kk : ∀ b o, hp.get? b = some o → ((hp.push (PySem.W.kdv_tup [])).push (PySem.HandSPX.excO C hp.objs.size)).get? b = some o := fun b o e1 => Heap.get?_push_of_some _ (Heap.get?_push_of_some _ e1)
  have I2 : L2.Inv X pins σ (upd H1 (hp.objs.size + 1) (exo (hp.objs.size + 1) C none)) ⟨(hp.push (PySem.W.kdv_tup [])).push (PySem.HandSPX.excO C hp.objs.size), g, dr, tk, os⟩ := I1.laid (t' := tk) (a := hp.objs.size + 1) (o := exo (hp.objs.size + 1) C none) (h' := (hp.push (PySem.W.kdv_tup [])).push (PySem.HandSPX.excO C hp.objs.size)) kk z (exo_ok (by heap_get))
  refine wpAny_call (PySem.HandSPX.call_own T.fb (fun _ => rfl) (I1.kIn _ _ hC) (PySem.W.looks_findIn I1.kIn iC) (fun self => PySem.W.bind_fn I1.kIn self tI) (Nat.zero_le _) (codeAny_mono (F1.run _ X.stack _ _ ⟨[Value.ref (hp.objs.size + 1)], []⟩ [Value.ref (hp.objs.size + 1)] _ _ (fun _ _ _ => False) (hr.make C [] []) (I2.env0.make C [] []) (hb _ [Value.ref (hp.objs.size + 1)] I2.kIn (F1.len _ _ _ _ hq)) rv0 hq) fun r s' hq' => ?_))
  cases r with
  | error er => exact hx pins σ _ _ er s' I2 hq'
  | ok fl =>
    cases fl with
    | ret u => obtain ⟨v, H2, os2, bare2, un2, hok2, rv, ev, d, fs, ea, ed, hd1, q2⟩ := hq'; subst ev; obtain ⟨h2, g2, d2, t2, os'⟩ := s'; exact ⟨rv, mk_end (raises_own T.exC T.tyC) I1 z kk un2 hok2 os2 bare2 ea ed hd1 q2⟩
    | next => exact hq'.elim
    | brk => exact hq'.elim
    | cont => exact hq'.elim
end
end Bw
set_option Elab.async false
set_option linter.all false
set_option maxRecDepth 100000
set_option maxHeartbeats 4000000
namespace Bw
open PySem PySem.Spec PyProof.Rows L2 LamX
/-! ### try: .. except x as n: .. except (x1, x2, x3, x4) as n: .. -/
abbrev endsAs (i : Nat) (D : Ends) : Ends := { nx := fun σ' H' => D.nx (σ'.set i none) H', rt := D.rt, bk := fun σ' H' => D.bk (σ'.set i none) H', ct := fun σ' H' => D.ct (σ'.set i none) H' }
def wAs2 (K : PySem.W.Frag) (c : Value) (cs : List Value) (i : Nat) (t1 t2 : Addr → Value → Option Addr → TS) (D : Ends) : WX := fun cls d σ H =>
  (PySem.W.exmOne K cls c = some true ∧ ∀ a, H a = none → t1 a cls d (endsAs i D) (σ.set i (some (.ref a))) H) ∨ (PySem.W.exmOne K cls c = some false ∧ PySem.W.exmAny K cls cs = some true ∧ ∀ a, H a = none → t2 a cls d (endsAs i D) (σ.set i (some (.ref a))) H)
theorem fly_push {B : Heap} {l : List Env} {a : Addr} {Z : Obj → Prop} {h h' : Heap} (k : ∀ b o, h.get? b = some o → h'.get? b = some o) (f : HandSPX.FlyingZ B l a Z h) : HandSPX.FlyingZ B l a Z h' := by
  obtain ⟨f1, f2, f3, oe, vs, T, oT, ts, e1, e2, e3, e4, e5, e6, e7, e8⟩ := f
  exact ⟨fun b o e => k _ _ (f1 b o e), f2, Heap.FunFrames.of_keeps (fun b o e _ => ⟨o, k _ _ e, rfl⟩) f3, oe, vs, T, oT, ts, k _ _ e1, e2, e3, e4, e5, e6, k _ _ e7, e8⟩
theorem ps_try_as2 {X : Cx} {x x1 x2 x3 x4 n : Str} {c c1 c2 c3 c4 : Value} {i : Nat} {body suite suite2 : List Stmt} {b₀ b2₀ : Stmt} {np q1 q2 q3 q4 qt pos pos' pos2 : Pos} {tup} {tb : WX → TS} {ts ts2 : Addr → Value → Option Addr → TS} (hs : X.stack = X.env :: X.outer) (hf : X.env.frame = some X.env.locals) (hN : X.N.Nodup) (hi : X.N[i]? = some n) (hln : X.env.kindOf n = some .local)
    (hc : Names X x c) (h1 : Names X x1 c1) (h2 : Names X x2 c2) (h3 : Names X x3 c3) (h4 : Names X x4 c4)
    (hb : ∀ (W : WX) (pn : List (Addr × Obj)) (xe : Value → Shared → Prop), Takes (X.tr pn xe) W → PassesOwn (model X.prog X.w) X.A X.env xe → PSs (X.tr pn xe) body (tb W))
    (hsu : ∀ (a : Addr) (oe : Obj) (cls : Value) (d : Option Addr) (pn : List (Addr × Obj)), Zc cls d oe → (∃ vs, oe.data = .fields vs) → PSs (X.suite a ((a, oe) :: pn)) (b₀ :: suite) (ts a cls d))
    (hs2 : ∀ (a : Addr) (oe : Obj) (cls : Value) (d : Option Addr) (pn : List (Addr × Obj)), Zc cls d oe → (∃ vs, oe.data = .fields vs) → PSs (X.suite a ((a, oe) :: pn)) (b2₀ :: suite2) (ts2 a cls d)) :
    PS X (.Try body [.ExceptHandler (some (.Name x np)) (some n) (b₀ :: suite) pos', .ExceptHandler (some (.Tuple [.Name x1 q1, .Name x2 q2, .Name x3 q3, .Name x4 q4] tup qt)) (some n) (b2₀ :: suite2) pos2] [] [] pos) (fun D σ H => tb (wAs2 X.K c [c1, c2, c3, c4] i ts ts2 D) D σ H) := by
  refine ⟨fun pins s σ H D I h => ?_⟩
  have ok := I.ok
  have hfr : X.A.frames = some (X.env :: X.outer) := by rw [ok.frames, hs]
  have hloc : Loc X.env.scope n := .inl hln
  refine wpAny_Try_except (wpAny_mono ((hb (wAs2 X.K c [c1, c2, c3, c4] i ts ts2 D) (X.pn ++ pins) (fun e s₁ => wpAny (model X.prog X.w) X.A (noteFrame e X.env) (fun _ s₂ => wpAny (model X.prog X.w) X.A (setFlight e none) (fun _ s₃ => wpAny (model X.prog X.w) X.A (handleBy e X.env [.ExceptHandler (some (.Name x np)) (some n) (b₀ :: suite) pos', .ExceptHandler (some (.Tuple [.Name x1 q1, .Name x2 q2, .Name x3 q3, .Name x4 q4] tup qt)) (some n) (b2₀ :: suite2) pos2]) (SP X pins D) X.xe s₃) X.xe s₂) X.xe s₁) (fun u s' xx => ?_) PassesOwn.looking).run [] s σ H D (I.toTry _) h) (fun f s1 hsp => ?_) (fun e s1 he => he))
  · obtain ⟨a, B, sI, pins', σ', H', cls, d, rfl, J', nb, up, sky, na, os, ag, hw⟩ := xx
    have J : L2.Inv X pins σ' H' sI := J'.ofTry ok
    have sky' : Sky B (X.env :: X.outer) a (Zc cls d) X.env.locals s'.heap := by rw [← hs]; exact sky
    show wpAny (model X.prog X.w) X.A (noteFrame (.ref a) X.env) _ _ _
    refine Sky.land Zc.steady hfr hf sky' fun g3 fl3 up3 => ?_
    have J3 : L2.Inv X pins σ' H' { s' with heap := g3 } := J.landed nb fl3.1 (up.trans up3) os ag
    obtain ⟨oe3, vs3, he3, hz3, hd3⟩ := fl3.there
    have nfr : a ∉ frs (X.env :: X.outer) := fun hm => by obtain ⟨_, o', e', hnf⟩ := fl3.2.2.1.mem hm; rw [he3] at e'; cases e'; exact hnf _ hd3
    have nL : a ≠ X.env.locals := fun z => nfr (List.mem_filterMap.mpr ⟨X.env, List.mem_cons_self, by rw [hf, z]⟩)
    have nF : a ∉ X.fs := fun hm => by obtain ⟨e, he, q⟩ := List.mem_filterMap.mp hm; exact nfr (List.mem_filterMap.mpr ⟨e, List.mem_cons_of_mem _ he, q⟩)
    have S3 := J3.suite he3 hd3 na nL nF
    have rd : ∀ {y : Str} {k : Value} {pp : Pos} {Q : Value → Shared → Prop} {E : Value → Shared → Prop}, Names X y k → Q k { s' with heap := g3 } → wpAny (model X.prog X.w) (X.A.mark (some (.ref a))) (eval (.Name y pp) X.env) Q E { s' with heap := g3 } := fun {y k pp Q E} hy q => by
      obtain ⟨hg, hdbg, hm | ⟨hm, hv, hnn⟩⟩ := hy
      · exact ld_glob (X := X.suite a ((a, oe3) :: (X.pn ++ pins))) S3 hg hm q hdbg
      · exact ld_blt (X := X.suite a ((a, oe3) :: (X.pn ++ pins))) S3 hg hm hv q hnn hdbg
    have LT : PySem.W.Looks (model X.prog X.w) g3 (typeOf (.ref a)) cls := fun A Q E s k q => wpAny_typeOf_ref (k _ _ he3) (by rw [hz3.1]; exact q)
    refine wpAny_handleBy_cons (codeAny_handlers_test ?_) (by intro q; cases q)
    rcases hw with ⟨hb1, hyes⟩ | ⟨hb1, hb2, hyes⟩
    · refine rd hc ((PySem.W.exm_one (M := model X.prog X.w) J3.kIn LT hb1).here (codeAny_handlers_suite_as ?_))
      refine HandSPX.lands_againZ fl3 fun g4 fl4 up4 => ?_
      have J4 : L2.Inv X pins σ' H' { s' with heap := g4 } := J.landed nb fl4.1 ((up.trans up3).trans up4) os ag
      obtain ⟨oe4, vs4, he4, hz4, hd4⟩ := fl4.there
      refine store_ok (X := X.suite a ((a, oe4) :: (X.pn ++ pins))) (v := .ref a) (J4.suite he4 hd4 na nL nF) hN hi hloc rfl (fun s5 S5 => ?_) (.inr hln)
      refine wpAny_mono ((hsu a oe4 cls d (X.pn ++ pins) hz4 ⟨_, hd4⟩).run [] s5 _ H' _ S5 (hyes a na)) (fun f s6 hsp => ?_) (fun _ _ z => z.elim)
      have en : ∀ {σ6 : L2.St} {H6 : Hp} {Q : Shared → Prop}, L2.Inv (X.suite a ((a, oe4) :: (X.pn ++ pins))) [] σ6 H6 s6 → (∀ s7, L2.Inv X pins (σ6.set i none) H6 s7 → Q s7) → wpAny (model X.prog X.w) X.A (do bindName X.env n .none; unbindBehindTheSuite X.env n pos') (fun _ s7 => Q s7) X.xe s6 := fun {σ6 H6 Q} S6 hq => gone_ok (S6.unsuite ok) hN hi hln hq
      cases f with
      | next => obtain ⟨σ6, H6, S6, q6⟩ := hsp; exact en S6 fun s7 J7 => ⟨_, _, J7, q6⟩
      | brk => obtain ⟨σ6, H6, S6, q6⟩ := hsp; exact en S6 fun s7 J7 => ⟨_, _, J7, q6⟩
      | cont => obtain ⟨σ6, H6, S6, q6⟩ := hsp; exact en S6 fun s7 J7 => ⟨_, _, J7, q6⟩
      | ret u => obtain ⟨v6, σ6, H6, S6, r6, q6⟩ := hsp; exact en S6 fun s7 J7 => ⟨_, _, _, J7, r6, q6⟩
    · refine rd hc ((PySem.W.exm_one (M := model X.prog X.w) J3.kIn LT hb1).here ?_)
      show wpAny _ X.A (handleBy (.ref a) X.env [.ExceptHandler (some (.Tuple [.Name x1 q1, .Name x2 q2, .Name x3 q3, .Name x4 q4] tup qt)) (some n) (b2₀ :: suite2) pos2]) _ _ _
      refine wpAny_handleBy_cons (codeAny_handlers_test ?_) (by intro q; cases q)
      refine wpAny_Tuple_spliced ?_
      show wpAny _ _ (spliced [(false, eval (.Name x1 q1) X.env), (false, eval (.Name x2 q2) X.env), (false, eval (.Name x3 q3) X.env), (false, eval (.Name x4 q4) X.env)]) _ _ _
      refine Calls.spliced_cons (rd h1 (Calls.spliced_cons (rd h2 (Calls.spliced_cons (rd h3 (Calls.spliced_cons (rd h4 (Calls.spliced_nil ⟨(show 4 ≤ sizeLine by decide), ?_⟩))))))))
      have kp : ∀ b o, g3.get? b = some o → (g3.push { cls := .type "tuple", data := .seq [c1, c2, c3, c4].toArray }).get? b = some o := fun b o e => Heap.get?_push_of_some _ e
      refine (PySem.W.exm_tup4 (M := model X.prog X.w) (tp := g3.objs.size) (fun b o e => kp _ _ (J3.kIn b o e)) (LT.keeps kp) (Heap.get?_push_size _ rfl) hb2).here (codeAny_handlers_suite_as ?_)
      refine HandSPX.lands_againZ (fly_push kp fl3) fun g4 fl4 up4 => ?_
      have J4 : L2.Inv X pins σ' H' { s' with heap := g4 } := J.landed nb fl4.1 (((up.trans up3).trans (Heap.UpToSlots.of_keeps kp)).trans up4) os ag
      obtain ⟨oe4, vs4, he4, hz4, hd4⟩ := fl4.there
      refine store_ok (X := X.suite a ((a, oe4) :: (X.pn ++ pins))) (v := .ref a) (J4.suite he4 hd4 na nL nF) hN hi hloc rfl (fun s5 S5 => ?_) (.inr hln)
      refine wpAny_mono ((hs2 a oe4 cls d (X.pn ++ pins) hz4 ⟨_, hd4⟩).run [] s5 _ H' _ S5 (hyes a na)) (fun f s6 hsp => ?_) (fun _ _ z => z.elim)
      have en : ∀ {σ6 : L2.St} {H6 : Hp} {Q : Shared → Prop}, L2.Inv (X.suite a ((a, oe4) :: (X.pn ++ pins))) [] σ6 H6 s6 → (∀ s7, L2.Inv X pins (σ6.set i none) H6 s7 → Q s7) → wpAny (model X.prog X.w) X.A (do bindName X.env n .none; unbindBehindTheSuite X.env n pos2) (fun _ s7 => Q s7) X.xe s6 := fun {σ6 H6 Q} S6 hq => gone_ok (S6.unsuite ok) hN hi hln hq
      cases f with
      | next => obtain ⟨σ6, H6, S6, q6⟩ := hsp; exact en S6 fun s7 J7 => ⟨_, _, J7, q6⟩
      | brk => obtain ⟨σ6, H6, S6, q6⟩ := hsp; exact en S6 fun s7 J7 => ⟨_, _, J7, q6⟩
      | cont => obtain ⟨σ6, H6, S6, q6⟩ := hsp; exact en S6 fun s7 J7 => ⟨_, _, J7, q6⟩
      | ret u => obtain ⟨v6, σ6, H6, S6, r6, q6⟩ := hsp; exact en S6 fun s7 J7 => ⟨_, _, _, J7, r6, q6⟩
  · cases f with
    | next => exact let ⟨σ', H', J', q⟩ := hsp; wpAny_execs_nil ⟨σ', H', J'.ofTry ok, q⟩
    | brk => exact let ⟨σ', H', J', q⟩ := hsp; ⟨σ', H', J'.ofTry ok, q⟩
    | cont => exact let ⟨σ', H', J', q⟩ := hsp; ⟨σ', H', J'.ofTry ok, q⟩
    | ret u => exact let ⟨v, σ', H', J', r, q⟩ := hsp; ⟨v, σ', H', J'.ofTry ok, r, q⟩
/-! ### the word of a refusal of any kind, or none -/
def ErrAtW (K : PySem.W.Frag) (CB : Addr) (cs : List Value) (cls : Value) (d : Option Addr) (H : Hp) (v : V) : Prop := ∃ (C dd : Addr) (fs : List (Str × V)), cls = .ref C ∧ d = some dd ∧ (PySem.W.exmOne K (.ref C) (.ref CB) = some true ∨ (PySem.W.exmOne K (.ref C) (.ref CB) = some false ∧ PySem.W.exmAny K (.ref C) cs = some true)) ∧ XfC K C ∧ PySem.W.findIn K (.ref C) "word" = some none ∧ H dd = some (.xd fs) ∧ fs.lookup ("word" : Str) = some v
theorem ErrAt.wide {K : PySem.W.Frag} {CB : Addr} {cs : List Value} {cls : Value} {d : Option Addr} {H : Hp} {v : V} (h : ErrAt K CB cls d H v) : ErrAtW K CB cs cls d H v := by
  obtain ⟨C, dd, fs, h1, h2, h3, h4⟩ := h
  exact ⟨C, dd, fs, h1, h2, .inl h3, h4⟩
def TWordW (K : PySem.W.Frag) (CB : Addr) (cs : List Value) : (XK → Hp → VK → Prop) → Hp → VK → Prop := fun tl H Q => tl (fun cls d H' => ∃ v, ErrAtW K CB cs cls d H' v ∧ Q v H') H (fun _ H' => Q (.str "") H')
theorem word_givesW {X : Cx} {Ng : List Str} {x a q : Str} {sg : Scope} {g CB c1 c2 c3 c4 : Addr} {cdg : Value} {j : Nat} {tup} {p1 p2 p3 p4 p5 p6 p7 p8 p9 p10 p11 r1 r2 r3 r4 r5 r6 r7 r8 r9 : Pos} (hge : sg.names.lookup ("BudError" : Str) = some .globalImplicit) (hme : X.mg "BudError" = some (.ref CB))
    (g1 : sg.names.lookup ("NoPart" : Str) = some .globalImplicit) (m1 : X.mg "NoPart" = some (.ref c1)) (g2 : sg.names.lookup ("NoPlace" : Str) = some .globalImplicit) (m2 : X.mg "NoPlace" = some (.ref c2)) (g3 : sg.names.lookup ("Lacking" : Str) = some .globalImplicit) (m3 : X.mg "Lacking" = some (.ref c3)) (g4 : sg.names.lookup ("NothingLeft" : Str) = some .globalImplicit) (m4 : X.mg "NothingLeft" = some (.ref c4))
    (hNd : Ng.Nodup) (hN1 : Ng[1]? = some ("e" : Str)) (hk : sg.names.lookup ("e" : Str) = some .local) (h0 : ∀ f : Addr, (L2.start Ng [V.ref f])[0]? = some (some (V.ref f))) :
    GivesTo X Ng x sg g cdg [.Try [.Expr (.Call (.Name a p1) [] [] p2) p3] [.ExceptHandler (some (.Name "BudError" p4)) (some "e") [.Return (some (.Attribute (.Name "e" p5) "word" p6)) p7] p8, .ExceptHandler (some (.Tuple [.Name "NoPart" r1, .Name "NoPlace" r2, .Name "Lacking" r3, .Name "NothingLeft" r4] tup r5)) (some "e") [.Return (some (.Attribute (.Name "e" r6) "word" r7)) r8] r9] [] [] p9, .Return (some (.Constant (.str "") j p10)) p11] a q (TWordW X.K CB [.ref c1, .ref c2, .ref c3, .ref c4]) := by
  intro f c' s H Q tl act hc h
  have nm : ∀ {y : Str} {k : Addr}, sg.names.lookup y = some .globalImplicit → X.mg y = some (.ref k) → (y == ("__debug__" : Str)) = false → Names (cxOf C8.CX0 X.prog X.w X.K X.mg X.base Ng x sg g cdg X.A X.stack s H C8.E0).nox y (.ref k) := fun hy hm hd => ⟨hy, hd, .inl hm⟩
  refine ⟨_, pss_cons (ps_try_as2 (X := (cxOf C8.CX0 X.prog X.w X.K X.mg X.base Ng x sg g cdg X.A X.stack s H C8.E0).nox) (c := .ref CB) (i := 1)
      (tb := fun W D σ H => ∃ Ech : XK, (∀ cls d σ' H', Ech cls d H' → σ'.length = Ng.length → W cls d σ' H') ∧ σ[0]? = some (some (.ref f)) ∧ H c' = some (CodeO c' q) ∧ tl Ech H fun _ H' => D.nx σ H')
      (ts := fun a cls d => tRet (tXfD X.K a cls d "word" 1)) (ts2 := fun a cls d => tRet (tXfD X.K a cls d "word" 1)) rfl rfl hNd hN1 hk (nm hge hme (by decide)) (nm g1 m1 (by decide)) (nm g2 m2 (by decide)) (nm g3 m3 (by decide)) (nm g4 m4 (by decide)) (fun W pn xe tk _ => ?_) (fun b oe cls d pn hz hf => pss_one (ps_ret (pe_xfD hz hf (pe_var hN1 (.inl hk))))) (fun b oe cls d pn hz hf => pss_one (ps_ret (pe_xfD hz hf (pe_var hN1 (.inl hk)))))) (pss_one (ps_ret pe_str)), ?_⟩
  · refine ⟨fun pins s' σ H' D I h' => ?_⟩
    obtain ⟨Ech, hW, k1, k2, k3⟩ := h'
    exact (pss_one (ps_expr (pos := p3) (act _ pn xe Ech p1 p2 (takes_len tk) hW))).run pins s' σ H' D I ⟨k1, k2, k3⟩
  · refine ⟨fun cls d H' => ∃ v, ErrAtW X.K CB [.ref c1, .ref c2, .ref c3, .ref c4] cls d H' v ∧ Q v H', fun cls d σ' H' hE hl => ?_, h0 f, hc, h⟩
    obtain ⟨v, ⟨C, dd, fs, rfl, rfl, e1, e2, e3, e4, e5⟩, hQ⟩ := hE
    have lt : 1 < σ'.length := by rw [hl]; exact (List.getElem?_eq_some_iff.mp hN1).1
    have sd : ∀ b, H' b = none → tRet (tXfD X.K b (.ref C) (some dd) "word" 1) (endsAs 1 { nx := tRet (tC (.str "")) { nx := fun _ H' => Q .non H', rt := Q }, rt := Q }) (σ'.set 1 (some (.ref b))) H' := fun b _ => ⟨by rw [List.getElem?_set_self lt], C, dd, fs, v, rfl, e2, e3, rfl, e4, e5, hQ⟩
    rcases e1 with e1 | ⟨e1, e1'⟩
    · exact .inl ⟨e1, fun b hb => sd b hb⟩
    · exact .inr ⟨e1, e1', fun b hb => sd b hb⟩
end Bw
set_option Elab.async false
set_option linter.all false
set_option maxRecDepth 100000
set_option maxHeartbeats 4000000
namespace Bw
open PySem PySem.Spec PyProof.Rows L2
/-- what the written part says of an error's class that stands under BudError -/
structure ErrC (K : PySem.W.Frag) (mg : Str → Option Value) (x : Str) (C f CB : Addr) : Prop where
  g : mg x = some (.ref C)
  oex : OexC K C
  iC : PySem.W.findIn K (.ref C) "__init__" = some (some (.ref f))
  tI : PySem.W.typeIn K (.ref f) = some (.type "function")
  nw : PySem.W.findIn K (.ref C) "word" = some none
  xf : XfC K C
  te : PySem.W.exmOne K (.ref C) (.ref CB) = some true
def wordFs (x : Str) : List (Str × V) := [("word", .str x)]
theorem ErrC.at {K : PySem.W.Frag} {mg : Str → Option Value} {x wd : Str} {C f CB d : Addr} {H : Hp} (T : ErrC K mg x C f CB) (h : H d = some (.xd (wordFs wd))) : ErrAt K CB (.ref C) (some d) H (.str wd) := ⟨C, d, _, rfl, rfl, T.te, T.xf, T.nw, h, rfl⟩
/-- an error's own __init__ that wants nothing -/
def spErrInit (K : PySem.W.Frag) (wd : Str) : Sp := fun vs H Q _ => ∃ (a C : Addr), vs = [.ref a] ∧ OexC K C ∧ PySem.W.findIn K (.ref C) "word" = some none ∧ H a = some (exo a C none) ∧
  ∀ (dx : Addr) (H' : Hp), H dx = none → dx ≠ a → H' a = some (exo a C (some dx)) → H' dx = some (exd dx (wordFs wd)) → (∀ b, b ≠ a → b ≠ dx → H' b = H b) → Q .non H'
/-- raise x(): its reading, where what was stays -/
theorem raise_done {K : PySem.W.Frag} {mg : Str → Option Value} {x wd : Str} {C f CB : Addr} {σ : L2.St} {H : Hp} {E : XK} (T : ErrC K mg x C f CB) (q : ∀ (d : Addr) (H' : Hp), Same H H' → H' d = some (.xd (wordFs wd)) → E (.ref C) (some d) H') : tMkO C (spErrInit K wd) [] tNil σ H E := by
  refine ⟨by show 0 ≤ 1000; decide, fun x ex => ?_⟩
  refine ⟨x, C, rfl, T.oex, T.nw, upd_same, fun dx H6 ed nd hx hd hk => ?_⟩
  have ed2 : H dx = none := by
    rw [upd_ne nd] at ed
    exact ed
  refine ⟨rfl, dx, _, hx, hd, ed2, q dx _ (fun c o e2 => ?_) upd_same⟩
  have n1 : c ≠ x := ne_of_none e2 ex
  have n2 : c ≠ dx := ne_of_none e2 ed2
  rw [upd_ne n2, del_ne n1, hk c n1 n2, upd_ne n1]
  exact e2
structure CalX (P : Program) (w : World) (K : PySem.W.Frag) (mg : Str → Option Value) (base : Heap) (k : Nat) (x : Str) (ps : List Str) (sp : Sp) : Prop where
  ex : ∃ (f : Addr) (fd : FuncData), FnOk P w K mg base (L2.CX P w) k f fd ps sp ∧ mg x = some (.ref f) ∧ PySem.W.keepIn K (.ref f) = true ∧ Binds K fd ps []
theorem pe_calX {X : Cx} {x : Str} {ps : List Str} {sp : Sp} {k : Nat} {e : Expr} {es : List Expr} {p pos : Pos} {t : TA} {E : XK} (C : CalX X.prog X.w X.K X.mg X.base k x ps sp) (hr : Room k X.A) (hg : Gl X x) (hx : Passes (L2.CX X.prog X.w) X E) (ha : PA X (e :: es) t) (hdb : (x == ("__debug__" : Str)) = false := by decide) (he : starEach (e :: es) X.env = (false, eval e X.env) :: starEach es X.env := by rfl)
    (hpl : (backTo pos (starEach es X.env)).any (·.1) = false := by rfl) : PE X (.Call (.Name x p) (e :: es) [] pos) (tCall sp [] E t) := by
  obtain ⟨f, fd, F, hm, hk, hb⟩ := C.ex
  exact pe_call F hr hg hm hk hb .nil hx ha hdb he hpl
/-- what of a callee may be let out is let out -/
theorem passE {X : Cx} {E : XK} {E₁ : Value → Shared → Prop} (hs : X.stack = X.env :: X.outer) (hf : X.env.frame = some X.env.locals) (hex : X.ex = []) (hx : X.xe = fun e s' => wpAny (model X.prog X.w) X.A (leaving X.env e) (fun _ s'' => L2.CX X.prog X.w X.outer X.H_0 X.s_0 E e s'') E₁ s') : Passes (L2.CX X.prog X.w) X E := passes_call (takes_of hs hf hex hx) fun _ _ _ _ h => h
def fldFs (fld wd : Str) (x : V) : List (Str × V) := [(fld, x), ("word", .str wd)]
def spErrInit1 (K : PySem.W.Frag) (wd fld : Str) : Sp := fun vs H Q _ => ∃ (a C : Addr) (x : V), vs = [.ref a, x] ∧ OexC K C ∧ PySem.W.findIn K (.ref C) "word" = some none ∧ PySem.W.findIn K (.ref C) fld = some none ∧ H a = some (exo a C none) ∧
  ∀ (dx : Addr) (H' : Hp), H dx = none → dx ≠ a → H' a = some (exo a C (some dx)) → H' dx = some (exd dx (fldFs fld wd x)) → (∀ b, b ≠ a → b ≠ dx → H' b = H b) → Q .non H'
theorem ErrC.at1 {K : PySem.W.Frag} {mg : Str → Option Value} {x wd fld : Str} {C f CB d : Addr} {H : Hp} {v : V} (T : ErrC K mg x C f CB) (hn : (("word" : Str) == fld) = false) (h : H d = some (.xd (fldFs fld wd v))) : ErrAt K CB (.ref C) (some d) H (.str wd) := ⟨C, d, _, rfl, rfl, T.te, T.xf, T.nw, h, by
  unfold fldFs
  rw [List.lookup_cons, hn]
  rfl⟩
theorem mk_done1 {K : PySem.W.Frag} {mg : Str → Option Value} {y wd fld : Str} {C f CB : Addr} {H : Hp} {E : XK} {x : V} (T : ErrC K mg y C f CB) (nf : PySem.W.findIn K (.ref C) fld = some none) (q : ∀ (d : Addr) (H' : Hp), Same H H' → H' d = some (.xd (fldFs fld wd x)) → E (.ref C) (some d) H') :
    [x].length ≤ 1000 ∧ ∀ a, H a = none → spErrInit1 K wd fld (.ref a :: ([x] ++ [])) (upd H a (exo a C none)) (fun v H2 => v = .non ∧ ∃ (d : Addr) (fs : List (Str × V)), H2 a = some (exo a C (some d)) ∧ H2 d = some (exd d fs) ∧ H d = none ∧ E (.ref C) (some d) (upd (del H2 a) d (.xd fs))) (fun _ _ _ => False) := by
  refine ⟨by show 1 ≤ 1000; decide, fun a ea => ?_⟩
  refine ⟨a, C, x, rfl, T.oex, T.nw, nf, upd_same, fun dx H6 ed nd hx hd hk => ?_⟩
  have ed2 : H dx = none := by
    rw [upd_ne nd] at ed
    exact ed
  refine ⟨rfl, dx, _, hx, hd, ed2, q dx _ (fun c o e2 => ?_) upd_same⟩
  have n1 : c ≠ a := ne_of_none e2 ea
  have n2 : c ≠ dx := ne_of_none e2 ed2
  rw [upd_ne n2, del_ne n1, hk c n1 n2, upd_ne n1]
  exact e2
/-! ### errors over other built-in errors -/
structure ErrB (K : PySem.W.Frag) (mg : Str → Option Value) (x : Str) (C f CB : Addr) (cs : List Value) (B nw ini : String) (tl : List Value) : Prop where
  g : mg x = some (.ref C)
  oex : OexB K C B nw ini tl
  iC : PySem.W.findIn K (.ref C) "__init__" = some (some (.ref f))
  tI : PySem.W.typeIn K (.ref f) = some (.type "function")
  nw : PySem.W.findIn K (.ref C) "word" = some none
  xf : XfC K C
  t0 : PySem.W.exmOne K (.ref C) (.ref CB) = some false
  te : PySem.W.exmAny K (.ref C) cs = some true
def spErrInitB1 (K : PySem.W.Frag) (B nw ini : String) (tl : List Value) (wd fld : Str) : Sp := fun vs H Q _ => ∃ (a C : Addr) (x : V), vs = [.ref a, x] ∧ OexB K C B nw ini tl ∧ PySem.W.findIn K (.ref C) "word" = some none ∧ PySem.W.findIn K (.ref C) fld = some none ∧ H a = some (exo a C none) ∧
  ∀ (dx : Addr) (H' : Hp), H dx = none → dx ≠ a → H' a = some (exo a C (some dx)) → H' dx = some (exd dx (fldFs fld wd x)) → (∀ b, b ≠ a → b ≠ dx → H' b = H b) → Q .non H'
def spErrInitB0 (K : PySem.W.Frag) (B nw ini : String) (tl : List Value) (wd : Str) : Sp := fun vs H Q _ => ∃ (a C : Addr), vs = [.ref a] ∧ OexB K C B nw ini tl ∧ PySem.W.findIn K (.ref C) "word" = some none ∧ H a = some (exo a C none) ∧
  ∀ (dx : Addr) (H' : Hp), H dx = none → dx ≠ a → H' a = some (exo a C (some dx)) → H' dx = some (exd dx (wordFs wd)) → (∀ b, b ≠ a → b ≠ dx → H' b = H b) → Q .non H'
section
variable {K : PySem.W.Frag} {mg : Str → Option Value} {y wd fld : Str} {C f CB d : Addr} {cs : List Value} {B nw ini : String} {tl : List Value} {H : Hp} {E : XK} {x v : V} {σ : L2.St}
theorem ErrB.at1 (T : ErrB K mg y C f CB cs B nw ini tl) (hn : (("word" : Str) == fld) = false) (h : H d = some (.xd (fldFs fld wd v))) : ErrAtW K CB cs (.ref C) (some d) H (.str wd) := ⟨C, d, _, rfl, rfl, .inr ⟨T.t0, T.te⟩, T.xf, T.nw, h, by
  unfold fldFs
  rw [List.lookup_cons, hn]
  rfl⟩
theorem ErrB.at (T : ErrB K mg y C f CB cs B nw ini tl) (h : H d = some (.xd (wordFs wd))) : ErrAtW K CB cs (.ref C) (some d) H (.str wd) := ⟨C, d, _, rfl, rfl, .inr ⟨T.t0, T.te⟩, T.xf, T.nw, h, rfl⟩
theorem mk_doneB1 (T : ErrB K mg y C f CB cs B nw ini tl) (nf : PySem.W.findIn K (.ref C) fld = some none) (q : ∀ (d : Addr) (H' : Hp), Same H H' → H' d = some (.xd (fldFs fld wd x)) → E (.ref C) (some d) H') :
    [x].length ≤ 1000 ∧ ∀ a, H a = none → spErrInitB1 K B nw ini tl wd fld (.ref a :: ([x] ++ [])) (upd H a (exo a C none)) (fun v H2 => v = .non ∧ ∃ (d : Addr) (fs : List (Str × V)), H2 a = some (exo a C (some d)) ∧ H2 d = some (exd d fs) ∧ H d = none ∧ E (.ref C) (some d) (upd (del H2 a) d (.xd fs))) (fun _ _ _ => False) := by
  refine ⟨by show 1 ≤ 1000; decide, fun a ea => ?_⟩
  refine ⟨a, C, x, rfl, T.oex, T.nw, nf, upd_same, fun dx H6 ed nd hx hd hk => ?_⟩
  have ed2 : H dx = none := by
    rw [upd_ne nd] at ed
    exact ed
  refine ⟨rfl, dx, _, hx, hd, ed2, q dx _ (fun c o e2 => ?_) upd_same⟩
  have n1 : c ≠ a := ne_of_none e2 ea
  have n2 : c ≠ dx := ne_of_none e2 ed2
  rw [upd_ne n2, del_ne n1, hk c n1 n2, upd_ne n1]
  exact e2
theorem raise_doneB (T : ErrB K mg y C f CB cs B nw ini tl) (q : ∀ (d : Addr) (H' : Hp), Same H H' → H' d = some (.xd (wordFs wd)) → E (.ref C) (some d) H') : tMkO C (spErrInitB0 K B nw ini tl wd) [] tNil σ H E := by
  refine ⟨by show 0 ≤ 1000; decide, fun a ea => ?_⟩
  refine ⟨a, C, rfl, T.oex, T.nw, upd_same, fun dx H6 ed nd hx hd hk => ?_⟩
  have ed2 : H dx = none := by
    rw [upd_ne nd] at ed
    exact ed
  refine ⟨rfl, dx, _, hx, hd, ed2, q dx _ (fun c o e2 => ?_) upd_same⟩
  have n1 : c ≠ a := ne_of_none e2 ea
  have n2 : c ≠ dx := ne_of_none e2 ed2
  rw [upd_ne n2, del_ne n1, hk c n1 n2, upd_ne n1]
  exact e2
end
/-! ### methods that may raise -/
structure MetX (P : Program) (w : World) (K : PySem.W.Frag) (mg : Str → Option Value) (base : Heap) (k : Nat) (C : Addr) (m : Str) (ps : List Str) (sp : Sp) : Prop where
  ex : ∃ (f : Addr) (fd : FuncData), Cls K C ∧ Meth K C m f ∧ FnOk P w K mg base (L2.CX P w) k f fd ps sp ∧ Binds K fd ps []
theorem pe_mtX {X : Cx} {C : Addr} {m : Str} {ps : List Str} {sp : Sp} {k : Nat} {o e : Expr} {es : List Expr} {pos apos : Pos} {t : TA} {ta : TE} {E : XK} {pl : Sem Bool} (M : MetX X.prog X.w X.K X.mg X.base k C m ps sp) (hr : Room k X.A) (hx : Passes (L2.CX X.prog X.w) X E) (ho : PE X o ta) (ha : PA X (e :: es) t) (hst : starEach (e :: es) X.env = (false, eval e X.env) :: starEach es X.env := by rfl)
    (hpl : (backTo pos (starEach es X.env)).any (·.1) = false := by rfl)
    (ht : eval (.Call (.Attribute o m apos) (e :: es) [] pos) X.env = (do
      let ov ← eval o X.env
      standAt apos.atName
      let (f, first) ← holding [ov] (getMethod ov m pl)
      callWith pos f first (backTo pos (starEach (e :: es) X.env)) (backToKw pos (keywordEach [] X.env))) := by rfl) : PE X (.Call (.Attribute o m apos) (e :: es) [] pos) (tMeth C m sp [] E ta t) := by
  obtain ⟨f, fd, c, hm, F, hb⟩ := M.ex
  exact pe_meth (pl := pl) ho c hm F hr hb .nil hx ha hst hpl ht
end Bw
set_option Elab.async false
set_option linter.all false
set_option maxRecDepth 100000
set_option maxHeartbeats 4000000
namespace Bw
open PySem PySem.Spec PyProof.Rows L2 LamX
/-! ### _law_word(lambda: ..), refusals of all kinds, the tables of several defs -/
theorem pe_wordW {X : Cx} {T : List (Addr × Str)} {st : Stmt} {g CB c P : Addr} {cs : List Value} {fd : FuncData} {k : Nat} {params : Arguments} {body : Expr} {scope : Scope} {t : XK → TE} {p lpos pos : Pos}
    (F : Fun X.K "_law_word" "_law_word" st g fd) (gg : X.mg "_law_word" = some (.ref g)) (bb : L2.Binds X.K fd ["_law_asked"] []) (Sg : FnScope ["_law_asked", "e"] ["_law_asked"] (defScope st)) (hva : Vis (defScope st) "_law_asked") (hG : ∀ cdv, GivesTo X ["_law_asked", "e"] "_law_word" (defScope st) g cdv (defBody st) "_law_asked" (X.env.qual ++ "<lambda>") (TWordW X.K CB cs))
    (TB : TabB X.base X.mg c P) (hcode : X.env.code = .ref c) (hmT : (P, X.env.qual ++ "<lambda>") ∈ T) (hu : ∀ p ∈ T, p.1 = P → p.2 = X.env.qual ++ "<lambda>") (hr : Room (k + 2) X.A) (hg : Gl X "_law_word") (L : LamS X.env.scope scope)
    (hbody : ∀ (A : Around) (outer : List Env) (s : Shared) (H : Hp) (E : XK) (f c' : Addr), Room k (A.deeper (lamEnv X scope s.heap.objs.size f c')) → PE (lamCx X A outer s H E scope f c') body (t E)) (hdef : defaultsOf params X.env = ([], []))
    (hbind : ∀ (q : Str) (cl : List (Str × Addr)) (pm cv ctv : Value), bindArgs (PySem.W.kla_fn "<lambda>" q params body scope cl pm cv ctv) ⟨[], []⟩ = pure []) :
    PE X (.Call (.Name "_law_word" p) [.Lambda params body scope lpos] [] pos) (tLam T (TWordW X.K CB cs) t) := by
  obtain ⟨oc, od, kV, doc, pm, an, cdv, ct, osl, rfl, lk, hcd⟩ := F.ex
  exact pe_lamcall hg gg F.kp lk hcd bb Sg rfl hva (hG cdv) TB hcode hmT hu hr L hdef hbind hbody
def qL (x : Str) : Str := (x ++ (".<locals>." : Str)) ++ ("<lambda>" : Str)
theorem FeedAt.neO {H : Hp} {f l b : Addr} {o : HO} (h : FeedAt H f l) (e : H b = some o) (n : ∀ xs, o ≠ .lst xs) : b ≠ f := by
  obtain ⟨_, _, _, _, _, _, b', _⟩ := h
  intro z
  subst z
  rw [e] at b'
  exact n _ (Option.some.inj b')
theorem FeedAt.ext {H H' : Hp} {f l : Addr} (s : ExtN H H') (h : FeedAt H f l) : FeedAt H' f l := by
  obtain ⟨ns, i, n, m, c, a, b, d, r⟩ := h
  exact ⟨ns, i, n, m, c, a, s _ _ b (fun ps z => by cases z), s _ _ d (fun ps z => by cases z), r⟩
/-- the tables stay where only what is no table and no code changes -/
theorem Tabs.butO {T : List (Addr × Str)} {H H' : Hp} {a : Addr} {o : HO} (s : SameBut a H H') (e : H a = some o) (n1 : ∀ ps, o ≠ .tbl ps) (n2 : ∀ c q, o ≠ CodeO c q) (t : Tabs T H) : Tabs T H' := fun p hp => by
  obtain ⟨ps, h1, h2, h3⟩ := t p hp
  refine ⟨ps, s _ _ (fun z => by rw [z, e] at h1; exact n1 _ (Option.some.inj h1)) h1, h2, fun pos cv hc => ?_⟩
  obtain ⟨c, e1, e2⟩ := h3 pos cv hc
  exact ⟨c, e1, s _ _ (fun z => by rw [z, e] at e2; exact n2 _ _ (Option.some.inj e2)) e2⟩
theorem Tabs.put {T : List (Addr × Str)} {H : Hp} {a : Addr} {xs : List V} {o : HO} (t : Tabs T H) (e : H a = some (.lst xs)) : Tabs T (upd H a o) := Tabs.butO (SameBut.upd (SameBut.refl _ _)) e (fun ps z => by cases z) (fun c q z => by cases z) t
theorem Tabs.but {T : List (Addr × Str)} {H H' : Hp} {f l : Addr} (s : SameBut f H H') (hf : FeedAt H f l) (h : Tabs T H) : Tabs T H' := by
  obtain ⟨_, _, _, _, _, _, b', _⟩ := hf
  exact Tabs.butO s b' (fun ps z => by cases z) (fun c q z => by cases z) h
end Bw
set_option Elab.async false
set_option linter.all false
set_option maxRecDepth 100000
set_option maxHeartbeats 4000000
namespace Bw
open PySem PySem.Spec PyProof.Rows L2
/-! ### sep.join(reversed(list)) -/
section
variable {prog : Program} {w : World} {A : Around} {E : Value → Shared → Prop} {s : Shared}
theorem join_rev {it l : Addr} {x : Str} {t : Tok} {items : Array Value} {Q : Value → Shared → Prop} (hh : A.handled = none) (hit : s.heap.IsRevIter it l ((items.size : Int) - 1)) (hl : s.heap.IsList l items) (hne : l ≠ it) (hn : items.size ≤ sizeLine)
    (hstr : ∀ v ∈ items.toList, ∃ y u, v = Value.str y u)
    (hq : ∀ (h' : Heap) (tk : Nat) (l' : List (Str × Tok)), (∀ b o, b ≠ it → s.heap.get? b = some o → h'.get? b = some o) → ItemsOf (fun i v => items[items.size - 1 - i]? = some v) (strValues l').toArray items.size →
      JoinOk x (l'.map (·.1)) = true ∧ ∀ t' k, Q (.str (Txt.join x (l'.map (·.1))) t') { s with heap := h', toks := k }) :
    wpAny (model prog w) A (call (.builtin "str.join") [.str x t, .ref it]) Q E s := by
  refine wpAny_call (codeAny_call_builtin F.slot_str_join.plain F.entry_str_join (F.slot_str_join.check _ _ _ _ _ _ _ _ (typeIs_str _ _ _) (F.args_str_join_2 _ _) ?_))
  rw [join_tree_other]
  refine wpAny_bind (wpAny_typeOf hit.typeIs ?_)
  show wpAny _ A.in1 ((pyIter (.ref it)).tryCatch _ >>= fun it => collect it >>= fun items => joinTail x items) _ _ s
  refine wpAny_bind (wpAny_tryCatch (wpAny_pyIter_revIter hit ?_))
  refine wpAny_bind (RT.collect_rev (A := A.in1) hh hit hl hne hn fun h' tk acc hk hacc => ?_)
  obtain ⟨l', hl'⟩ := exists_strValues acc.toList fun v hv => by
    obtain ⟨j, hj, rfl⟩ := Array.mem_iff_getElem.mp (Array.mem_toList_iff.mp hv)
    have := hacc.2 j _ (Array.getElem?_eq_getElem hj)
    exact hstr _ (Array.mem_toList_iff.mpr (Array.mem_of_getElem? this))
  rw [← hl']
  have hacc' : ItemsOf (fun i v => items[items.size - 1 - i]? = some v) (strValues l').toArray items.size := by rw [hl']; simpa using hacc
  obtain ⟨hok, hpost⟩ := hq h' tk l' hk hacc'
  unfold JoinOk at hok
  rw [Bool.not_eq_true'] at hok
  have g : Gives (joinTail x (strValues l')) (joinMade x l') := by
    have g0 := gives_joinTail x l' hok
    cases l' with
    | nil => exact g0
    | cons p r => cases r with
      | nil => exact g0
      | cons q r' => exact g0
  exact g prog w A (wants Q E) _ (post_join l' ⟨joinFit_length hok, hpost⟩)
end
def tJoinRev (K : PySem.W.Frag) (to te : TE) : TE := fun σ H Q => to σ H fun x H1 => ∃ a : Str, x = .str a ∧ te σ H1 fun v H2 => ∃ (p : Addr) (ys : List Str), v = .ref p ∧ SqL K H2 p (ys.map V.str) ∧ JoinOk a ys.reverse = true ∧ Q (.str (Txt.join a ys.reverse)) H2
theorem vals_strs {ys : List Str} : ∀ {us : List Value}, Vals (ys.map V.str) us → ∀ v ∈ us, ∃ y u, v = Value.str y u := by
  induction ys with
  | nil =>
    intro us r v hv
    cases r
    cases hv
  | cons y ys ih =>
    intro us r v hv
    cases r with
    | cons a b =>
      rcases List.mem_cons.mp hv with rfl | hv
      · obtain ⟨t, e⟩ := a
        exact ⟨y, t, e⟩
      · exact ih b v hv
theorem vals_map {ys : List Str} : ∀ {l : List (Str × Tok)}, Vals (ys.map V.str) (strValues l) → l.map (·.1) = ys := by
  induction ys with
  | nil =>
    intro l r
    cases l with
    | nil => rfl
    | cons a l => cases r
  | cons y ys ih =>
    intro l r
    cases l with
    | nil => cases r
    | cons a l =>
      cases r with
      | cons p q =>
        obtain ⟨t, e⟩ := p
        have e : Value.str a.1 a.2 = Value.str y t := e
        injection e with e1 e2
        rw [List.map_cons, ih q, e1]
theorem pe_joinRev {X : Cx} {K : PySem.W.Frag} {o e : Expr} {to te : TE} {apos pos p2 pos2 : Pos} (hc : X.calm = true) (ho : PE X o to) (hg2 : Gl X "reversed") (hm2 : X.mg "reversed" = none) (he : PE X e te) (hK : X.K = K := by rfl)
    (hs : starEach [e] X.env = (false, eval e X.env) :: starEach [] X.env := by rfl)
    (hs2 : starEach [.Call (.Name "reversed" p2) [e] [] pos2] X.env = [(false, eval (.Call (.Name "reversed" p2) [e] [] pos2) X.env)] := by rfl)
    (hbase : attributeBase o "join" X.env (eval o X.env) = eval o X.env := by rfl) (hline : (apos.endLine == pos.line) = true := by rfl) :
    PE X (.Call (.Attribute o "join" apos) [.Call (.Name "reversed" p2) [e] [] pos2] [] pos) (tJoinRev K to te) := by
  subst hK
  refine ⟨fun pins s σ H Q I h => ?_⟩
  refine PySem.Call_method1 hbase hs2 hline (thn (ho.run pins s σ H _ I h) fun v s1 ⟨x, H1, I1, r1, q1⟩ => ?_)
  obtain ⟨sep, rfl, q1⟩ := q1
  obtain ⟨t, rfl⟩ := _root_.id r1
  refine ⟨"str", _, F.plainAttrs_str, F.slot_str_join, F.type_str_join, typeIs_str _ _ _, (fun _ e => nomatch e), Calls.callWith_builtin rfl (Calls.evalArgs_plain (Calls.spliced_cons ?_))⟩
  refine Call_ (ld_blt I1 hg2 hm2 PyProof.Rows.boot_reversed (PyProof.Rows.callWith_type1 (args_cons (thn (he.run pins s1 σ H1 _ I1 q1) fun u s2 ⟨v, H2, I2, r2, q2⟩ => args_nil ?_) hs) hs rfl))
  obtain ⟨a, ys, ev, hq, hok, q⟩ := q2
  subst ev
  obtain rfl : u = Value.ref a := r2
  obtain ⟨its, rv, p', hz⟩ := I2.list hq
  refine call_reversed_list p'.isList (Calls.spliced_nil ?_)
  have k0 : ∀ b o, s2.heap.get? b = some o → (s2.heap.push (revObj a ((its.toArray.size : Int) - 1))).get? b = some o := fun b o e => Heap.get?_push_of_some _ e
  have I3 : Inv X pins σ H2 { s2 with heap := s2.heap.push (revObj a ((its.toArray.size : Int) - 1)) } := I2.kept (t' := s2.toks) k0
  obtain ⟨f0, f1, f2, f3, f4, f5⟩ := I2.fpOk (H' := H2) (b := s2.heap.objs.size) (Nat.le_refl _) (I2.hok.fresh (Nat.le_refl _))
  have hl := p'.isList
  obtain ⟨ol, hol, _⟩ := id hl
  have hne : a ≠ s2.heap.objs.size := Nat.ne_of_lt (Heap.lt_size hol)
  have hn : its.toArray.size ≤ sizeLine := by rw [List.size_toArray, ← rv.length]; exact hz
  refine join_rev (s := { s2 with heap := s2.heap.push (revObj a ((its.toArray.size : Int) - 1)) }) (I2.ok.hd hc) ⟨_, Heap.get?_push_size _ rfl, rfl, rfl⟩ (hl.push _) hne hn (by rw [List.toList_toArray]; exact vals_strs rv) fun h' tk l' hk hi => ?_
  have rr := RT.vals_rev rv hi
  rw [List.toList_toArray, ← List.map_reverse] at rr
  have el := vals_map rr
  rw [el]
  refine ⟨hok, fun t' k => ?_⟩
  have I4 : Inv X pins σ H2 { s2 with heap := h', toks := k } := I3.turned (t' := k) (fun b o hb e => hk b o hb e) f0 f1 f3 f4 f5
  exact ⟨.str _, H2, I4, ⟨t', rfl⟩, q⟩
/-! ### repr(x), str(x), bool(x) of own instances -/
section
variable {X : Cx} {CX : CXT} {C f : Addr} {fd : FuncData} {ps : List Str} {sp : Sp} {n : Nat} {E : XK}
def rStrOwn (C : Addr) (sp : Sp) (E : XK) : List V → Hp → VK → Prop := fun xs H Q => ∃ a dx fs, xs = [V.ref a] ∧ H a = some (.ins C dx fs) ∧ sp [.ref a] H (fun z H' => ∃ y : Str, z = .str y ∧ Q (.str y) H') E
theorem c_reprOwn (hs : PySem.W.findIn X.K (.ref C) "__repr__" = some (some (.ref f))) (hf : PySem.W.isFn X.K (.ref f) = true) (F : FnOk X.prog X.w X.K X.mg X.base CX n f fd ps sp) (hr : Room (n + 1) X.A) (hb : Binds X.K fd ps []) (hx : Passes CX X E) : CallR X (.builtin "repr") (rStrOwn C sp E) := by
  intro pins s σ H xs us Q I r h
  obtain ⟨a, dx, fs, rfl, ha, q⟩ := h
  obtain ⟨u, rfl, ru⟩ := vals1 r
  obtain rfl : u = Value.ref a := ru
  obtain ⟨mA, J, _⟩ := ins_get I.hok ha
  obtain ⟨od, J, _⟩ := J.look
  obtain ⟨m, hF⟩ := I.fr
  refine PySem.W.repr_K (Nat.lt_of_le_of_lt (Nat.le_add_right _ _) hr.in1.units) hF I.ok.mod.kin J hs hf ?_
  have hl := F.len _ _ _ _ q
  refine wpAny_call (codeAny_mono (F.run X.A.in1 X.stack s H ⟨[.ref a], []⟩ [.ref a] [.ref a] _ E hr.in1 I.env0.in1 (by
    have z := hb s [.ref a] I.kIn (by simpa using hl)
    simpa using z) (.cons rfl .nil) q) fun r s' hq => ?_)
  cases r with
  | error e => exact hx pins σ H s e s' I hq
  | ok fl =>
    cases fl with
    | ret w =>
      obtain ⟨z, H', I', rz, y, ei, qz⟩ := I.after hq
      subst ei
      obtain ⟨t, rfl⟩ := (show ∃ t, w = Value.str y t from rz)
      exact ⟨.str y, H', I', ⟨_, rfl⟩, qz⟩
    | next => exact False.elim hq
    | brk => exact False.elim hq
    | cont => exact False.elim hq
theorem c_strOwn (hs : PySem.W.findIn X.K (.ref C) "__str__" = some (some (.ref f))) (hf : PySem.W.isFn X.K (.ref f) = true) (F : FnOk X.prog X.w X.K X.mg X.base CX n f fd ps sp) (hr : Room (n + 2) X.A) (hb : Binds X.K fd ps []) (hx : Passes CX X E) : CallR X (.type "str") (rStrOwn C sp E) := by
  intro pins s σ H xs us Q I r h
  obtain ⟨a, dx, fs, rfl, ha, q⟩ := h
  obtain ⟨u, rfl, ru⟩ := vals1 r
  obtain rfl : u = Value.ref a := ru
  obtain ⟨mA, J, _⟩ := ins_get I.hok ha
  obtain ⟨od, J, _⟩ := J.look
  obtain ⟨m, hF⟩ := I.fr
  refine PySem.W.kso_call (Nat.lt_of_le_of_lt (Nat.le_add_right _ _) hr.in1.in1.units) I.kIn J hs hf ?_
  have hl := F.len _ _ _ _ q
  refine wpAny_call (codeAny_mono (F.run X.A.in1.in1 X.stack s H ⟨[.ref a], []⟩ [.ref a] [.ref a] _ E hr.in1.in1 I.env0.in1.in1 (by
    have z := hb s [.ref a] I.kIn (by simpa using hl)
    simpa using z) (.cons rfl .nil) q) fun r s' hq => ?_)
  cases r with
  | error e => exact hx pins σ H s e s' I hq
  | ok fl =>
    cases fl with
    | ret w =>
      obtain ⟨z, H', I', rz, y, ei, qz⟩ := I.after hq
      subst ei
      obtain ⟨t, rfl⟩ := (show ∃ t, w = Value.str y t from rz)
      exact ⟨.str y, H', I', ⟨_, rfl⟩, qz⟩
    | next => exact False.elim hq
    | brk => exact False.elim hq
    | cont => exact False.elim hq
/-! ### bool(x) by its len -/
theorem truthy_len {K : PySem.W.Frag} {prog : Program} {w : World} {A : Around} {E : Value → Shared → Prop} {s : Shared} {x C f : Addr} {ox : Obj} {od : Option Obj} {Q : Bool → Shared → Prop} (Y : K.In s.heap) (I : PySem.W.InstAt s.heap x ox C od) (hs : PySem.W.findIn K (.ref C) "__bool__" = some none) (hl : PySem.W.findIn K (.ref C) "__len__" = some (some (.ref f))) (hf : PySem.W.isFn K (.ref f) = true)
    (h : wpAny (model prog w) A.in1 (call (.ref f) [.ref x]) (fun v s' => ∃ n t, v = .int n t ∧ 0 ≤ n ∧ n < 2 ^ 63 ∧ ∀ tk, Q (n != 0) { s' with toks := tk }) E s) : wpAny (model prog w) A (truthy (.ref x)) Q E s := by
  have key : wpAny (model prog w) A (runValue (.builtin "len" ⟨[.ref x], []⟩)) (fun r s' => ∃ n t, r = .int n t ∧ Q (n != 0) s') E s := by
    refine wpAny_runValue (codeAny_builtin entry_len ?_)
    rw [Around.under_plainId plain_len _]
    unfold Builtin.«len»
    refine wpAny_bind (m := oneArg "len" _) (wpAny_pure ?_)
    refine wpAny_bind (m := callSpecial? (.ref x) (Str.ofString "__len__")) (PySem.W.special_fn Y I hl (beq_iff_eq.mp hf) (wpAny_mono h (fun r s' hr => ?_) fun _ _ y => y))
    obtain ⟨n, u, rfl, h0, h1, hq⟩ := hr
    refine wpAny_bind (wpAny_holding (wpAny_pure ?_))
    refine wpAny_bind (wpAny_letGo ?_)
    show wpAny _ _ (if n < 0 then _ else _) _ _ _
    rw [if_neg (by omega)]
    show wpAny _ _ (if n ≥ 2 ^ 63 then _ else _) _ _ _
    rw [if_neg (by omega)]
    exact wpAny_bind (wpAny_mkInt (wpAny_pure ⟨_, _, rfl, hq _⟩))
  unfold truthy
  refine wpAny_bind (m := callSpecial? (.ref x) (Str.ofString "__bool__")) (wpAny_bind (wpAny_bind (I.type.here ((PySem.W.looks_findIn Y hs).here (wpAny_pure ?_)))))
  refine wpAny_bind (wpAny_bind (I.type.here ((PySem.W.looks_findIn Y hl).here ?_)))
  show wpAny _ _ (runValue (.builtin "len" ⟨[.ref x], []⟩) >>= _) _ _ _
  refine wpAny_bind (wpAny_mono key (fun r s' hr => ?_) fun _ _ y => y)
  obtain ⟨n, t, rfl, hq⟩ := hr
  exact wpAny_pure hq
end
end Bw
set_option Elab.async false
set_option linter.all false
set_option maxRecDepth 100000
set_option maxHeartbeats 4000000
namespace Bw
open PySem PySem.Spec PyProof.Rows L2
section
variable {X : Cx} {CX : CXT} {C f : Addr} {fd : FuncData} {ps : List Str} {sp : Sp} {n : Nat} {E : XK}
/-! ### bool(x) by its len -/
def rBoolOwn (C : Addr) (sp : Sp) (E : XK) : List V → Hp → VK → Prop := fun xs H Q => ∃ a dx fs, xs = [V.ref a] ∧ H a = some (.ins C dx fs) ∧ sp [.ref a] H (fun z H' => ∃ i : Int, z = .int i ∧ 0 ≤ i ∧ i < 2 ^ 63 ∧ Q (.bl (i != 0)) H') E
theorem c_boolOwn (hs0 : PySem.W.findIn X.K (.ref C) "__bool__" = some none) (hs : PySem.W.findIn X.K (.ref C) "__len__" = some (some (.ref f))) (hf : PySem.W.isFn X.K (.ref f) = true) (F : FnOk X.prog X.w X.K X.mg X.base CX n f fd ps sp) (hr : Room (n + 3) X.A) (hb : Binds X.K fd ps []) (hx : Passes CX X E) : CallR X (.type "bool") (rBoolOwn C sp E) := by
  intro pins s σ H xs us Q I r h
  obtain ⟨a, dx, fs, rfl, ha, q⟩ := h
  obtain ⟨u, rfl, ru⟩ := vals1 r
  obtain rfl : u = Value.ref a := ru
  obtain ⟨mA, J, _⟩ := ins_get I.hok ha
  obtain ⟨od, J, _⟩ := J.look
  refine callType_codes (T := "bool") (Bi := Builtin.«object.__init__») (Q₁ := fun r s₁ => ∃ b, r = Value.bool b ∧ EP X pins σ Q (.bool b) s₁) PySem.F.called_bool (PySem.F.typeCall_bool_1 _) PySem.F.entry_object_init ?_ ?_
  · refine codeAny_of_tree ?_
    show wpAny _ X.A.in1.in1 (do checkBuiltinCall "bool.__new__" ⟨[.type "bool", .ref a], []⟩; again (.builtin "bool.__new__" ⟨[.type "bool", .ref a], []⟩)) _ _ s
    refine wpAny_bind (wpAny_of_eq (PySem.F.newCall_bool_1 _) (wpAny_pure ⟨plainId_quiet (by decide +kernel) _, codeAny_builtin PySem.F.entry_bool_new ?_⟩))
    rw [Around.under_plainId (by decide +kernel) _]
    unfold Builtin.«bool.__new__»
    refine wpAny_bind (m := isType _) (wpAny_pure ?_)
    refine wpAny_bind (wpAny_of_eq PySem.F.conv_sub_bool ?_)
    refine wpAny_bind (wpAny_pure ?_)
    refine wpAny_bind (wpAny_mono (truthy_len (Q := fun b s₁ => EP X pins σ Q (.bool b) s₁) I.kIn J hs0 hs hf ?_) (fun b s₁ hb => wpAny_pure ⟨b, rfl, hb⟩) fun _ _ y => y)
    have hl := F.len _ _ _ _ q
    refine wpAny_call (codeAny_mono (F.run _ X.stack s H ⟨[.ref a], []⟩ [.ref a] [.ref a] _ E hr.in1.in1.in1 I.env0.in1.in1.in1 (by
      have z := hb s [.ref a] I.kIn (by simpa using hl)
      simpa using z) (.cons rfl .nil) q) fun r s' hq => ?_)
    cases r with
    | error e => exact hx pins σ H s e s' I hq
    | ok fl =>
      cases fl with
      | ret w =>
        obtain ⟨z, H', I', rz, i, ei, i0, i1, qz⟩ := I.after hq
        subst ei
        obtain ⟨t, rfl⟩ := (show ∃ t, w = Value.int i t from rz)
        exact ⟨i, t, rfl, i0, i1, fun tk => ⟨.bl (i != 0), H', I'.tok _, rfl, qz⟩⟩
      | next => exact False.elim hq
      | brk => exact False.elim hq
      | cont => exact False.elim hq
  · rintro obj s₁ ⟨b, rfl, hq⟩
    exact ⟨PySem.typeIs_bool _ _, PySem.F.args_object_init_2 _ _, object_init_meets PySem.F.called_bool.init.lookup PySem.F.called_bool.made (by decide) X.prog X.w X.A.in1 _ s₁ ⟨PySem.typeIs_bool _ _, rfl, hq⟩⟩
/-! ### x == y, x an own instance, y a dict with tuples for keys, or a text -/
theorem own_runV (F : FnOk X.prog X.w X.K X.mg X.base CX n f fd ps sp) (hr : Room n X.A) (hb : Binds X.K fd ps []) (hx : Passes CX X E) {pins : List (Addr × Obj)} {s : Shared} {σ : L2.St} {H : Hp} {a : Addr} {y : V} {u : Value} {Q : Bool → Hp → Prop} (I : L2.Inv X pins σ H s) (ry : L2.RelV y u)
    (q : sp [.ref a, y] H (fun z H' => ∃ c : Bool, z = .bl c ∧ Q c H') E) : wpAny (model X.prog X.w) X.A (call (.ref f) [.ref a, u]) (fun v s' => ∃ (c : Bool) (H' : Hp), v = .bool c ∧ L2.Inv X pins σ H' s' ∧ Q c H') X.xe s := by
  have hl := F.len _ _ _ _ q
  refine wpAny_call (codeAny_mono (F.run X.A X.stack s H ⟨[.ref a, u], []⟩ [.ref a, u] [.ref a, y] _ E hr I.env0 (by
    have z := hb s [.ref a, u] I.kIn (by simpa using hl)
    simpa using z) (.cons rfl (.cons ry .nil)) q) fun r s' hq => ?_)
  cases r with
  | error e => exact hx pins σ H s e s' I hq
  | ok fl =>
    cases fl with
    | ret w =>
      obtain ⟨z, H', I', rz, c, ec, qc⟩ := I.after hq
      subst ec
      obtain rfl : w = Value.bool c := rz
      exact ⟨c, H', rfl, I', qc⟩
    | next => exact False.elim hq
    | brk => exact False.elim hq
    | cont => exact False.elim hq
def rEqOwnV (C : Addr) (sp : Sp) (E : XK) : R2 := fun x y H Q => ∃ a dx fs, x = .ref a ∧ H a = some (.ins C dx fs) ∧ ((∃ y', y = .str y') ∨ ∃ b kvs, y = .ref b ∧ H b = some (.dT kvs)) ∧ sp [.ref a, y] H (fun z H' => ∃ c : Bool, z = .bl c ∧ Q (.bl c) H') E
theorem o_eqOwnV (hnS : PySem.W.notFirst X.K C (.type "str") = true) (hnD : PySem.W.notFirst X.K C (.type "dict") = true) (hs : PySem.W.findIn X.K (.ref C) "__eq__" = some (some (.ref f))) (hf : PySem.W.isFn X.K (.ref f) = true) (F : FnOk X.prog X.w X.K X.mg X.base CX n f fd ps sp) (hr : Room n X.A) (hb : Binds X.K fd ps []) (hx : Passes CX X E) : OpR X (compareOp .Eq) (rEqOwnV C sp E) := by
  intro pins s σ H x y v u Q I rx ry h
  obtain ⟨a, dx, fs, rfl, ha, hy, q⟩ := h
  cases rx
  obtain ⟨mA, J, _⟩ := ins_get I.hok ha
  obtain ⟨od, J, _⟩ := J.look
  obtain ⟨m, hF⟩ := I.fr
  have run := own_runV F hr hb hx I ry q
  have fin : ∀ (v : Value) (s' : Shared), (∃ (c : Bool) (H' : Hp), v = .bool c ∧ L2.Inv X pins σ H' s' ∧ Q (.bl c) H') → PySem.W.CmpBack (EP X pins σ Q) v s' := fun v s' z => by
    obtain ⟨c, H', rfl, I', qc⟩ := z
    exact ⟨.bl c, H', I', rfl, qc⟩
  rcases hy with ⟨y', rfl⟩ | ⟨b, kvs, rfl, eb⟩
  · obtain ⟨t, rfl⟩ := (show ∃ t, u = Value.str y' t from ry)
    show wpAny _ _ (richCompare .Eq (.ref a) (.str y' t)) _ _ _
    exact PySem.W.cmp_K (op := .Eq) (tb := .type "str") hr.units0 hF I.ok.mod.kin J (PySem.W.Looks.of_pure rfl) hnS hs hf (wpAny_mono run fin fun _ _ z => z)
  · obtain rfl : u = Value.ref b := ry
    obtain ⟨_, _, xs, _, o, es, ep, h1, h2, _⟩ := (show ObjOk X.prog X.w H s.heap b (.dT kvs) from I.hok b _ eb)
    show wpAny _ _ (richCompare .Eq (.ref a) (.ref b)) _ _ _
    refine PySem.W.cmp_K (op := .Eq) (tb := .type "dict") hr.units0 hF I.ok.mod.kin J ?_ hnD hs hf (wpAny_mono run fin fun _ _ z => z)
    have : PySem.W.Looks (model X.prog X.w) s.heap (typeOf (.ref b)) o.cls := (PySem.W.Looks.ld (M := model X.prog X.w) (part := none) h1).andThen .now
    rw [← h2.1]
    exact this
end
end Bw
set_option Elab.async false
set_option linter.all false
set_option maxRecDepth 100000
set_option maxHeartbeats 4000000
namespace Bw
open PySem PySem.Spec PyProof.Rows L2
theorem same_empty {prog : Program} {w : World} {A : Around} {E : Value → Shared → Prop} {s : Shared} {nm : String} {a b : Addr} {oa ob : Obj} {es : Array DictEntry} {ep ep' : Nat} {Q : Bool → Shared → Prop} (ha : (a == sysModules) = false) (hb : (b == sysModules) = false)
    (hoa : s.heap.get? a = some oa) (hda : oa.data = .dict es ep) (hob : s.heap.get? b = some ob) (hdb : ob.data = .dict #[] ep') (h : Q (es.size == 0) s) : wpAny (model prog w) A (Builtin.Dict.samePairs nm a b) Q E s := by
  unfold Builtin.Dict.samePairs Builtin.Dict.showsAll
  rw [if_neg (show ¬ (a == sysModules) = true by rw [ha]; exact Bool.false_ne_true), if_neg (show ¬ (b == sysModules) = true by rw [hb]; exact Bool.false_ne_true)]
  refine wpAny_bind (wpAny_pure (wpAny_bind (wpAny_pure ?_)))
  refine wpAny_bind (wpAny_dictEntries hoa hda ?_)
  dsimp only
  refine wpAny_bind (wpAny_dictEntries hob hdb ?_)
  by_cases hsz : es.size = 0
  case neg =>
    rw [if_pos (by simpa using hsz)]
    have hbf : (es.size == 0) = false := by simpa using hsz
    rw [hbf] at h
    exact wpAny_bind (wpAny_rule (wpAny_pure h))
  case pos =>
    have h' : Q true s := by simpa [hsz] using h
    rw [if_neg (by rw [hsz]; simp)]
    refine wpAny_bind (wpAny_dictEpoch hoa hda ?_)
    refine wpAny_bind ?_
    rw [Std.Legacy.Range.forIn_eq_forIn_range', hsz]
    simp only [Std.Legacy.Range.size, Nat.sub_zero, Nat.add_sub_cancel, Nat.div_one, List.range'_zero, List.forIn_nil]
    exact wpAny_pure (wpAny_pure h')
theorem ne_empty {prog : Program} {w : World} {A : Around} {E : Value → Shared → Prop} {s : Shared} {a b : Addr} {oa ob : Obj} {es : Array DictEntry} {ep ep' : Nat} {Q : Value → Shared → Prop} (ha : (a == sysModules) = false) (hb : (b == sysModules) = false)
    (hoa : s.heap.get? a = some oa) (xa : oa.ExactDict) (hda : oa.data = .dict es ep) (hob : s.heap.get? b = some ob) (xb : ob.ExactDict) (hdb : ob.data = .dict #[] ep') (hu : A.units < cLine) (h : Q (.bool (!(es.size == 0))) s) :
    wpAny (model prog w) A (compareOp .NotEq (.ref a) (.ref b)) Q E s := by
  have ta : s.TypeIs (.ref a) "dict" := ⟨oa, hoa, xa.1⟩
  have tb : s.TypeIs (.ref b) "dict" := ⟨ob, hob, xb.1⟩
  refine wpAny_richCompare_same_room (op := .NotEq) ta tb PySem.F.slot_dict_ne (wpAny_call_entry PySem.F.slot_dict_ne ta PySem.F.entry_dict_ne ?_ (PySem.F.args_dict_ne_2 _ _)) hu
  show wpAny _ _ (Builtin.Dict.dictSlotArgs "__ne__" ⟨[.ref a, .ref b], []⟩ >>= _) _ _ s
  refine wpAny_bind ?_
  unfold Builtin.Dict.dictSlotArgs
  refine wpAny_bind (wpAny_notOrdered_dict ta ?_)
  show wpAny _ _ (pure (Value.ref a, Value.ref b)) _ _ s
  refine wpAny_pure ?_
  refine wpAny_bind (wpAny_isInstance (T := "dict") tb PySem.F.sub_dict_dict ?_)
  simp only [Bool.not_true, Bool.false_eq_true, if_false]
  refine wpAny_bind (wpAny_pure (wpAny_bind (wpAny_pure ?_)))
  refine wpAny_bind (same_empty ha hb hoa hda hob hdb ?_)
  refine wpAny_pure ⟨_, rfl, ?_, ?_⟩
  · exact fun x => nomatch x
  · simpa using h
/-- d != {}, d with tuples for keys -/
def rNeD0 : R2 := fun x y H Q => ∃ a b kvs, x = .ref a ∧ y = .ref b ∧ H a = some (.dT kvs) ∧ H b = some (.dT []) ∧ Q (.bl (!(kvs.length == 0))) H
theorem o_neD0 {X : Cx} (hu : X.A.units < cLine) : OpR X (compareOp .NotEq) rNeD0 := by
  intro pins s σ H x y v u Q I rx ry h
  obtain ⟨a, b, kvs, rfl, rfl, ha, hb, q⟩ := h
  cases rx
  cases ry
  obtain ⟨_, sa, xs, kt, o, es, ep, h1, h2, h3, h4, _⟩ := (show ObjOk X.prog X.w H s.heap a (.dT kvs) from I.hok a _ ha)
  obtain ⟨_, sb, ys, kt', o', es', ep', g1, g2, g3, g4, _⟩ := (show ObjOk X.prog X.w H s.heap b (.dT []) from I.hok b _ hb)
  have ly : ys = [] := by
    cases kt'
    rfl
  subst ly
  have e0 : es' = #[] := by
    apply Array.toList_inj.mp
    rw [g4]
    rfl
  subst e0
  have le : es.size = kvs.length := by
    rw [← Array.length_toList, h4, List.length_map]
    exact kt.length.symm
  refine ne_empty sa sb h1 h2 h3 g1 g2 g3 hu ?_
  rw [le]
  exact ⟨.bl _, H, I, rfl, q⟩
end Bw
set_option Elab.async false
set_option linter.all false
set_option maxRecDepth 100000
set_option maxHeartbeats 4000000
namespace Bw
open PySem PySem.Spec PyProof.Rows L2
/-! ### zip of an ascii text and a tuple -/
theorem skeep {h h' : Heap} {it : Addr} {ty : String} {x : Str} {t : Tok} {i : Nat} (st : h.IsStrIter it ty x t i) (k : ∀ o, h.get? it = some o → h'.get? it = some o) : h'.IsStrIter it ty x t i := let ⟨o, e, r⟩ := st; ⟨o, k o e, r⟩
section
variable {P : Program} {w : World} {A : Around} {E : Value → Shared → Prop} {s : Shared} {z TI TO i1 i2 l1 l2 : Addr} {U2 : Nat → Heap → Prop} {Z2 : Array Value → Heap → Prop}
theorem nextOf_str_item {it : Addr} {x : Str} {t : Tok} {i c : Nat} {Q : Value → Shared → Prop} (hit : s.heap.IsStrIter it "str_ascii_iterator" x t i) (hx : x.cps[i]? = some c)
    (hQ : ∀ h', h'.IsStrIter it "str_ascii_iterator" x t (i + 1) → Heap.SameBut it s.heap h' → Q (.str ⟨#[c]⟩ s.toks) { s with heap := h', toks := s.toks + 1 }) :
    wpAny (model P w) A (Builtin.SmallTypes.nextOf (.ref it)) Q E s := by
  obtain ⟨o, ho, hc, hd⟩ := id hit
  unfold Builtin.SmallTypes.nextOf
  refine wpAny_bind (wpAny_callSpecial?_slot (name := Str.ofString "__next__") hit.typeIs F.slot_str_ascii_iterator_next
    (wpAny_call_entry F.slot_str_ascii_iterator_next hit.typeIs F.entry_str_ascii_iterator_next ?_ (F.args_str_ascii_iterator_next_1 _)))
  show wpAny _ _ (field (.ref it) 0 >>= _) _ _ s
  refine wpAny_bind (wpAny_field ho hd (x := .str x t) rfl ?_)
  show wpAny _ _ (field (.ref it) 1 >>= _) _ _ s
  refine wpAny_bind (wpAny_field ho hd (x := .int i 0) rfl ?_)
  simp only [Int.toNat_natCast, hx]
  refine wpAny_bind (wpAny_setField ho hd (by simp) (wpAny_bind (wpAny_mkStr (wpAny_pure ⟨_, rfl, wpAny_pure (hQ _ ?_ (Heap.SameBut.update ..))⟩) (by show 1 ≤ sizeLine; decide))))
  exact ⟨_, Heap.get?_update_self _ ho (Obj.isFreed_of_fields (Obj.data_mapFields hd _)), (Obj.cls_mapFields ..).trans hc, by
    rw [Obj.data_mapFields hd]; simp [rawInt]⟩
theorem zipS_item {k ch : Nat} {X : Str} {T : Tok} {ys : Array Value} {y a b : Value} {Q : Value → Shared → Prop} (S2 : Src P w i2 l2 U2 Z2) (D : ZipApart z TI TO i1 i2 l1 l2)
    (hz : IsZip s.heap z TI TO .none) (hTI : IsPair s.heap TI (.ref i1) (.ref i2)) (hTO : IsPair s.heap TO a b) (h1 : s.heap.IsStrIter i1 "str_ascii_iterator" X T k) (h2 : U2 k s.heap) (hl2 : Z2 ys s.heap) (hx : X.cps[k]? = some ch) (hy : ys[k]? = some y)
    (hQ : ∀ h', IsZip h' z TI TO (rawInt s.heap.objs.size) → IsPair h' TO (.str ⟨#[ch]⟩ s.toks) y → h'.IsStrIter i1 "str_ascii_iterator" X T (k + 1) → U2 (k + 1) h' → IsPair h' s.heap.objs.size (.str ⟨#[ch]⟩ s.toks) y →
      (∀ c o, c ≠ z → c ≠ TO → c ≠ i1 → c ≠ i2 → s.heap.get? c = some o → h'.get? c = some o) → Q (.ref s.heap.objs.size) { s with heap := h', toks := s.toks + 1 }) :
    wpAny (model P w) A (Builtin.«zip.__next__» ⟨[.ref z], []⟩) (fun fin s' => ∃ v, fin = .done (.ret v) ∧ Q v s') E s := by
  show wpAny _ _ (field (Value.ref z) 2 >>= _) _ _ _
  refine wpAny_bind (wpAny_field hz (rfl) (x := .bool false) rfl ?_); show wpAny _ _ (field (Value.ref z) 3 >>= _) _ _ _
  refine wpAny_bind (wpAny_field hz (rfl) (x := .ref TI) rfl ?_); refine wpAny_bind (wpAny_seqItems hTI (rfl) ?_)
  show wpAny _ _ (Builtin.SmallTypes.ownedTupleIsFree (Value.ref z) >>= _) _ _ _
  refine wpAny_bind ?_; unfold Builtin.SmallTypes.ownedTupleIsFree
  refine wpAny_bind (wpAny_field hz (rfl) (x := .none) rfl (wpAny_pure ?_)); simp only [if_true]
  refine wpAny_bind (wpAny_rule ?_); refine wpAny_bind (wpAny_field hz (rfl) (x := .ref TO) rfl ?_)
  refine wpAny_bind (wpAny_setField_rec hz (by simp) fun g1 z1 b1 => ?_); replace z1 : IsZip g1 z TI TO .ellipsis := z1
  refine wpAny_bind ?_; simp only [List.zipIdx_cons, List.zipIdx_nil, List.forIn_cons, List.forIn_nil]
  refine wpAny_bind (wpAny_bind (wpAny_onRaise ?_)); show wpAny _ _ (Builtin.SmallTypes.nextOf (Value.ref i1) >>= _) _ _ _
  refine wpAny_bind (nextOf_str_item (skeep h1 fun o e => b1.extBut _ _ D.i1z e) hx fun g2 u1 b2 => wpAny_pure ?_)
  have p2 : IsPair g2 TO a b := b2.extBut _ _ D.TOi1 (b1.extBut _ _ D.TOz hTO)
  refine wpAny_bind (wpAny_seqItems p2 (rfl) ?_); refine wpAny_bind (wpAny_updateSeq_pair p2 fun g3 p3 b3 => ?_); replace p3 : IsPair g3 TO (.str ⟨#[ch]⟩ s.toks) b := p3
  refine wpAny_bind (wpAny_letGo (wpAny_pure ?_)); refine wpAny_bind (wpAny_bind (wpAny_onRaise ?_)); show wpAny _ _ (Builtin.SmallTypes.nextOf (Value.ref i2) >>= _) _ _ _
  refine wpAny_bind (S2.item _ _ _ k ys y _ (S2.keep _ _ _ h2 fun o e => b3.extBut _ _ D.TOi2.symm (b2.extBut _ _ D.i12.symm (b1.extBut _ _ D.i2z e)))
    (S2.keepS _ _ _ hl2 fun o e => b3.extBut _ _ D.l2TO (b2.extBut _ _ D.l2i1 (b1.extBut _ _ D.l2z e))) hy fun g4 u2 b4 => wpAny_pure ?_)
  have p4 : IsPair g4 TO (.str ⟨#[ch]⟩ s.toks) b := b4.extBut _ _ D.TOi2 p3
  refine wpAny_bind (wpAny_seqItems p4 (rfl) ?_); refine wpAny_bind (wpAny_updateSeq_pair p4 fun g5 p5 b5 => ?_); replace p5 : IsPair g5 TO (.str ⟨#[ch]⟩ s.toks) y := p5
  refine wpAny_bind (wpAny_letGo (wpAny_pure (wpAny_pure ?_))); refine wpAny_bind (wpAny_seqItems p5 (rfl) ?_); refine wpAny_bind (wpAny_newTuple ?_)
  have sz : g5.objs.size = s.heap.objs.size := by rw [b5.1, b4.1, b3.1, b2.1, b1.1]
  have z5 : IsZip g5 z TI TO .ellipsis := b5.extBut _ _ D.TOz.symm (b4.extBut _ _ D.i2z.symm (b3.extBut _ _ D.TOz.symm (b2.extBut _ _ D.i1z.symm z1)))
  have k5 : ∀ c o, c ≠ z → c ≠ TO → c ≠ i1 → c ≠ i2 → s.heap.get? c = some o → g5.get? c = some o := fun c o c1 c2 c3 c4 e => b5.extBut _ _ c2 (b4.extBut _ _ c4 (b3.extBut _ _ c2 (b2.extBut _ _ c3 (b1.extBut _ _ c1 e))))
  have v1 : g5.IsStrIter i1 "str_ascii_iterator" X T (k + 1) := skeep u1 fun o e => b5.extBut _ _ D.TOi1.symm (b4.extBut _ _ D.i12 (b3.extBut _ _ D.TOi1.symm e))
  have v2 : U2 (k + 1) g5 := S2.keep _ _ _ u2 fun o e => b5.extBut _ _ D.TOi2.symm e
  have zl : z < g5.objs.size := Heap.lt_size z5
  show wpAny _ _ (Builtin.SmallTypes.ownedTupleHandOut (Value.ref z) (.ref g5.objs.size) >>= _) _ _ _
  refine wpAny_bind ?_; unfold Builtin.SmallTypes.ownedTupleHandOut
  have z6 : IsZip (g5.push { cls := .type "tuple", data := .seq #[.str ⟨#[ch]⟩ s.toks, y] }) z TI TO .ellipsis := Heap.get?_push_of_some _ z5
  refine wpAny_bind (wpAny_setField_rec z6 (by simp) fun g7 z7 b7 => ?_); replace z7 : IsZip g7 z TI TO (rawInt g5.objs.size) := z7
  refine wpAny_setField_rec z7 (by simp) fun g8 z8 b8 => ?_; replace z8 : IsZip g8 z TI TO (rawInt g5.objs.size) := z8
  have up : ∀ c o, c ≠ z → g5.get? c = some o → g8.get? c = some o := fun c o c1 e => b8.extBut _ _ c1 (b7.extBut _ _ c1 (Heap.get?_push_of_some _ e))
  have p8 : IsPair g8 g5.objs.size (.str ⟨#[ch]⟩ s.toks) y := b8.extBut _ _ (Nat.ne_of_gt zl) (b7.extBut _ _ (Nat.ne_of_gt zl) (Heap.get?_push_size _ rfl))
  rw [sz] at z8 p8
  refine wpAny_pure ⟨_, rfl, ?_⟩; show Q (.ref g5.objs.size) _; rw [sz]
  exact hQ g8 z8 (up _ _ D.TOz p5) (skeep v1 fun o e => up _ o D.i1z e) (S2.keep _ _ _ v2 fun o e => up _ o D.i2z e) p8 fun c o c1 c2 c3 c4 e => up c o c1 (k5 c o c1 c2 c3 c4 e)
theorem zipS_end {k ch : Nat} {X : Str} {T : Tok} {ys : Array Value} {a b : Value} {Q : PySem.Fin → Shared → Prop} (S2 : Src P w i2 l2 U2 Z2) (hh : A.handled = none) (D : ZipApart z TI TO i1 i2 l1 l2)
    (hz : IsZip s.heap z TI TO .none) (hTI : IsPair s.heap TI (.ref i1) (.ref i2)) (hTO : IsPair s.heap TO a b) (h1 : s.heap.IsStrIter i1 "str_ascii_iterator" X T k) (h2 : U2 k s.heap) (hl2 : Z2 ys s.heap) (hx : X.cps[k]? = some ch) (hy : ys[k]? = none)
    (hE : ∀ h' e, (∀ c o, c ≠ z → c ≠ TO → c ≠ i1 → c ≠ i2 → s.heap.get? c = some o → h'.get? c = some o) → (∃ o, h'.get? e = some o ∧ o.cls = .type "StopIteration") → E (.ref e) { s with heap := h', toks := s.toks + 1 }) :
    wpAny (model P w) A (Builtin.«zip.__next__» ⟨[.ref z], []⟩) Q E s := by
  show wpAny _ _ (field (Value.ref z) 2 >>= _) _ _ _
  refine wpAny_bind (wpAny_field hz (rfl) (x := .bool false) rfl ?_); show wpAny _ _ (field (Value.ref z) 3 >>= _) _ _ _
  refine wpAny_bind (wpAny_field hz (rfl) (x := .ref TI) rfl ?_); refine wpAny_bind (wpAny_seqItems hTI (rfl) ?_)
  show wpAny _ _ (Builtin.SmallTypes.ownedTupleIsFree (Value.ref z) >>= _) _ _ _
  refine wpAny_bind ?_; unfold Builtin.SmallTypes.ownedTupleIsFree
  refine wpAny_bind (wpAny_field hz (rfl) (x := .none) rfl (wpAny_pure ?_)); simp only [if_true]
  refine wpAny_bind (wpAny_rule ?_); refine wpAny_bind (wpAny_field hz (rfl) (x := .ref TO) rfl ?_)
  refine wpAny_bind (wpAny_setField_rec hz (by simp) fun g1 z1 b1 => ?_); replace z1 : IsZip g1 z TI TO .ellipsis := z1
  refine wpAny_bind ?_; simp only [List.zipIdx_cons, List.zipIdx_nil, List.forIn_cons, List.forIn_nil]
  refine wpAny_bind (wpAny_bind (wpAny_onRaise ?_)); show wpAny _ _ (Builtin.SmallTypes.nextOf (Value.ref i1) >>= _) _ _ _
  refine wpAny_bind (nextOf_str_item (skeep h1 fun o e => b1.extBut _ _ D.i1z e) hx fun g2 u1 b2 => wpAny_pure ?_)
  have p2 : IsPair g2 TO a b := b2.extBut _ _ D.TOi1 (b1.extBut _ _ D.TOz hTO)
  refine wpAny_bind (wpAny_seqItems p2 (rfl) ?_); refine wpAny_bind (wpAny_updateSeq_pair p2 fun g3 p3 b3 => ?_)
  refine wpAny_bind (wpAny_letGo (wpAny_pure ?_)); refine wpAny_bind (wpAny_bind (wpAny_onRaise ?_)); show wpAny _ _ (Builtin.SmallTypes.nextOf (Value.ref i2) >>= _) _ _ _
  refine wpAny_bind (S2.fin _ _ _ k ys _ hh (S2.keep _ _ _ h2 fun o e => b3.extBut _ _ D.TOi2.symm (b2.extBut _ _ D.i12.symm (b1.extBut _ _ D.i2z e)))
    (S2.keepS _ _ _ hl2 fun o e => b3.extBut _ _ D.l2TO (b2.extBut _ _ D.l2i1 (b1.extBut _ _ D.l2z e))) hy fun g4 e b4 he => ?_)
  obtain ⟨oe, hoe, hce⟩ := he
  have z4 : IsZip g4 z TI TO .ellipsis := b4 _ _ D.i2z.symm (b3.extBut _ _ D.TOz.symm (b2.extBut _ _ D.i1z.symm z1))
  have ez : e ≠ z := fun q => by subst q; rw [z4] at hoe; cases hoe; simp at hce
  refine wpAny_setField_rec z4 (by simp) fun g5 _ b5 => hE g5 e (fun c o c1 c2 c3 c4 q => b5.extBut _ _ c1 (b4 _ _ c4 (b3.extBut _ _ c2 (b2.extBut _ _ c3 (b1.extBut _ _ c1 q))))) ⟨oe, b5.extBut _ _ ez hoe, hce⟩
end
/-- the signs of a text beside what a side tells; the text is the longer one -/
def ItzS (x : Str) (R2 : Hp → List V → Prop) : It :=
  ⟨fun i H => ∃ (ys : List V) (y : V) (ch : Nat), x.cps[i]? = some ch ∧ R2 H ys ∧ ys[i]? = some y,
    fun i H v H' => ∃ T ch y, v = .ref T ∧ H T = none ∧ H' = upd H T (.tup [.str ⟨#[ch]⟩, y]) ∧ x.cps[i]? = some ch ∧ ∀ ys, R2 H ys → ys[i]? = some y,
    fun i H => ∃ (ys : List V) (ch : Nat), R2 H ys ∧ x.cps[i]? = some ch ∧ ys.length ≤ i⟩
theorem turn_zipS {P : Program} {w : World} {K : PySem.W.Frag} {elts : List Expr} {kk : Nat} {tpos : Pos} {x : Str} {t : Tok} {a b z TI TO i1 i2 : Addr} {R2 : Hp → List V → Prop} {U2 : Nat → Heap → Prop} {Z2 : Array Value → Heap → Prop}
    (S2 : Src P w i2 b U2 Z2) (L2' : Side b K R2 Z2) (D : ZipApart z TI TO i1 i2 a b) :
    Turn P w K (.Tuple elts kk tpos) (ItzS x R2) [z, TI, TO, i1, i2] z (fun i h => IsZip h z TI TO .none ∧ IsPair h TI (.ref i1) (.ref i2) ∧ (∃ x y, IsPair h TO x y) ∧ h.IsStrIter i1 "str_ascii_iterator" x t i ∧ U2 i h) where
  mem := by simp
  obj := fun i h st c hc => by
    obtain ⟨hz, hTI, ⟨x, y, hTO⟩, e1, e2⟩ := st
    have e' : c = z ∨ c = TI ∨ c = TO ∨ c = i1 ∨ c = i2 := by simpa using hc
    rcases e' with rfl | rfl | rfl | rfl | rfl
    · exact ⟨_, hz, fun v q => nomatch q⟩
    · exact ⟨_, hTI, fun v q => nomatch q⟩
    · exact ⟨_, hTO, fun v q => nomatch q⟩
    · obtain ⟨o, e, _, d⟩ := e1
      exact ⟨o, e, fun v q => by rw [d] at q; cases q⟩
    · exact S2.obj _ _ e2
  keep := fun i h h' st k => by
    obtain ⟨hz, hTI, ⟨x, y, hTO⟩, h1, h2⟩ := st
    exact ⟨k z (by simp) _ hz, k TI (by simp) _ hTI, ⟨x, y, k TO (by simp) _ hTO⟩, skeep h1 (k i1 (by simp)), S2.keep _ _ _ h2 (k i2 (by simp))⟩
  item := by
    intro X hP hw hK hc i pins s σ H E I hf st hg
    obtain ⟨hz, hTI, ⟨x0, y0, hTO⟩, h1, h2⟩ := st
    obtain ⟨ys, y, ch, hx, hqy, hy⟩ := hg
    obtain ⟨its2, rv2, p2, _⟩ := L2'.get X pins σ H s ys hK I hqy
    obtain ⟨u2, hu2, ru2⟩ := rv2.get hy
    have hzl : z < s.heap.objs.size := Heap.lt_size hz
    have hT : s.TypeIs (.ref z) "zip" := ⟨_, hz, rfl⟩
    unfold pyNext
    refine wpAny_bind (wpAny_attempt (wpAny_callSpecial?_slot (name := Str.ofString "__next__") hT F.slot_zip_next (wpAny_call_entry F.slot_zip_next hT F.entry_zip_next
      (zipS_item S2 D hz hTI hTO h1 h2 p2 (y := u2) hx (by simpa using hu2) fun h' z' TO' h1' h2' hT' hk => wpAny_pure ?_) (F.args_zip_next_1 _))))
    refine ⟨_, rfl, wpAny_letOwnedTupleGo_zip (s := { s with heap := h', toks := s.toks + 1 }) z' fun h'' z'' sb => ?_⟩
    have hT2 : h''.get? s.heap.objs.size = some { cls := .type "tuple", data := .seq #[.str ⟨#[ch]⟩ s.toks, u2] } := ((sb.2 _ (Nat.ne_of_gt hzl)).trans hT')
    subst hP hw hK
    have new : ObjOk X.prog X.w (upd H s.heap.objs.size (.tup [.str ⟨#[ch]⟩, y])) h'' s.heap.objs.size (.tup [.str ⟨#[ch]⟩, y]) := ⟨by show 2 ≤ sizeLine; decide, [.str ⟨#[ch]⟩ s.toks, u2], .cons ⟨_, rfl⟩ (.cons ru2 .nil), ⟨_, hT2, rfl, _, rfl⟩⟩
    have kk' : ∀ (c : Addr) (o : Obj), c ∉ [z, TI, TO, i1, i2] → s.heap.get? c = some o → h''.get? c = some o := fun c o hb q => (sb.2 c (fun q' => hb (by simp [q']))).trans (hk c o (fun q' => hb (by simp [q'])) (fun q' => hb (by simp [q'])) (fun q' => hb (by simp [q'])) (fun q' => hb (by simp [q'])) q)
    have I1 : L2.Inv X pins σ (upd H s.heap.objs.size (.tup [.str ⟨#[ch]⟩, y])) { s with heap := h'', toks := s.toks + 1 } := I.turnedNew (t' := s.toks + 1) (ch := [z, TI, TO, i1, i2]) kk' hf (Nat.le_refl _) new
    refine ⟨.ref s.heap.objs.size, _, I1, rfl, ⟨_, ch, y, rfl, I.hok.fresh (Nat.le_refl _), rfl, hx, fun l hl => ?_⟩, ⟨z'', ?_, ⟨.str ⟨#[ch]⟩ s.toks, u2, ?_⟩, ?_, ?_⟩, fun c hcm => ?_⟩
    · rw [L2'.inj X pins σ H s l ys rfl I hl hqy]
      exact hy
    · exact (sb.2 _ D.TIz).trans ((hk _ _ D.TIz D.TITO D.TIi1 D.TIi2 hTI))
    · exact (sb.2 _ D.TOz).trans TO'
    · exact skeep h1' fun o q => (sb.2 _ D.i1z).trans q
    · exact S2.keep _ _ _ h2' fun o q => (sb.2 _ D.i2z).trans q
    · have hlt : c < s.heap.objs.size := by
        have e' : c = z ∨ c = TI ∨ c = TO ∨ c = i1 ∨ c = i2 := by simpa using hcm
        rcases e' with rfl | rfl | rfl | rfl | rfl
        · exact hzl
        · exact Heap.lt_size hTI
        · exact Heap.lt_size hTO
        · obtain ⟨_, e1, _⟩ := h1; exact Heap.lt_size e1
        · obtain ⟨_, e2, _⟩ := S2.obj _ _ h2; exact Heap.lt_size e2
      rw [upd_ne (Nat.ne_of_lt hlt)]
      exact (hf c hcm).1
  done := by
    intro X hP hw hK hc i pins s σ H E I hf st hg
    obtain ⟨hz, hTI, ⟨x0, y0, hTO⟩, h1, h2⟩ := st
    obtain ⟨ys, ch, hqy, hx, hend⟩ := hg
    obtain ⟨its2, rv2, p2, _⟩ := L2'.get X pins σ H s ys hK I hqy
    have l2 := rv2.length
    have he : its2.toArray[i]? = none := by simp; omega
    have hT : s.TypeIs (.ref z) "zip" := ⟨_, hz, rfl⟩
    unfold pyNext
    refine wpAny_bind (wpAny_attempt (wpAny_callSpecial?_slot (name := Str.ofString "__next__") hT F.slot_zip_next
      (wpAny_call_entry F.slot_zip_next hT F.entry_zip_next (zipS_end S2 (I.ok.hd hc) D hz hTI hTO h1 h2 p2 hx he fun h' e hk he => ?_) (F.args_zip_next_1 _))))
    obtain ⟨o, ho, hc'⟩ := he
    refine wpAny_bind (wpAny_isInstance (T := "StopIteration") (b := true) ⟨o, ho, hc'⟩ isSubtype_stop ?_)
    refine wpAny_pure ⟨rfl, I.turnedL (t' := s.toks + 1) (ch := [z, TI, TO, i1, i2]) (fun c o hb q => hk c o (fun q' => hb (by simp [q'])) (fun q' => hb (by simp [q'])) (fun q' => hb (by simp [q'])) (fun q' => hb (by simp [q'])) q) hf⟩
  self := fun A i s Q E st h => wpAny_pyIter_zip st.1 h
/-! ### zip of a text and a tuple made -/
abbrev zST1 (h : Heap) (x : Str) (t : Tok) : Heap := h.push { cls := .type "str_ascii_iterator", data := .fields #[.str x t, .int 0 0] }
abbrev zST2 (h : Heap) (x : Str) (t : Tok) (l2 : Addr) : Heap := (zST1 h x t).push { cls := .type "tuple_iterator", data := .fields #[.ref l2, .int 0 0] }
abbrev zST3 (h : Heap) (x : Str) (t : Tok) (l2 : Addr) : Heap := (zST2 h x t l2).push { cls := .type "tuple", data := .seq #[.ref h.objs.size, .ref (zST1 h x t).objs.size] }
abbrev zST4 (h : Heap) (x : Str) (t : Tok) (l2 : Addr) : Heap := (zST3 h x t l2).push { cls := .type "tuple", data := .seq #[.none, .none] }
abbrev zST5 (h : Heap) (x : Str) (t : Tok) (l2 : Addr) : Heap := (zST4 h x t l2).push { cls := .type "zip", data := .fields #[.none, .bool false, .bool false, .ref (zST2 h x t l2).objs.size, .ref (zST3 h x t l2).objs.size] }
theorem new_zST (x : Str) (t : Tok) (l2 : Addr) (ys : Array Value) (hx : x.cps.all (· < 128) = true) : Meets (Builtin.«zip.__new__» ⟨[.type "zip", .str x t, .ref l2], []⟩) (fun _ R s => s.heap.IsTuple l2 ys ∧ R (.ok (.ret (.ref (zST4 s.heap x t l2).objs.size))) { s with heap := zST5 s.heap x t l2 }) :=
  .of_wp fun prog w A R s h => by
    obtain ⟨hp, g, d, tk, os⟩ := s
    obtain ⟨k2, h⟩ := h
    have hsub := sub_zip
    have e2 : Heap.IsTuple (Shared.heap ⟨hp.push { cls := .type "str_ascii_iterator", data := .fields #[.str x t, .int 0 0] }, g, d, tk, os⟩) l2 ys := Heap.IsTuple.push k2 _
    wp_walk using wpAny_pyIter_ascii hx, wpAny_pyIter_tuple e2
    exact ⟨_, rfl, h⟩
section
variable {P : Program} {w : World} {A : Around} {E : Value → Shared → Prop} {s : Shared}
theorem call_zST {x : Str} {t : Tok} {l2 : Addr} {ys : Array Value} {Q : Value → Shared → Prop} (hx : x.cps.all (· < 128) = true) (k2 : s.heap.IsTuple l2 ys)
    (h : ∀ h', IsZip h' (s.heap.objs.size + 4) (s.heap.objs.size + 2) (s.heap.objs.size + 3) .none → IsPair h' (s.heap.objs.size + 2) (.ref s.heap.objs.size) (.ref (s.heap.objs.size + 1)) → IsPair h' (s.heap.objs.size + 3) .none .none →
      h'.IsStrIter s.heap.objs.size "str_ascii_iterator" x t 0 → h'.IsTupleIter (s.heap.objs.size + 1) l2 0 → (∀ c o, s.heap.get? c = some o → h'.get? c = some o) → Q (.ref (s.heap.objs.size + 4)) { s with heap := h' }) :
    wpAny (model P w) A (call (.type "zip") [.str x t, .ref l2]) Q E s := by
  refine callType_new F.called_zip (by decide) (F.typeCall_zip_2 _ _) (F.newCall_zip_2 _ _) (fun obj => F.args_object_init_3 obj _ _) F.entry_zip_new (new_zST x t l2 ys hx) ⟨k2, ?_⟩
  have z1 : (zST1 s.heap x t).objs.size = s.heap.objs.size + 1 := Heap.size_push ..
  have z2 : (zST2 s.heap x t l2).objs.size = s.heap.objs.size + 2 := by rw [Heap.size_push, z1]
  have z3 : (zST3 s.heap x t l2).objs.size = s.heap.objs.size + 3 := by rw [Heap.size_push, z2]
  have z4 : (zST4 s.heap x t l2).objs.size = s.heap.objs.size + 4 := by rw [Heap.size_push, z3]
  have g5 : (zST5 s.heap x t l2).get? (zST4 s.heap x t l2).objs.size = some _ := Heap.get?_push_size _ rfl
  have g4 : (zST5 s.heap x t l2).get? (zST3 s.heap x t l2).objs.size = some _ := Heap.get?_push_of_some _ (Heap.get?_push_size _ rfl)
  have g3 : (zST5 s.heap x t l2).get? (zST2 s.heap x t l2).objs.size = some _ := Heap.get?_push_of_some _ (Heap.get?_push_of_some _ (Heap.get?_push_size _ rfl))
  have g2 : (zST5 s.heap x t l2).get? (zST1 s.heap x t).objs.size = some _ := Heap.get?_push_of_some _ (Heap.get?_push_of_some _ (Heap.get?_push_of_some _ (Heap.get?_push_size _ rfl)))
  have g1 : (zST5 s.heap x t l2).get? s.heap.objs.size = some _ := Heap.get?_push_of_some _ (Heap.get?_push_of_some _ (Heap.get?_push_of_some _ (Heap.get?_push_of_some _ (Heap.get?_push_size _ rfl))))
  show _ ∧ _
  rw [z2, z3, z4] at g5; rw [z1, z2] at g3; rw [z3] at g4; rw [z1] at g2; rw [z4]
  exact ⟨⟨_, g5, rfl⟩, h _ g5 g3 g4 ⟨_, g1, rfl, rfl⟩ ⟨_, g2, rfl, rfl⟩ fun c o x => Heap.get?_push_of_some _ (Heap.get?_push_of_some _ (Heap.get?_push_of_some _ (Heap.get?_push_of_some _ (Heap.get?_push_of_some _ x))))⟩
end
def iZipS (K : PySem.W.Frag) (ta : TA) : TI := fun σ H R => ta σ H fun vs H1 => ∃ x b ys, vs = [.str x, .ref b] ∧ x.cps.all (· < 128) = true ∧ SqT K H1 b ys ∧ R (ItzS x (fun H xs => SqT K H b xs)) H1
theorem p_zipS {X : Cx} {K : PySem.W.Frag} {e e2 : Expr} {ta : TA} {p pos tpos : Pos} {elts : List Expr} {kk : Nat} (hg : Gl X "zip") (hm : X.mg "zip" = none) (ha : PA X [e, e2] ta) (hK : X.K = K := by rfl)
    (hs : starEach [e, e2] X.env = (false, eval e X.env) :: starEach [e2] X.env := by rfl) (hpl : (backTo pos (starEach [e2] X.env)).any (·.1) = false := by rfl) : PI X (.Tuple elts kk tpos) (.Call (.Name "zip" p) [e, e2] [] pos) (iZipS K ta) := by
  subst hK
  refine ⟨fun pins s σ H R I h => ?_⟩
  refine Call_ (ld_blt I hg hm PyProof.Rows.boot_zip (PyProof.Rows.callWith_type1 (thn (ha.run pos pins s σ H _ I h) fun us s1 ⟨vs, H1, I1, r1, q1⟩ => ?_) hs hpl))
  obtain ⟨x, b, ys, rfl, hx, hqy, q⟩ := q1
  obtain ⟨t, rfl⟩ : ∃ t, us = [.str x t, .ref b] := by
    cases r1 with
    | cons r rr =>
      cases rr with
      | cons r' rr =>
        cases rr
        obtain ⟨t, rfl⟩ := r
        cases r'
        exact ⟨t, rfl⟩
  have fresh5 : ∀ c, c ∈ [s1.heap.objs.size + 4, s1.heap.objs.size + 2, s1.heap.objs.size + 3, s1.heap.objs.size, s1.heap.objs.size + 1] → FpOk X pins H1 c := fun c hcm => by
    have hle : s1.heap.objs.size ≤ c := by
      simp only [List.mem_cons, List.not_mem_nil, or_false] at hcm
      omega
    exact I1.fpOk hle (I1.hok.fresh hle)
  obtain ⟨its2, rv2, p2, lb⟩ := (side_tup (a := b)).get X pins σ H1 s1 ys rfl I1 hqy
  refine call_zST hx p2 fun h' hz hTI hTO h1 h2 hk => wpAny_pyIter_zip hz ?_
  have I2 : L2.Inv X pins σ H1 { s1 with heap := h' } := I1.kept (t' := s1.toks) hk
  exact ⟨s1.heap.objs.size + 4, [s1.heap.objs.size + 4, s1.heap.objs.size + 2, s1.heap.objs.size + 3, s1.heap.objs.size, s1.heap.objs.size + 1], _, _, H1, rfl, I2, turn_zipS src_tup side_tup (PySem.W.ktu_apart s1.heap.objs.size b b lb lb), ⟨hz, hTI, ⟨_, _, hTO⟩, h1, h2⟩, fresh5, q⟩
theorem walk_zipS {K : PySem.W.Frag} {x : Str} {b : Addr} {ys : List V} (hn : ys.length < x.cps.size) : Walk (ItzS x (fun H zs => SqT K H b zs)) ys.length (fun H => SqT K H b ys) (fun i H v H' => ∃ T ch y, v = .ref T ∧ H T = none ∧ H' = upd H T (.tup [.str ⟨#[ch]⟩, y]) ∧ x.cps[i]? = some ch ∧ ys[i]? = some y) := by
  refine ⟨fun i _ hi q => ?_, fun _ q => ?_, fun i H v H' _ q y => ?_⟩
  · have k1 : i < x.cps.size := by omega
    exact ⟨ys, ys[i], x.cps[i], by simp [k1], q, by simp [hi]⟩
  · exact ⟨ys, x.cps[ys.length], q, by simp [hn], Nat.le_refl _⟩
  · obtain ⟨T, ch, y, k1, k2, k3, k4, k5⟩ := y
    exact ⟨T, ch, y, k1, k2, k3, k4, k5 ys q⟩
end Bw
set_option Elab.async false
set_option linter.all false
set_option maxRecDepth 100000
set_option maxHeartbeats 4000000
namespace Bw
open PySem PySem.Spec PyProof.Rows L2
section
variable {X : Cx}
theorem pe_gstr {x : Str} {pos : Pos} {y : Str} (hg : Gl X x) (hm : ∃ t, X.mg x = some (.str y t)) (hdb : (x == ("__debug__" : Str)) = false := by decide) : PE X (.Name x pos) (tC (.str y)) := by
  obtain ⟨t, hm⟩ := hm
  exact pe_glob hg hm ⟨t, rfl⟩ (hd := hdb)
def rJoin (K : PySem.W.Frag) : V → List V → Hp → VK → Prop := fun x xs H Q => ∃ a p, ∃ ys : List Str, x = .str a ∧ xs = [.ref p] ∧ (SqL K H p (ys.map V.str) ∨ SqT K H p (ys.map V.str)) ∧ (ys.map (·.length)).sum + ys.length * a.length ≤ 16777216 ∧ Q (.str (Txt.join a ys)) H
theorem p_join {K : PySem.W.Frag} {o e : Expr} {to te : TE} {apos pos : Pos} (ho : PE X o to) (he : PE X e te) (hK : X.K = K := by rfl) (hs : starEach [e] X.env = [(false, eval e X.env)] := by rfl) (hbase : attributeBase o "join" X.env (eval o X.env) = eval o X.env := by rfl) (hline : (apos.endLine == pos.line) = true := by rfl) :
    PE X (.Call (.Attribute o "join" apos) [e] [] pos) (tM1 (rJoin K) to te) := by
  subst hK
  exact pe_join ho he hs hbase hline
end
theorem join_len : ∀ ys : List Str, (Txt.join ("" : Str) ys).length ≤ (ys.map (·.length)).sum := by
  intro ys
  rw [show Txt.join ("" : Str) ys = Str.join ("" : Str) ys from StrLaws.glued_eq_join _ _]
  have h0 : (("" : Str)).length = 0 := by decide
  have : ∀ ys : List Str, (Str.join ("" : Str) ys).length ≤ (ys.map (·.length)).sum := by
    intro ys
    induction ys with
    | nil => exact Nat.zero_le _
    | cons a r ih =>
      cases r with
      | nil =>
        show a.length ≤ a.length + 0
        omega
      | cons b r =>
        show (a ++ ("" : Str) ++ Str.join ("" : Str) (b :: r)).length ≤ _
        rw [Str.length_append, Str.length_append, h0, List.map_cons, List.sum_cons]
        omega
  exact this ys
theorem sum_le {ys : List Str} {m : Nat} (h : ∀ y ∈ ys, y.length ≤ m) : (ys.map (·.length)).sum ≤ ys.length * m := by
  induction ys with
  | nil => exact Nat.zero_le _
  | cons a r ih =>
    rw [List.map_cons, List.sum_cons, List.length_cons, Nat.succ_mul]
    have := ih fun y hy => h y (List.mem_cons_of_mem _ hy)
    have := h a (List.mem_cons_self ..)
    omega
theorem joinok {sep : Str} {ys : List Str} (h : (ys.map (·.length)).sum + ys.length * sep.length ≤ 16777216) : JoinOk sep ys = true := by
  unfold JoinOk
  rw [StrLaws.joinTotal]
  unfold Builtin.Str.tooLong
  rw [decide_eq_false (by rw [sizeLine_eq]; omega)]
  rfl
theorem log_lt {n k : Nat} (hk : 0 < k) (h : n < 2 ^ k) : n.log2 < k := by
  by_cases z : n = 0
  · subst z
    exact hk
  · exact (Nat.log2_lt z).mpr h
end Bw
set_option Elab.async false
set_option linter.all false
set_option maxRecDepth 100000
namespace Bw
open PySem PySem.Spec PyProof.Rows L2
def topS (i : Nat) : Stmt := PySem.Challenge.pw_budwright_k09_texts_that_write_no_sum.main.body.getD i (.Pass ⟨0, 0, 0, 0⟩)
structure Tx (mg : Str → Option Value) : Prop where
  len : mg "len" = none
  range : mg "range" = none
  zip : mg "zip" = none
  all : mg "all" = none
  any : mg "any" = none
  sorted : mg "sorted" = none
  isinstance : mg "isinstance" = none
  bool : mg "bool" = none
  tuple : mg "tuple" = none
  list : mg "list" = none
  dict : mg "dict" = none
  str : mg "str" = none
  int : mg "int" = none
  abs : mg "abs" = none
  repr : mg "repr" = none
  reversed : mg "reversed" = none
  divmod : mg "divmod" = none
  ValueError : mg "ValueError" = none
  WIDE : ∃ t, mg "WIDE" = some (.int 400 t)
  CHUNK : ∃ t, mg "CHUNK" = some (.int 10000000000000000000000000000000000000000000000000000000000000000 t)
  CHUNK_FIGURES : ∃ t, mg "CHUNK_FIGURES" = some (.int 64 t)
  max : mg "max" = none
  COUNT_FIGURES : ∃ t, mg "COUNT_FIGURES" = some (.int 30 t)
  POWER_FIGURES : ∃ t, mg "POWER_FIGURES" = some (.int 4 t)
  FIGURES : ∃ t, mg "FIGURES" = some (.str "0123456789" t)
  LETTERS : ∃ t, mg "LETTERS" = some (.str "abcdefghijklmnopqrstuvwxyz" t)
end Bw
set_option Elab.async false
set_option linter.all false
set_option maxRecDepth 100000
set_option maxHeartbeats 0
namespace Hd
open PySem PySem.W PySem.Calls PyProof.Rows L2
abbrev Rw : OpenRow := OpenLaw.row PySem.Challenge.rw_budwright_k09_texts_that_write_no_sum
abbrev S (x : String) : PySem.Str := PySem.Str.ofString x
abbrev R (a : Nat) : Value := Value.ref a
abbrev E (P : Params) (x : String) (t : Nat) (v : Value) : DictEntry := DictEntry.mk (PyData.keyHash P (PySem.Str.ofString x)) (Value.str (PySem.Str.ofString x) t) v
abbrev T (i : Nat) : Stmt := Bw.topS i
abbrev M (i j : Nat) : Stmt := inClass (Bw.topS i) j
abbrev o2 (P : Params) : Obj := Obj.mk Value.none none (Data.dict (List.toArray [E P "type.__subclasses__.ZeroDivisionError.0" 318 (Value.int (Int.ofNat 115) 0), E P "type.__subclasses__.ZeroDivisionError.n" 319 (Value.int (Int.ofNat 1) 0), E P "type.__subclasses__.IndexError.0" 348 (Value.int (Int.ofNat 135) 0), E P "type.__subclasses__.IndexError.n" 349 (Value.int (Int.ofNat 1) 0)]) 4) (List.toArray [])
abbrev o3 (P : Params) : Obj := Obj.mk (Value.type "dict") none (Data.dict (List.toArray [E P "__name__" 165 (Value.str (S "law_budwright_k09_texts_that_write_no_sum") 717), E P "__doc__" 166 Value.none, E P "__package__" 167 Value.none, E P "__loader__" 168 (Value.builtin "__main__.__loader__#opaque"), E P "__spec__" 169 Value.none, E P "__annotations__" 170 (R 6), E P "__builtins__" 171 (R 4), E P "__file__" 173 (Value.str (S "/claim/cut.py") 172), E P "__cached__" 174 Value.none, E P "_wall" 193 (R 21), E P "BudError" 222 (R 38), E P "BadSum" 245 (R 58), E P "Great" 268 (R 77), E P "BadText" 293 (R 96), E P "NoPart" 321 (R 115), E P "NoPlace" 351 (R 135), E P "Lacking" 380 (R 155), E P "NothingLeft" 406 (R 175), E P "gathered" 414 (R 183), E P "FIGURES" 418 (Value.str (S "0123456789") 417), E P "CHUNK_FIGURES" 420 (Value.int (Int.ofNat 64) 419), E P "CHUNK" 424 (Value.int (Int.ofNat 10000000000000000000000000000000000000000000000000000000000000000) 423), E P "whole_text" 433 (R 190), E P "leading_figures" 442 (R 197), E P "read_number" 452 (R 204), E P "LETTERS" 456 (Value.str (S "abcdefghijklmnopqrstuvwxyz") 455), E P "COUNT_FIGURES" 458 (Value.int (Int.ofNat 30) 457), E P "POWER_FIGURES" 460 (Value.int (Int.ofNat 4) 459), E P "letters_text" 470 (R 211), E P "product_text" 479 (R 218), E P "sum_pieces" 489 (R 225), E P "power_end" 498 (R 232), E P "read_letters" 511 (R 239), E P "read_product" 521 (R 246), E P "signed_pieces" 534 (R 253), E P "read_products" 550 (R 260), E P "WIDE" 554 (Value.int (Int.ofNat 400) 553), E P "Sum" 706 (R 389), E P "read_sum" 716 (R 400), E P "_law_feed" 725 (R 407), E P "_law_draw" 736 (R 414), E P "_law_pick" 744 (R 421), E P "_law_word" 752 (R 428), E P "_law_great_number" 760 (R 435), E P "_law_powers" 766 (R 440), E P "_law_terms" 778 (R 447), E P "_law_book" 784 (R 452), E P "_law_told" 790 (R 457), E P "_law_written" 804 (R 464), E P "law" 810 (R 469)]) 50) (List.toArray [])
abbrev o15 (P : Params) : Obj := Obj.mk (Value.type "tuple") none (Data.seq (List.toArray []) 0) (List.toArray [])
abbrev o17 (P : Params) : Obj := Obj.mk (Value.type "tuple") none (Data.seq (List.toArray [(Value.str (S "k") 190)]) 0) (List.toArray [])
abbrev o18 (P : Params) : Obj := Obj.mk (Value.type "tuple") none (Data.seq (List.toArray []) 0) (List.toArray [])
abbrev o20 (P : Params) : Obj := Obj.mk (Value.type "code") none (Data.fields (List.toArray [(Value.str (S "_wall") 187), (Value.str (S "_wall") 188), (Value.str (S "/claim/cut.py") 189), (Value.int (Int.ofNat 1) 0), (Value.int (Int.ofNat 1) 0), (Value.int (Int.ofNat 0) 0), (Value.int (Int.ofNat 0) 0), (Value.int (Int.ofNat 3) 0), (R 15), (Value.bool true), (Value.int (Int.ofNat 181) 0), (R 16), Value.none, (R 17), (R 18), (R 19), (Value.int (Int.ofNat 191) 0), (Value.int (Int.ofNat 1) 0), (Value.str (S "/claim/cut.py") 192)])) (List.toArray [])
abbrev o21 (P : Params) : Obj := Obj.mk (Value.type "function") none (Data.func (FuncData.mk (S "_wall") (S "_wall") (defArgs (T 0)) (FuncBody.stmts (defBody (T 0))) (defScope (T 0)) 3 [] Value.none Value.none Value.none (Value.str (S "__main__") 164) none (R 20) Value.none 0)) (List.toArray [])
abbrev o22 (P : Params) : Obj := Obj.mk (Value.type "tuple") none (Data.seq (List.toArray [(Value.type "ValueError")]) 0) (List.toArray [])
abbrev o29 (P : Params) : Obj := Obj.mk (Value.type "tuple") none (Data.seq (List.toArray []) 0) (List.toArray [])
abbrev o31 (P : Params) : Obj := Obj.mk (Value.type "tuple") none (Data.seq (List.toArray [(Value.str (S "self") 211), (Value.str (S "word") 212)]) 0) (List.toArray [])
abbrev o32 (P : Params) : Obj := Obj.mk (Value.type "tuple") none (Data.seq (List.toArray []) 0) (List.toArray [])
abbrev o34 (P : Params) : Obj := Obj.mk (Value.type "code") none (Data.fields (List.toArray [(Value.str (S "__init__") 208), (Value.str (S "BudError.__init__") 209), (Value.str (S "/claim/cut.py") 210), (Value.int (Int.ofNat 7) 0), (Value.int (Int.ofNat 2) 0), (Value.int (Int.ofNat 0) 0), (Value.int (Int.ofNat 0) 0), (Value.int (Int.ofNat 3) 0), (R 29), (Value.bool true), (Value.int (Int.ofNat 181) 0), (R 30), Value.none, (R 31), (R 32), (R 33), (Value.int (Int.ofNat 213) 0), (Value.int (Int.ofNat 7) 0), (Value.str (S "/claim/cut.py") 214)])) (List.toArray [])
abbrev o35 (P : Params) : Obj := Obj.mk (Value.type "function") none (Data.func (FuncData.mk (S "__init__") (S "BudError.__init__") (defArgs (M 2 0)) (FuncBody.stmts (defBody (M 2 0))) (defScope (M 2 0)) 3 [] Value.none Value.none Value.none (Value.str (S "budwright.errors") 194) none (R 34) Value.none 0)) (List.toArray [])
abbrev o36 (P : Params) : Obj := Obj.mk (Value.type "tuple") none (Data.seq (List.toArray [(Value.str (S "word") 216)]) 0) (List.toArray [])
abbrev o37 (P : Params) : Obj := Obj.mk (Value.type "dict") none (Data.dict (List.toArray [E P "__module__" 203 (Value.str (S "budwright.errors") 194), E P "__firstlineno__" 207 (Value.int (Int.ofNat 5) 206), E P "__init__" 215 (R 35), E P "__static_attributes__" 217 (R 36), E P "__weakref__" 219 (R 39), E P "__doc__" 220 Value.none]) 3) (List.toArray [])
abbrev o38 (P : Params) : Obj := Obj.mk (Value.type "type") none (Data.cls (ClassData.mk (S "BudError") [(Value.type "ValueError")] [(R 38), (Value.type "ValueError"), (Value.type "Exception"), (Value.type "BaseException"), (Value.type "object")] 37 (S "BudError") true [] [(R 58), (R 77), (R 96)] false none false)) (List.toArray [(some (R 22)), none, (some (Value.str (S "BudError") 196)), (some (Value.str (S "BudError") 204)), (some (Value.builtin "ValueError.__new__")), (some (Value.bool true))])
abbrev o39 (P : Params) : Obj := Obj.mk (Value.type "getset_descriptor") none (Data.fields (List.toArray [(Value.str (S "__weakref__") 218), (R 38), (Value.builtin "ExceptionGroup.__weakref__"), Value.none])) (List.toArray [])
abbrev o42 (P : Params) : Obj := Obj.mk (Value.type "tuple") none (Data.seq (List.toArray [(R 38)]) 0) (List.toArray [])
abbrev o49 (P : Params) : Obj := Obj.mk (Value.type "tuple") none (Data.seq (List.toArray []) 0) (List.toArray [])
abbrev o51 (P : Params) : Obj := Obj.mk (Value.type "tuple") none (Data.seq (List.toArray [(Value.str (S "self") 238)]) 0) (List.toArray [])
abbrev o52 (P : Params) : Obj := Obj.mk (Value.type "tuple") none (Data.seq (List.toArray []) 0) (List.toArray [])
abbrev o54 (P : Params) : Obj := Obj.mk (Value.type "code") none (Data.fields (List.toArray [(Value.str (S "__init__") 235), (Value.str (S "BadSum.__init__") 236), (Value.str (S "/claim/cut.py") 237), (Value.int (Int.ofNat 12) 0), (Value.int (Int.ofNat 1) 0), (Value.int (Int.ofNat 0) 0), (Value.int (Int.ofNat 0) 0), (Value.int (Int.ofNat 3) 0), (R 49), (Value.bool true), (Value.int (Int.ofNat 181) 0), (R 50), Value.none, (R 51), (R 52), (R 53), (Value.int (Int.ofNat 239) 0), (Value.int (Int.ofNat 12) 0), (Value.str (S "/claim/cut.py") 240)])) (List.toArray [])
abbrev o55 (P : Params) : Obj := Obj.mk (Value.type "function") none (Data.func (FuncData.mk (S "__init__") (S "BadSum.__init__") (defArgs (M 3 0)) (FuncBody.stmts (defBody (M 3 0))) (defScope (M 3 0)) 3 [] Value.none Value.none Value.none (Value.str (S "budwright.errors") 194) none (R 54) Value.none 0)) (List.toArray [])
abbrev o56 (P : Params) : Obj := Obj.mk (Value.type "tuple") none (Data.seq (List.toArray []) 0) (List.toArray [])
abbrev o57 (P : Params) : Obj := Obj.mk (Value.type "dict") none (Data.dict (List.toArray [E P "__module__" 230 (Value.str (S "budwright.errors") 194), E P "__firstlineno__" 234 (Value.int (Int.ofNat 10) 233), E P "__init__" 241 (R 55), E P "__static_attributes__" 242 (R 56), E P "__doc__" 243 Value.none]) 2) (List.toArray [])
abbrev o58 (P : Params) : Obj := Obj.mk (Value.type "type") none (Data.cls (ClassData.mk (S "BadSum") [(R 38)] [(R 58), (R 38), (Value.type "ValueError"), (Value.type "Exception"), (Value.type "BaseException"), (Value.type "object")] 57 (S "BadSum") true [] [] false none false)) (List.toArray [(some (R 42)), none, (some (Value.str (S "BadSum") 223)), (some (Value.str (S "BadSum") 231)), (some (Value.builtin "ValueError.__new__")), (some (Value.bool true))])
abbrev o61 (P : Params) : Obj := Obj.mk (Value.type "tuple") none (Data.seq (List.toArray [(R 38)]) 0) (List.toArray [])
abbrev o68 (P : Params) : Obj := Obj.mk (Value.type "tuple") none (Data.seq (List.toArray []) 0) (List.toArray [])
abbrev o70 (P : Params) : Obj := Obj.mk (Value.type "tuple") none (Data.seq (List.toArray [(Value.str (S "self") 261)]) 0) (List.toArray [])
abbrev o71 (P : Params) : Obj := Obj.mk (Value.type "tuple") none (Data.seq (List.toArray []) 0) (List.toArray [])
abbrev o73 (P : Params) : Obj := Obj.mk (Value.type "code") none (Data.fields (List.toArray [(Value.str (S "__init__") 258), (Value.str (S "Great.__init__") 259), (Value.str (S "/claim/cut.py") 260), (Value.int (Int.ofNat 16) 0), (Value.int (Int.ofNat 1) 0), (Value.int (Int.ofNat 0) 0), (Value.int (Int.ofNat 0) 0), (Value.int (Int.ofNat 3) 0), (R 68), (Value.bool true), (Value.int (Int.ofNat 181) 0), (R 69), Value.none, (R 70), (R 71), (R 72), (Value.int (Int.ofNat 262) 0), (Value.int (Int.ofNat 16) 0), (Value.str (S "/claim/cut.py") 263)])) (List.toArray [])
abbrev o74 (P : Params) : Obj := Obj.mk (Value.type "function") none (Data.func (FuncData.mk (S "__init__") (S "Great.__init__") (defArgs (M 4 0)) (FuncBody.stmts (defBody (M 4 0))) (defScope (M 4 0)) 3 [] Value.none Value.none Value.none (Value.str (S "budwright.errors") 194) none (R 73) Value.none 0)) (List.toArray [])
abbrev o75 (P : Params) : Obj := Obj.mk (Value.type "tuple") none (Data.seq (List.toArray []) 0) (List.toArray [])
abbrev o76 (P : Params) : Obj := Obj.mk (Value.type "dict") none (Data.dict (List.toArray [E P "__module__" 253 (Value.str (S "budwright.errors") 194), E P "__firstlineno__" 257 (Value.int (Int.ofNat 14) 256), E P "__init__" 264 (R 74), E P "__static_attributes__" 265 (R 75), E P "__doc__" 266 Value.none]) 2) (List.toArray [])
abbrev o77 (P : Params) : Obj := Obj.mk (Value.type "type") none (Data.cls (ClassData.mk (S "Great") [(R 38)] [(R 77), (R 38), (Value.type "ValueError"), (Value.type "Exception"), (Value.type "BaseException"), (Value.type "object")] 76 (S "Great") true [] [] false none false)) (List.toArray [(some (R 61)), none, (some (Value.str (S "Great") 246)), (some (Value.str (S "Great") 254)), (some (Value.builtin "ValueError.__new__")), (some (Value.bool true))])
abbrev o80 (P : Params) : Obj := Obj.mk (Value.type "tuple") none (Data.seq (List.toArray [(R 38)]) 0) (List.toArray [])
abbrev o87 (P : Params) : Obj := Obj.mk (Value.type "tuple") none (Data.seq (List.toArray []) 0) (List.toArray [])
abbrev o89 (P : Params) : Obj := Obj.mk (Value.type "tuple") none (Data.seq (List.toArray [(Value.str (S "self") 284), (Value.str (S "at") 285)]) 0) (List.toArray [])
abbrev o90 (P : Params) : Obj := Obj.mk (Value.type "tuple") none (Data.seq (List.toArray []) 0) (List.toArray [])
abbrev o92 (P : Params) : Obj := Obj.mk (Value.type "code") none (Data.fields (List.toArray [(Value.str (S "__init__") 281), (Value.str (S "BadText.__init__") 282), (Value.str (S "/claim/cut.py") 283), (Value.int (Int.ofNat 20) 0), (Value.int (Int.ofNat 2) 0), (Value.int (Int.ofNat 0) 0), (Value.int (Int.ofNat 0) 0), (Value.int (Int.ofNat 3) 0), (R 87), (Value.bool true), (Value.int (Int.ofNat 181) 0), (R 88), Value.none, (R 89), (R 90), (R 91), (Value.int (Int.ofNat 286) 0), (Value.int (Int.ofNat 20) 0), (Value.str (S "/claim/cut.py") 287)])) (List.toArray [])
abbrev o93 (P : Params) : Obj := Obj.mk (Value.type "function") none (Data.func (FuncData.mk (S "__init__") (S "BadText.__init__") (defArgs (M 5 0)) (FuncBody.stmts (defBody (M 5 0))) (defScope (M 5 0)) 3 [] Value.none Value.none Value.none (Value.str (S "budwright.errors") 194) none (R 92) Value.none 0)) (List.toArray [])
abbrev o94 (P : Params) : Obj := Obj.mk (Value.type "tuple") none (Data.seq (List.toArray [(Value.str (S "at") 289)]) 0) (List.toArray [])
abbrev o95 (P : Params) : Obj := Obj.mk (Value.type "dict") none (Data.dict (List.toArray [E P "__module__" 276 (Value.str (S "budwright.errors") 194), E P "__firstlineno__" 280 (Value.int (Int.ofNat 18) 279), E P "__init__" 288 (R 93), E P "__static_attributes__" 290 (R 94), E P "__doc__" 291 Value.none]) 2) (List.toArray [])
abbrev o96 (P : Params) : Obj := Obj.mk (Value.type "type") none (Data.cls (ClassData.mk (S "BadText") [(R 38)] [(R 96), (R 38), (Value.type "ValueError"), (Value.type "Exception"), (Value.type "BaseException"), (Value.type "object")] 95 (S "BadText") true [] [] false none false)) (List.toArray [(some (R 80)), none, (some (Value.str (S "BadText") 269)), (some (Value.str (S "BadText") 277)), (some (Value.builtin "ValueError.__new__")), (some (Value.bool true))])
abbrev o99 (P : Params) : Obj := Obj.mk (Value.type "tuple") none (Data.seq (List.toArray [(Value.type "ZeroDivisionError")]) 0) (List.toArray [])
abbrev o106 (P : Params) : Obj := Obj.mk (Value.type "tuple") none (Data.seq (List.toArray []) 0) (List.toArray [])
abbrev o108 (P : Params) : Obj := Obj.mk (Value.type "tuple") none (Data.seq (List.toArray [(Value.str (S "self") 309)]) 0) (List.toArray [])
abbrev o109 (P : Params) : Obj := Obj.mk (Value.type "tuple") none (Data.seq (List.toArray []) 0) (List.toArray [])
abbrev o111 (P : Params) : Obj := Obj.mk (Value.type "code") none (Data.fields (List.toArray [(Value.str (S "__init__") 306), (Value.str (S "NoPart.__init__") 307), (Value.str (S "/claim/cut.py") 308), (Value.int (Int.ofNat 25) 0), (Value.int (Int.ofNat 1) 0), (Value.int (Int.ofNat 0) 0), (Value.int (Int.ofNat 0) 0), (Value.int (Int.ofNat 3) 0), (R 106), (Value.bool true), (Value.int (Int.ofNat 181) 0), (R 107), Value.none, (R 108), (R 109), (R 110), (Value.int (Int.ofNat 310) 0), (Value.int (Int.ofNat 25) 0), (Value.str (S "/claim/cut.py") 311)])) (List.toArray [])
abbrev o112 (P : Params) : Obj := Obj.mk (Value.type "function") none (Data.func (FuncData.mk (S "__init__") (S "NoPart.__init__") (defArgs (M 6 0)) (FuncBody.stmts (defBody (M 6 0))) (defScope (M 6 0)) 3 [] Value.none Value.none Value.none (Value.str (S "budwright.errors") 194) none (R 111) Value.none 0)) (List.toArray [])
abbrev o113 (P : Params) : Obj := Obj.mk (Value.type "tuple") none (Data.seq (List.toArray [(Value.str (S "word") 313)]) 0) (List.toArray [])
abbrev o114 (P : Params) : Obj := Obj.mk (Value.type "dict") none (Data.dict (List.toArray [E P "__module__" 301 (Value.str (S "budwright.errors") 194), E P "__firstlineno__" 305 (Value.int (Int.ofNat 23) 304), E P "__init__" 312 (R 112), E P "__static_attributes__" 314 (R 113), E P "__weakref__" 316 (R 116), E P "__doc__" 317 Value.none]) 3) (List.toArray [])
abbrev o115 (P : Params) : Obj := Obj.mk (Value.type "type") none (Data.cls (ClassData.mk (S "NoPart") [(Value.type "ZeroDivisionError")] [(R 115), (Value.type "ZeroDivisionError"), (Value.type "ArithmeticError"), (Value.type "Exception"), (Value.type "BaseException"), (Value.type "object")] 114 (S "NoPart") true [] [] false none false)) (List.toArray [(some (R 99)), none, (some (Value.str (S "NoPart") 294)), (some (Value.str (S "NoPart") 302)), (some (Value.builtin "ZeroDivisionError.__new__")), (some (Value.bool true))])
abbrev o116 (P : Params) : Obj := Obj.mk (Value.type "getset_descriptor") none (Data.fields (List.toArray [(Value.str (S "__weakref__") 315), (R 115), (Value.builtin "ExceptionGroup.__weakref__"), Value.none])) (List.toArray [])
abbrev o119 (P : Params) : Obj := Obj.mk (Value.type "tuple") none (Data.seq (List.toArray [(Value.type "IndexError")]) 0) (List.toArray [])
abbrev o126 (P : Params) : Obj := Obj.mk (Value.type "tuple") none (Data.seq (List.toArray []) 0) (List.toArray [])
abbrev o128 (P : Params) : Obj := Obj.mk (Value.type "tuple") none (Data.seq (List.toArray [(Value.str (S "self") 337), (Value.str (S "place") 338)]) 0) (List.toArray [])
abbrev o129 (P : Params) : Obj := Obj.mk (Value.type "tuple") none (Data.seq (List.toArray []) 0) (List.toArray [])
abbrev o131 (P : Params) : Obj := Obj.mk (Value.type "code") none (Data.fields (List.toArray [(Value.str (S "__init__") 334), (Value.str (S "NoPlace.__init__") 335), (Value.str (S "/claim/cut.py") 336), (Value.int (Int.ofNat 30) 0), (Value.int (Int.ofNat 2) 0), (Value.int (Int.ofNat 0) 0), (Value.int (Int.ofNat 0) 0), (Value.int (Int.ofNat 3) 0), (R 126), (Value.bool true), (Value.int (Int.ofNat 181) 0), (R 127), Value.none, (R 128), (R 129), (R 130), (Value.int (Int.ofNat 339) 0), (Value.int (Int.ofNat 30) 0), (Value.str (S "/claim/cut.py") 340)])) (List.toArray [])
abbrev o132 (P : Params) : Obj := Obj.mk (Value.type "function") none (Data.func (FuncData.mk (S "__init__") (S "NoPlace.__init__") (defArgs (M 7 0)) (FuncBody.stmts (defBody (M 7 0))) (defScope (M 7 0)) 3 [] Value.none Value.none Value.none (Value.str (S "budwright.errors") 194) none (R 131) Value.none 0)) (List.toArray [])
abbrev o133 (P : Params) : Obj := Obj.mk (Value.type "tuple") none (Data.seq (List.toArray [(Value.str (S "place") 342), (Value.str (S "word") 343)]) 0) (List.toArray [])
abbrev o134 (P : Params) : Obj := Obj.mk (Value.type "dict") none (Data.dict (List.toArray [E P "__module__" 329 (Value.str (S "budwright.errors") 194), E P "__firstlineno__" 333 (Value.int (Int.ofNat 28) 332), E P "__init__" 341 (R 132), E P "__static_attributes__" 344 (R 133), E P "__weakref__" 346 (R 136), E P "__doc__" 347 Value.none]) 3) (List.toArray [])
abbrev o135 (P : Params) : Obj := Obj.mk (Value.type "type") none (Data.cls (ClassData.mk (S "NoPlace") [(Value.type "IndexError")] [(R 135), (Value.type "IndexError"), (Value.type "LookupError"), (Value.type "Exception"), (Value.type "BaseException"), (Value.type "object")] 134 (S "NoPlace") true [] [] false none false)) (List.toArray [(some (R 119)), none, (some (Value.str (S "NoPlace") 322)), (some (Value.str (S "NoPlace") 330)), (some (Value.builtin "IndexError.__new__")), (some (Value.bool true))])
abbrev o136 (P : Params) : Obj := Obj.mk (Value.type "getset_descriptor") none (Data.fields (List.toArray [(Value.str (S "__weakref__") 345), (R 135), (Value.builtin "ExceptionGroup.__weakref__"), Value.none])) (List.toArray [])
abbrev o139 (P : Params) : Obj := Obj.mk (Value.type "tuple") none (Data.seq (List.toArray [(Value.type "LookupError")]) 0) (List.toArray [])
abbrev o146 (P : Params) : Obj := Obj.mk (Value.type "tuple") none (Data.seq (List.toArray []) 0) (List.toArray [])
abbrev o148 (P : Params) : Obj := Obj.mk (Value.type "tuple") none (Data.seq (List.toArray [(Value.str (S "self") 367), (Value.str (S "word") 368), (Value.str (S "name") 369)]) 0) (List.toArray [])
abbrev o149 (P : Params) : Obj := Obj.mk (Value.type "tuple") none (Data.seq (List.toArray []) 0) (List.toArray [])
abbrev o151 (P : Params) : Obj := Obj.mk (Value.type "code") none (Data.fields (List.toArray [(Value.str (S "__init__") 364), (Value.str (S "Lacking.__init__") 365), (Value.str (S "/claim/cut.py") 366), (Value.int (Int.ofNat 36) 0), (Value.int (Int.ofNat 3) 0), (Value.int (Int.ofNat 0) 0), (Value.int (Int.ofNat 0) 0), (Value.int (Int.ofNat 3) 0), (R 146), (Value.bool true), (Value.int (Int.ofNat 181) 0), (R 147), Value.none, (R 148), (R 149), (R 150), (Value.int (Int.ofNat 370) 0), (Value.int (Int.ofNat 36) 0), (Value.str (S "/claim/cut.py") 371)])) (List.toArray [])
abbrev o152 (P : Params) : Obj := Obj.mk (Value.type "function") none (Data.func (FuncData.mk (S "__init__") (S "Lacking.__init__") (defArgs (M 8 0)) (FuncBody.stmts (defBody (M 8 0))) (defScope (M 8 0)) 3 [] Value.none Value.none Value.none (Value.str (S "budwright.errors") 194) none (R 151) Value.none 0)) (List.toArray [])
abbrev o153 (P : Params) : Obj := Obj.mk (Value.type "tuple") none (Data.seq (List.toArray [(Value.str (S "name") 373), (Value.str (S "word") 374)]) 0) (List.toArray [])
abbrev o154 (P : Params) : Obj := Obj.mk (Value.type "dict") none (Data.dict (List.toArray [E P "__module__" 359 (Value.str (S "budwright.errors") 194), E P "__firstlineno__" 363 (Value.int (Int.ofNat 34) 362), E P "__init__" 372 (R 152), E P "__static_attributes__" 375 (R 153), E P "__weakref__" 377 (R 156), E P "__doc__" 378 Value.none]) 3) (List.toArray [])
abbrev o155 (P : Params) : Obj := Obj.mk (Value.type "type") none (Data.cls (ClassData.mk (S "Lacking") [(Value.type "LookupError")] [(R 155), (Value.type "LookupError"), (Value.type "Exception"), (Value.type "BaseException"), (Value.type "object")] 154 (S "Lacking") true [] [] false none false)) (List.toArray [(some (R 139)), none, (some (Value.str (S "Lacking") 352)), (some (Value.str (S "Lacking") 360)), (some (Value.builtin "LookupError.__new__")), (some (Value.bool true))])
abbrev o156 (P : Params) : Obj := Obj.mk (Value.type "getset_descriptor") none (Data.fields (List.toArray [(Value.str (S "__weakref__") 376), (R 155), (Value.builtin "ExceptionGroup.__weakref__"), Value.none])) (List.toArray [])
abbrev o159 (P : Params) : Obj := Obj.mk (Value.type "tuple") none (Data.seq (List.toArray [(Value.type "RuntimeError")]) 0) (List.toArray [])
abbrev o166 (P : Params) : Obj := Obj.mk (Value.type "tuple") none (Data.seq (List.toArray []) 0) (List.toArray [])
abbrev o168 (P : Params) : Obj := Obj.mk (Value.type "tuple") none (Data.seq (List.toArray [(Value.str (S "self") 396)]) 0) (List.toArray [])
abbrev o169 (P : Params) : Obj := Obj.mk (Value.type "tuple") none (Data.seq (List.toArray []) 0) (List.toArray [])
abbrev o171 (P : Params) : Obj := Obj.mk (Value.type "code") none (Data.fields (List.toArray [(Value.str (S "__init__") 393), (Value.str (S "NothingLeft.__init__") 394), (Value.str (S "/claim/cut.py") 395), (Value.int (Int.ofNat 42) 0), (Value.int (Int.ofNat 1) 0), (Value.int (Int.ofNat 0) 0), (Value.int (Int.ofNat 0) 0), (Value.int (Int.ofNat 3) 0), (R 166), (Value.bool true), (Value.int (Int.ofNat 181) 0), (R 167), Value.none, (R 168), (R 169), (R 170), (Value.int (Int.ofNat 397) 0), (Value.int (Int.ofNat 42) 0), (Value.str (S "/claim/cut.py") 398)])) (List.toArray [])
abbrev o172 (P : Params) : Obj := Obj.mk (Value.type "function") none (Data.func (FuncData.mk (S "__init__") (S "NothingLeft.__init__") (defArgs (M 9 0)) (FuncBody.stmts (defBody (M 9 0))) (defScope (M 9 0)) 3 [] Value.none Value.none Value.none (Value.str (S "budwright.errors") 194) none (R 171) Value.none 0)) (List.toArray [])
abbrev o173 (P : Params) : Obj := Obj.mk (Value.type "tuple") none (Data.seq (List.toArray [(Value.str (S "word") 400)]) 0) (List.toArray [])
abbrev o174 (P : Params) : Obj := Obj.mk (Value.type "dict") none (Data.dict (List.toArray [E P "__module__" 388 (Value.str (S "budwright.errors") 194), E P "__firstlineno__" 392 (Value.int (Int.ofNat 40) 391), E P "__init__" 399 (R 172), E P "__static_attributes__" 401 (R 173), E P "__weakref__" 403 (R 176), E P "__doc__" 404 Value.none]) 3) (List.toArray [])
abbrev o175 (P : Params) : Obj := Obj.mk (Value.type "type") none (Data.cls (ClassData.mk (S "NothingLeft") [(Value.type "RuntimeError")] [(R 175), (Value.type "RuntimeError"), (Value.type "Exception"), (Value.type "BaseException"), (Value.type "object")] 174 (S "NothingLeft") true [] [] false none false)) (List.toArray [(some (R 159)), none, (some (Value.str (S "NothingLeft") 381)), (some (Value.str (S "NothingLeft") 389)), (some (Value.builtin "RuntimeError.__new__")), (some (Value.bool true))])
abbrev o176 (P : Params) : Obj := Obj.mk (Value.type "getset_descriptor") none (Data.fields (List.toArray [(Value.str (S "__weakref__") 402), (R 175), (Value.builtin "ExceptionGroup.__weakref__"), Value.none])) (List.toArray [])
abbrev o179 (P : Params) : Obj := Obj.mk (Value.type "tuple") none (Data.seq (List.toArray []) 0) (List.toArray [])
abbrev o182 (P : Params) : Obj := Obj.mk (Value.type "code") none (Data.fields (List.toArray [(Value.str (S "gathered") 409), (Value.str (S "gathered") 410), (Value.str (S "/claim/cut.py") 411), (Value.int (Int.ofNat 46) 0), (Value.int (Int.ofNat 1) 0), (Value.int (Int.ofNat 0) 0), (Value.int (Int.ofNat 0) 0), (Value.int (Int.ofNat 3) 0), (R 179), (Value.bool true), (Value.int (Int.ofNat 181) 0), (R 180), Value.none, Value.none, Value.none, (R 181), (Value.int (Int.ofNat 412) 0), (Value.int (Int.ofNat 46) 0), (Value.str (S "/claim/cut.py") 413)])) (List.toArray [])
abbrev o183 (P : Params) : Obj := Obj.mk (Value.type "function") none (Data.func (FuncData.mk (S "gathered") (S "gathered") (defArgs (T 11)) (FuncBody.stmts (defBody (T 11))) (defScope (T 11)) 3 [] Value.none Value.none Value.none (Value.str (S "budwright.products") 407) none (R 182) Value.none 0)) (List.toArray [])
abbrev o184 (P : Params) : Obj := Obj.mk (Value.type "tuple") none (Data.seq (List.toArray []) 0) (List.toArray [])
abbrev o186 (P : Params) : Obj := Obj.mk (Value.type "tuple") none (Data.seq (List.toArray [(Value.str (S "number") 428), (Value.str (S "pieces") 429), (Value.str (S "low") 430)]) 0) (List.toArray [])
abbrev o187 (P : Params) : Obj := Obj.mk (Value.type "tuple") none (Data.seq (List.toArray []) 0) (List.toArray [])
abbrev o189 (P : Params) : Obj := Obj.mk (Value.type "code") none (Data.fields (List.toArray [(Value.str (S "whole_text") 425), (Value.str (S "whole_text") 426), (Value.str (S "/claim/cut.py") 427), (Value.int (Int.ofNat 56) 0), (Value.int (Int.ofNat 1) 0), (Value.int (Int.ofNat 0) 0), (Value.int (Int.ofNat 0) 0), (Value.int (Int.ofNat 3) 0), (R 184), (Value.bool true), (Value.int (Int.ofNat 181) 0), (R 185), Value.none, (R 186), (R 187), (R 188), (Value.int (Int.ofNat 431) 0), (Value.int (Int.ofNat 56) 0), (Value.str (S "/claim/cut.py") 432)])) (List.toArray [])
abbrev o190 (P : Params) : Obj := Obj.mk (Value.type "function") none (Data.func (FuncData.mk (S "whole_text") (S "whole_text") (defArgs (T 16)) (FuncBody.stmts (defBody (T 16))) (defScope (T 16)) 3 [] Value.none Value.none Value.none (Value.str (S "budwright.figures") 415) none (R 189) Value.none 0)) (List.toArray [])
abbrev o191 (P : Params) : Obj := Obj.mk (Value.type "tuple") none (Data.seq (List.toArray []) 0) (List.toArray [])
abbrev o193 (P : Params) : Obj := Obj.mk (Value.type "tuple") none (Data.seq (List.toArray [(Value.str (S "text") 437), (Value.str (S "at") 438), (Value.str (S "end") 439)]) 0) (List.toArray [])
abbrev o194 (P : Params) : Obj := Obj.mk (Value.type "tuple") none (Data.seq (List.toArray []) 0) (List.toArray [])
abbrev o196 (P : Params) : Obj := Obj.mk (Value.type "code") none (Data.fields (List.toArray [(Value.str (S "leading_figures") 434), (Value.str (S "leading_figures") 435), (Value.str (S "/claim/cut.py") 436), (Value.int (Int.ofNat 63) 0), (Value.int (Int.ofNat 2) 0), (Value.int (Int.ofNat 0) 0), (Value.int (Int.ofNat 0) 0), (Value.int (Int.ofNat 3) 0), (R 191), (Value.bool true), (Value.int (Int.ofNat 181) 0), (R 192), Value.none, (R 193), (R 194), (R 195), (Value.int (Int.ofNat 440) 0), (Value.int (Int.ofNat 63) 0), (Value.str (S "/claim/cut.py") 441)])) (List.toArray [])
abbrev o197 (P : Params) : Obj := Obj.mk (Value.type "function") none (Data.func (FuncData.mk (S "leading_figures") (S "leading_figures") (defArgs (T 17)) (FuncBody.stmts (defBody (T 17))) (defScope (T 17)) 3 [] Value.none Value.none Value.none (Value.str (S "budwright.figures") 415) none (R 196) Value.none 0)) (List.toArray [])
abbrev o198 (P : Params) : Obj := Obj.mk (Value.type "tuple") none (Data.seq (List.toArray []) 0) (List.toArray [])
abbrev o200 (P : Params) : Obj := Obj.mk (Value.type "tuple") none (Data.seq (List.toArray [(Value.str (S "text") 446), (Value.str (S "most") 447), (Value.str (S "figures") 448), (Value.str (S "number") 449)]) 0) (List.toArray [])
abbrev o201 (P : Params) : Obj := Obj.mk (Value.type "tuple") none (Data.seq (List.toArray []) 0) (List.toArray [])
abbrev o203 (P : Params) : Obj := Obj.mk (Value.type "code") none (Data.fields (List.toArray [(Value.str (S "read_number") 443), (Value.str (S "read_number") 444), (Value.str (S "/claim/cut.py") 445), (Value.int (Int.ofNat 68) 0), (Value.int (Int.ofNat 2) 0), (Value.int (Int.ofNat 0) 0), (Value.int (Int.ofNat 0) 0), (Value.int (Int.ofNat 3) 0), (R 198), (Value.bool true), (Value.int (Int.ofNat 181) 0), (R 199), Value.none, (R 200), (R 201), (R 202), (Value.int (Int.ofNat 450) 0), (Value.int (Int.ofNat 68) 0), (Value.str (S "/claim/cut.py") 451)])) (List.toArray [])
abbrev o204 (P : Params) : Obj := Obj.mk (Value.type "function") none (Data.func (FuncData.mk (S "read_number") (S "read_number") (defArgs (T 18)) (FuncBody.stmts (defBody (T 18))) (defScope (T 18)) 3 [] Value.none Value.none Value.none (Value.str (S "budwright.figures") 415) none (R 203) Value.none 0)) (List.toArray [])
abbrev o205 (P : Params) : Obj := Obj.mk (Value.type "tuple") none (Data.seq (List.toArray []) 0) (List.toArray [])
abbrev o207 (P : Params) : Obj := Obj.mk (Value.type "tuple") none (Data.seq (List.toArray [(Value.str (S "powers") 464), (Value.str (S "pieces") 465), (Value.str (S "letter") 466), (Value.str (S "power") 467)]) 0) (List.toArray [])
abbrev o208 (P : Params) : Obj := Obj.mk (Value.type "tuple") none (Data.seq (List.toArray []) 0) (List.toArray [])
abbrev o210 (P : Params) : Obj := Obj.mk (Value.type "code") none (Data.fields (List.toArray [(Value.str (S "letters_text") 461), (Value.str (S "letters_text") 462), (Value.str (S "/claim/cut.py") 463), (Value.int (Int.ofNat 78) 0), (Value.int (Int.ofNat 1) 0), (Value.int (Int.ofNat 0) 0), (Value.int (Int.ofNat 0) 0), (Value.int (Int.ofNat 3) 0), (R 205), (Value.bool true), (Value.int (Int.ofNat 181) 0), (R 206), Value.none, (R 207), (R 208), (R 209), (Value.int (Int.ofNat 468) 0), (Value.int (Int.ofNat 78) 0), (Value.str (S "/claim/cut.py") 469)])) (List.toArray [])
abbrev o211 (P : Params) : Obj := Obj.mk (Value.type "function") none (Data.func (FuncData.mk (S "letters_text") (S "letters_text") (defArgs (T 23)) (FuncBody.stmts (defBody (T 23))) (defScope (T 23)) 3 [] Value.none Value.none Value.none (Value.str (S "budwright.sumtexts") 453) none (R 210) Value.none 0)) (List.toArray [])
abbrev o212 (P : Params) : Obj := Obj.mk (Value.type "tuple") none (Data.seq (List.toArray []) 0) (List.toArray [])
abbrev o214 (P : Params) : Obj := Obj.mk (Value.type "tuple") none (Data.seq (List.toArray [(Value.str (S "powers") 474), (Value.str (S "count") 475), (Value.str (S "letters") 476)]) 0) (List.toArray [])
abbrev o215 (P : Params) : Obj := Obj.mk (Value.type "tuple") none (Data.seq (List.toArray []) 0) (List.toArray [])
abbrev o217 (P : Params) : Obj := Obj.mk (Value.type "code") none (Data.fields (List.toArray [(Value.str (S "product_text") 471), (Value.str (S "product_text") 472), (Value.str (S "/claim/cut.py") 473), (Value.int (Int.ofNat 86) 0), (Value.int (Int.ofNat 2) 0), (Value.int (Int.ofNat 0) 0), (Value.int (Int.ofNat 0) 0), (Value.int (Int.ofNat 3) 0), (R 212), (Value.bool true), (Value.int (Int.ofNat 181) 0), (R 213), Value.none, (R 214), (R 215), (R 216), (Value.int (Int.ofNat 477) 0), (Value.int (Int.ofNat 86) 0), (Value.str (S "/claim/cut.py") 478)])) (List.toArray [])
abbrev o218 (P : Params) : Obj := Obj.mk (Value.type "function") none (Data.func (FuncData.mk (S "product_text") (S "product_text") (defArgs (T 24)) (FuncBody.stmts (defBody (T 24))) (defScope (T 24)) 3 [] Value.none Value.none Value.none (Value.str (S "budwright.sumtexts") 453) none (R 217) Value.none 0)) (List.toArray [])
abbrev o219 (P : Params) : Obj := Obj.mk (Value.type "tuple") none (Data.seq (List.toArray []) 0) (List.toArray [])
abbrev o221 (P : Params) : Obj := Obj.mk (Value.type "tuple") none (Data.seq (List.toArray [(Value.str (S "products") 483), (Value.str (S "pieces") 484), (Value.str (S "powers") 485), (Value.str (S "count") 486)]) 0) (List.toArray [])
abbrev o222 (P : Params) : Obj := Obj.mk (Value.type "tuple") none (Data.seq (List.toArray []) 0) (List.toArray [])
abbrev o224 (P : Params) : Obj := Obj.mk (Value.type "code") none (Data.fields (List.toArray [(Value.str (S "sum_pieces") 480), (Value.str (S "sum_pieces") 481), (Value.str (S "/claim/cut.py") 482), (Value.int (Int.ofNat 91) 0), (Value.int (Int.ofNat 1) 0), (Value.int (Int.ofNat 0) 0), (Value.int (Int.ofNat 0) 0), (Value.int (Int.ofNat 3) 0), (R 219), (Value.bool true), (Value.int (Int.ofNat 181) 0), (R 220), Value.none, (R 221), (R 222), (R 223), (Value.int (Int.ofNat 487) 0), (Value.int (Int.ofNat 91) 0), (Value.str (S "/claim/cut.py") 488)])) (List.toArray [])
abbrev o225 (P : Params) : Obj := Obj.mk (Value.type "function") none (Data.func (FuncData.mk (S "sum_pieces") (S "sum_pieces") (defArgs (T 25)) (FuncBody.stmts (defBody (T 25))) (defScope (T 25)) 3 [] Value.none Value.none Value.none (Value.str (S "budwright.sumtexts") 453) none (R 224) Value.none 0)) (List.toArray [])
abbrev o226 (P : Params) : Obj := Obj.mk (Value.type "tuple") none (Data.seq (List.toArray []) 0) (List.toArray [])
abbrev o228 (P : Params) : Obj := Obj.mk (Value.type "tuple") none (Data.seq (List.toArray [(Value.str (S "text") 493), (Value.str (S "at") 494), (Value.str (S "begin") 495)]) 0) (List.toArray [])
abbrev o229 (P : Params) : Obj := Obj.mk (Value.type "tuple") none (Data.seq (List.toArray []) 0) (List.toArray [])
abbrev o231 (P : Params) : Obj := Obj.mk (Value.type "code") none (Data.fields (List.toArray [(Value.str (S "power_end") 490), (Value.str (S "power_end") 491), (Value.str (S "/claim/cut.py") 492), (Value.int (Int.ofNat 102) 0), (Value.int (Int.ofNat 2) 0), (Value.int (Int.ofNat 0) 0), (Value.int (Int.ofNat 0) 0), (Value.int (Int.ofNat 3) 0), (R 226), (Value.bool true), (Value.int (Int.ofNat 181) 0), (R 227), Value.none, (R 228), (R 229), (R 230), (Value.int (Int.ofNat 496) 0), (Value.int (Int.ofNat 102) 0), (Value.str (S "/claim/cut.py") 497)])) (List.toArray [])
abbrev o232 (P : Params) : Obj := Obj.mk (Value.type "function") none (Data.func (FuncData.mk (S "power_end") (S "power_end") (defArgs (T 26)) (FuncBody.stmts (defBody (T 26))) (defScope (T 26)) 3 [] Value.none Value.none Value.none (Value.str (S "budwright.sumtexts") 453) none (R 231) Value.none 0)) (List.toArray [])
abbrev o233 (P : Params) : Obj := Obj.mk (Value.type "tuple") none (Data.seq (List.toArray []) 0) (List.toArray [])
abbrev o235 (P : Params) : Obj := Obj.mk (Value.type "tuple") none (Data.seq (List.toArray [(Value.str (S "text") 502), (Value.str (S "width") 503), (Value.str (S "powers") 504), (Value.str (S "at") 505), (Value.str (S "number") 506), (Value.str (S "end") 507), (Value.str (S "power") 508)]) 0) (List.toArray [])
abbrev o236 (P : Params) : Obj := Obj.mk (Value.type "tuple") none (Data.seq (List.toArray []) 0) (List.toArray [])
abbrev o238 (P : Params) : Obj := Obj.mk (Value.type "code") none (Data.fields (List.toArray [(Value.str (S "read_letters") 499), (Value.str (S "read_letters") 500), (Value.str (S "/claim/cut.py") 501), (Value.int (Int.ofNat 107) 0), (Value.int (Int.ofNat 2) 0), (Value.int (Int.ofNat 0) 0), (Value.int (Int.ofNat 0) 0), (Value.int (Int.ofNat 3) 0), (R 233), (Value.bool true), (Value.int (Int.ofNat 181) 0), (R 234), Value.none, (R 235), (R 236), (R 237), (Value.int (Int.ofNat 509) 0), (Value.int (Int.ofNat 107) 0), (Value.str (S "/claim/cut.py") 510)])) (List.toArray [])
abbrev o239 (P : Params) : Obj := Obj.mk (Value.type "function") none (Data.func (FuncData.mk (S "read_letters") (S "read_letters") (defArgs (T 27)) (FuncBody.stmts (defBody (T 27))) (defScope (T 27)) 3 [] Value.none Value.none Value.none (Value.str (S "budwright.sumtexts") 453) none (R 238) Value.none 0)) (List.toArray [])
abbrev o240 (P : Params) : Obj := Obj.mk (Value.type "tuple") none (Data.seq (List.toArray []) 0) (List.toArray [])
abbrev o242 (P : Params) : Obj := Obj.mk (Value.type "tuple") none (Data.seq (List.toArray [(Value.str (S "text") 515), (Value.str (S "width") 516), (Value.str (S "figures") 517), (Value.str (S "powers") 518)]) 0) (List.toArray [])
abbrev o243 (P : Params) : Obj := Obj.mk (Value.type "tuple") none (Data.seq (List.toArray []) 0) (List.toArray [])
abbrev o245 (P : Params) : Obj := Obj.mk (Value.type "code") none (Data.fields (List.toArray [(Value.str (S "read_product") 512), (Value.str (S "read_product") 513), (Value.str (S "/claim/cut.py") 514), (Value.int (Int.ofNat 119) 0), (Value.int (Int.ofNat 2) 0), (Value.int (Int.ofNat 0) 0), (Value.int (Int.ofNat 0) 0), (Value.int (Int.ofNat 3) 0), (R 240), (Value.bool true), (Value.int (Int.ofNat 181) 0), (R 241), Value.none, (R 242), (R 243), (R 244), (Value.int (Int.ofNat 519) 0), (Value.int (Int.ofNat 119) 0), (Value.str (S "/claim/cut.py") 520)])) (List.toArray [])
abbrev o246 (P : Params) : Obj := Obj.mk (Value.type "function") none (Data.func (FuncData.mk (S "read_product") (S "read_product") (defArgs (T 28)) (FuncBody.stmts (defBody (T 28))) (defScope (T 28)) 3 [] Value.none Value.none Value.none (Value.str (S "budwright.sumtexts") 453) none (R 245) Value.none 0)) (List.toArray [])
abbrev o247 (P : Params) : Obj := Obj.mk (Value.type "tuple") none (Data.seq (List.toArray []) 0) (List.toArray [])
abbrev o249 (P : Params) : Obj := Obj.mk (Value.type "tuple") none (Data.seq (List.toArray [(Value.str (S "text") 525), (Value.str (S "most") 526), (Value.str (S "first") 527), (Value.str (S "pieces") 528), (Value.str (S "signed") 529), (Value.str (S "sign") 530), (Value.str (S "piece") 531)]) 0) (List.toArray [])
abbrev o250 (P : Params) : Obj := Obj.mk (Value.type "tuple") none (Data.seq (List.toArray []) 0) (List.toArray [])
abbrev o252 (P : Params) : Obj := Obj.mk (Value.type "code") none (Data.fields (List.toArray [(Value.str (S "signed_pieces") 522), (Value.str (S "signed_pieces") 523), (Value.str (S "/claim/cut.py") 524), (Value.int (Int.ofNat 125) 0), (Value.int (Int.ofNat 2) 0), (Value.int (Int.ofNat 0) 0), (Value.int (Int.ofNat 0) 0), (Value.int (Int.ofNat 3) 0), (R 247), (Value.bool true), (Value.int (Int.ofNat 181) 0), (R 248), Value.none, (R 249), (R 250), (R 251), (Value.int (Int.ofNat 532) 0), (Value.int (Int.ofNat 125) 0), (Value.str (S "/claim/cut.py") 533)])) (List.toArray [])
abbrev o253 (P : Params) : Obj := Obj.mk (Value.type "function") none (Data.func (FuncData.mk (S "signed_pieces") (S "signed_pieces") (defArgs (T 29)) (FuncBody.stmts (defBody (T 29))) (defScope (T 29)) 3 [] Value.none Value.none Value.none (Value.str (S "budwright.sumtexts") 453) none (R 252) Value.none 0)) (List.toArray [])
abbrev o254 (P : Params) : Obj := Obj.mk (Value.type "tuple") none (Data.seq (List.toArray []) 0) (List.toArray [])
abbrev o256 (P : Params) : Obj := Obj.mk (Value.type "tuple") none (Data.seq (List.toArray [(Value.str (S "text") 538), (Value.str (S "width") 539), (Value.str (S "most") 540), (Value.str (S "signed") 541), (Value.str (S "read") 542), (Value.str (S "sign") 543), (Value.str (S "piece") 544), (Value.str (S "product") 545), (Value.str (S "powers") 546), (Value.str (S "count") 547)]) 0) (List.toArray [])
abbrev o257 (P : Params) : Obj := Obj.mk (Value.type "tuple") none (Data.seq (List.toArray []) 0) (List.toArray [])
abbrev o259 (P : Params) : Obj := Obj.mk (Value.type "code") none (Data.fields (List.toArray [(Value.str (S "read_products") 535), (Value.str (S "read_products") 536), (Value.str (S "/claim/cut.py") 537), (Value.int (Int.ofNat 136) 0), (Value.int (Int.ofNat 3) 0), (Value.int (Int.ofNat 0) 0), (Value.int (Int.ofNat 0) 0), (Value.int (Int.ofNat 3) 0), (R 254), (Value.bool true), (Value.int (Int.ofNat 181) 0), (R 255), Value.none, (R 256), (R 257), (R 258), (Value.int (Int.ofNat 548) 0), (Value.int (Int.ofNat 136) 0), (Value.str (S "/claim/cut.py") 549)])) (List.toArray [])
abbrev o260 (P : Params) : Obj := Obj.mk (Value.type "function") none (Data.func (FuncData.mk (S "read_products") (S "read_products") (defArgs (T 30)) (FuncBody.stmts (defBody (T 30))) (defScope (T 30)) 3 [] Value.none Value.none Value.none (Value.str (S "budwright.sumtexts") 453) none (R 259) Value.none 0)) (List.toArray [])
abbrev o268 (P : Params) : Obj := Obj.mk (Value.type "tuple") none (Data.seq (List.toArray []) 0) (List.toArray [])
abbrev o269 (P : Params) : Obj := Obj.mk (Value.type "tuple") none (Data.seq (List.toArray [(R 268)]) 0) (List.toArray [])
abbrev o270 (P : Params) : Obj := Obj.mk (Value.type "tuple") none (Data.seq (List.toArray []) 0) (List.toArray [])
abbrev o273 (P : Params) : Obj := Obj.mk (Value.type "code") none (Data.fields (List.toArray [(Value.str (S "__init__") 567), (Value.str (S "Sum.__init__") 568), (Value.str (S "/claim/cut.py") 569), (Value.int (Int.ofNat 152) 0), (Value.int (Int.ofNat 3) 0), (Value.int (Int.ofNat 0) 0), (Value.int (Int.ofNat 0) 0), (Value.int (Int.ofNat 3) 0), (R 270), (Value.bool true), (Value.int (Int.ofNat 181) 0), (R 271), Value.none, Value.none, Value.none, (R 272), (Value.int (Int.ofNat 570) 0), (Value.int (Int.ofNat 152) 0), (Value.str (S "/claim/cut.py") 571)])) (List.toArray [])
abbrev o274 (P : Params) : Obj := Obj.mk (Value.type "function") none (Data.func (FuncData.mk (S "__init__") (S "Sum.__init__") (defArgs (M 33 0)) (FuncBody.stmts (defBody (M 33 0))) (defScope (M 33 0)) 3 [] (R 269) Value.none Value.none (Value.str (S "budwright.sums") 551) none (R 273) Value.none 0)) (List.toArray [])
abbrev o275 (P : Params) : Obj := Obj.mk (Value.type "tuple") none (Data.seq (List.toArray []) 0) (List.toArray [])
abbrev o277 (P : Params) : Obj := Obj.mk (Value.type "tuple") none (Data.seq (List.toArray [(Value.str (S "self") 576)]) 0) (List.toArray [])
abbrev o278 (P : Params) : Obj := Obj.mk (Value.type "tuple") none (Data.seq (List.toArray []) 0) (List.toArray [])
abbrev o280 (P : Params) : Obj := Obj.mk (Value.type "code") none (Data.fields (List.toArray [(Value.str (S "terms") 573), (Value.str (S "Sum.terms") 574), (Value.str (S "/claim/cut.py") 575), (Value.int (Int.ofNat 161) 0), (Value.int (Int.ofNat 1) 0), (Value.int (Int.ofNat 0) 0), (Value.int (Int.ofNat 0) 0), (Value.int (Int.ofNat 3) 0), (R 275), (Value.bool true), (Value.int (Int.ofNat 181) 0), (R 276), Value.none, (R 277), (R 278), (R 279), (Value.int (Int.ofNat 577) 0), (Value.int (Int.ofNat 161) 0), (Value.str (S "/claim/cut.py") 578)])) (List.toArray [])
abbrev o281 (P : Params) : Obj := Obj.mk (Value.type "function") none (Data.func (FuncData.mk (S "terms") (S "Sum.terms") (defArgs (M 33 1)) (FuncBody.stmts (defBody (M 33 1))) (defScope (M 33 1)) 3 [] Value.none Value.none Value.none (Value.str (S "budwright.sums") 551) none (R 280) Value.none 0)) (List.toArray [])
abbrev o282 (P : Params) : Obj := Obj.mk (Value.type "tuple") none (Data.seq (List.toArray []) 0) (List.toArray [])
abbrev o284 (P : Params) : Obj := Obj.mk (Value.type "tuple") none (Data.seq (List.toArray [(Value.str (S "self") 583), (Value.str (S "other") 584)]) 0) (List.toArray [])
abbrev o285 (P : Params) : Obj := Obj.mk (Value.type "tuple") none (Data.seq (List.toArray []) 0) (List.toArray [])
abbrev o287 (P : Params) : Obj := Obj.mk (Value.type "code") none (Data.fields (List.toArray [(Value.str (S "plus") 580), (Value.str (S "Sum.plus") 581), (Value.str (S "/claim/cut.py") 582), (Value.int (Int.ofNat 164) 0), (Value.int (Int.ofNat 2) 0), (Value.int (Int.ofNat 0) 0), (Value.int (Int.ofNat 0) 0), (Value.int (Int.ofNat 3) 0), (R 282), (Value.bool true), (Value.int (Int.ofNat 181) 0), (R 283), Value.none, (R 284), (R 285), (R 286), (Value.int (Int.ofNat 585) 0), (Value.int (Int.ofNat 164) 0), (Value.str (S "/claim/cut.py") 586)])) (List.toArray [])
abbrev o288 (P : Params) : Obj := Obj.mk (Value.type "function") none (Data.func (FuncData.mk (S "plus") (S "Sum.plus") (defArgs (M 33 2)) (FuncBody.stmts (defBody (M 33 2))) (defScope (M 33 2)) 3 [] Value.none Value.none Value.none (Value.str (S "budwright.sums") 551) none (R 287) Value.none 0)) (List.toArray [])
abbrev o289 (P : Params) : Obj := Obj.mk (Value.type "tuple") none (Data.seq (List.toArray []) 0) (List.toArray [])
abbrev o291 (P : Params) : Obj := Obj.mk (Value.type "tuple") none (Data.seq (List.toArray [(Value.str (S "self") 591), (Value.str (S "other") 592)]) 0) (List.toArray [])
abbrev o292 (P : Params) : Obj := Obj.mk (Value.type "tuple") none (Data.seq (List.toArray []) 0) (List.toArray [])
abbrev o294 (P : Params) : Obj := Obj.mk (Value.type "code") none (Data.fields (List.toArray [(Value.str (S "minus") 588), (Value.str (S "Sum.minus") 589), (Value.str (S "/claim/cut.py") 590), (Value.int (Int.ofNat 167) 0), (Value.int (Int.ofNat 2) 0), (Value.int (Int.ofNat 0) 0), (Value.int (Int.ofNat 0) 0), (Value.int (Int.ofNat 3) 0), (R 289), (Value.bool true), (Value.int (Int.ofNat 181) 0), (R 290), Value.none, (R 291), (R 292), (R 293), (Value.int (Int.ofNat 593) 0), (Value.int (Int.ofNat 167) 0), (Value.str (S "/claim/cut.py") 594)])) (List.toArray [])
abbrev o295 (P : Params) : Obj := Obj.mk (Value.type "function") none (Data.func (FuncData.mk (S "minus") (S "Sum.minus") (defArgs (M 33 3)) (FuncBody.stmts (defBody (M 33 3))) (defScope (M 33 3)) 3 [] Value.none Value.none Value.none (Value.str (S "budwright.sums") 551) none (R 294) Value.none 0)) (List.toArray [])
abbrev o296 (P : Params) : Obj := Obj.mk (Value.type "tuple") none (Data.seq (List.toArray []) 0) (List.toArray [])
abbrev o298 (P : Params) : Obj := Obj.mk (Value.type "tuple") none (Data.seq (List.toArray [(Value.str (S "self") 599), (Value.str (S "other") 600)]) 0) (List.toArray [])
abbrev o299 (P : Params) : Obj := Obj.mk (Value.type "tuple") none (Data.seq (List.toArray []) 0) (List.toArray [])
abbrev o301 (P : Params) : Obj := Obj.mk (Value.type "code") none (Data.fields (List.toArray [(Value.str (S "times") 596), (Value.str (S "Sum.times") 597), (Value.str (S "/claim/cut.py") 598), (Value.int (Int.ofNat 170) 0), (Value.int (Int.ofNat 2) 0), (Value.int (Int.ofNat 0) 0), (Value.int (Int.ofNat 0) 0), (Value.int (Int.ofNat 3) 0), (R 296), (Value.bool true), (Value.int (Int.ofNat 181) 0), (R 297), Value.none, (R 298), (R 299), (R 300), (Value.int (Int.ofNat 601) 0), (Value.int (Int.ofNat 170) 0), (Value.str (S "/claim/cut.py") 602)])) (List.toArray [])
abbrev o302 (P : Params) : Obj := Obj.mk (Value.type "function") none (Data.func (FuncData.mk (S "times") (S "Sum.times") (defArgs (M 33 4)) (FuncBody.stmts (defBody (M 33 4))) (defScope (M 33 4)) 3 [] Value.none Value.none Value.none (Value.str (S "budwright.sums") 551) none (R 301) Value.none 0)) (List.toArray [])
abbrev o303 (P : Params) : Obj := Obj.mk (Value.type "tuple") none (Data.seq (List.toArray []) 0) (List.toArray [])
abbrev o305 (P : Params) : Obj := Obj.mk (Value.type "tuple") none (Data.seq (List.toArray [(Value.str (S "self") 607), (Value.str (S "many") 608)]) 0) (List.toArray [])
abbrev o306 (P : Params) : Obj := Obj.mk (Value.type "tuple") none (Data.seq (List.toArray []) 0) (List.toArray [])
abbrev o308 (P : Params) : Obj := Obj.mk (Value.type "code") none (Data.fields (List.toArray [(Value.str (S "raised") 604), (Value.str (S "Sum.raised") 605), (Value.str (S "/claim/cut.py") 606), (Value.int (Int.ofNat 173) 0), (Value.int (Int.ofNat 2) 0), (Value.int (Int.ofNat 0) 0), (Value.int (Int.ofNat 0) 0), (Value.int (Int.ofNat 3) 0), (R 303), (Value.bool true), (Value.int (Int.ofNat 181) 0), (R 304), Value.none, (R 305), (R 306), (R 307), (Value.int (Int.ofNat 609) 0), (Value.int (Int.ofNat 173) 0), (Value.str (S "/claim/cut.py") 610)])) (List.toArray [])
abbrev o309 (P : Params) : Obj := Obj.mk (Value.type "function") none (Data.func (FuncData.mk (S "raised") (S "Sum.raised") (defArgs (M 33 5)) (FuncBody.stmts (defBody (M 33 5))) (defScope (M 33 5)) 3 [] Value.none Value.none Value.none (Value.str (S "budwright.sums") 551) none (R 308) Value.none 0)) (List.toArray [])
abbrev o310 (P : Params) : Obj := Obj.mk (Value.type "tuple") none (Data.seq (List.toArray []) 0) (List.toArray [])
abbrev o312 (P : Params) : Obj := Obj.mk (Value.type "tuple") none (Data.seq (List.toArray [(Value.str (S "self") 615), (Value.str (S "other") 616)]) 0) (List.toArray [])
abbrev o313 (P : Params) : Obj := Obj.mk (Value.type "tuple") none (Data.seq (List.toArray []) 0) (List.toArray [])
abbrev o315 (P : Params) : Obj := Obj.mk (Value.type "code") none (Data.fields (List.toArray [(Value.str (S "shared") 612), (Value.str (S "Sum.shared") 613), (Value.str (S "/claim/cut.py") 614), (Value.int (Int.ofNat 176) 0), (Value.int (Int.ofNat 2) 0), (Value.int (Int.ofNat 0) 0), (Value.int (Int.ofNat 0) 0), (Value.int (Int.ofNat 3) 0), (R 310), (Value.bool true), (Value.int (Int.ofNat 181) 0), (R 311), Value.none, (R 312), (R 313), (R 314), (Value.int (Int.ofNat 617) 0), (Value.int (Int.ofNat 176) 0), (Value.str (S "/claim/cut.py") 618)])) (List.toArray [])
abbrev o316 (P : Params) : Obj := Obj.mk (Value.type "function") none (Data.func (FuncData.mk (S "shared") (S "Sum.shared") (defArgs (M 33 6)) (FuncBody.stmts (defBody (M 33 6))) (defScope (M 33 6)) 3 [] Value.none Value.none Value.none (Value.str (S "budwright.sums") 551) none (R 315) Value.none 0)) (List.toArray [])
abbrev o317 (P : Params) : Obj := Obj.mk (Value.type "tuple") none (Data.seq (List.toArray []) 0) (List.toArray [])
abbrev o319 (P : Params) : Obj := Obj.mk (Value.type "tuple") none (Data.seq (List.toArray [(Value.str (S "self") 623), (Value.str (S "parts") 624)]) 0) (List.toArray [])
abbrev o320 (P : Params) : Obj := Obj.mk (Value.type "tuple") none (Data.seq (List.toArray []) 0) (List.toArray [])
abbrev o322 (P : Params) : Obj := Obj.mk (Value.type "code") none (Data.fields (List.toArray [(Value.str (S "worth") 620), (Value.str (S "Sum.worth") 621), (Value.str (S "/claim/cut.py") 622), (Value.int (Int.ofNat 179) 0), (Value.int (Int.ofNat 2) 0), (Value.int (Int.ofNat 0) 0), (Value.int (Int.ofNat 0) 0), (Value.int (Int.ofNat 3) 0), (R 317), (Value.bool true), (Value.int (Int.ofNat 181) 0), (R 318), Value.none, (R 319), (R 320), (R 321), (Value.int (Int.ofNat 625) 0), (Value.int (Int.ofNat 179) 0), (Value.str (S "/claim/cut.py") 626)])) (List.toArray [])
abbrev o323 (P : Params) : Obj := Obj.mk (Value.type "function") none (Data.func (FuncData.mk (S "worth") (S "Sum.worth") (defArgs (M 33 7)) (FuncBody.stmts (defBody (M 33 7))) (defScope (M 33 7)) 3 [] Value.none Value.none Value.none (Value.str (S "budwright.sums") 551) none (R 322) Value.none 0)) (List.toArray [])
abbrev o324 (P : Params) : Obj := Obj.mk (Value.type "tuple") none (Data.seq (List.toArray []) 0) (List.toArray [])
abbrev o326 (P : Params) : Obj := Obj.mk (Value.type "tuple") none (Data.seq (List.toArray [(Value.str (S "self") 631), (Value.str (S "numbers") 632)]) 0) (List.toArray [])
abbrev o327 (P : Params) : Obj := Obj.mk (Value.type "tuple") none (Data.seq (List.toArray []) 0) (List.toArray [])
abbrev o329 (P : Params) : Obj := Obj.mk (Value.type "code") none (Data.fields (List.toArray [(Value.str (S "least") 628), (Value.str (S "Sum.least") 629), (Value.str (S "/claim/cut.py") 630), (Value.int (Int.ofNat 182) 0), (Value.int (Int.ofNat 2) 0), (Value.int (Int.ofNat 0) 0), (Value.int (Int.ofNat 0) 0), (Value.int (Int.ofNat 3) 0), (R 324), (Value.bool true), (Value.int (Int.ofNat 181) 0), (R 325), Value.none, (R 326), (R 327), (R 328), (Value.int (Int.ofNat 633) 0), (Value.int (Int.ofNat 182) 0), (Value.str (S "/claim/cut.py") 634)])) (List.toArray [])
abbrev o330 (P : Params) : Obj := Obj.mk (Value.type "function") none (Data.func (FuncData.mk (S "least") (S "Sum.least") (defArgs (M 33 8)) (FuncBody.stmts (defBody (M 33 8))) (defScope (M 33 8)) 3 [] Value.none Value.none Value.none (Value.str (S "budwright.sums") 551) none (R 329) Value.none 0)) (List.toArray [])
abbrev o331 (P : Params) : Obj := Obj.mk (Value.type "tuple") none (Data.seq (List.toArray []) 0) (List.toArray [])
abbrev o333 (P : Params) : Obj := Obj.mk (Value.type "tuple") none (Data.seq (List.toArray [(Value.str (S "self") 639), (Value.str (S "numbers") 640)]) 0) (List.toArray [])
abbrev o334 (P : Params) : Obj := Obj.mk (Value.type "tuple") none (Data.seq (List.toArray []) 0) (List.toArray [])
abbrev o336 (P : Params) : Obj := Obj.mk (Value.type "code") none (Data.fields (List.toArray [(Value.str (S "greatest") 636), (Value.str (S "Sum.greatest") 637), (Value.str (S "/claim/cut.py") 638), (Value.int (Int.ofNat 185) 0), (Value.int (Int.ofNat 2) 0), (Value.int (Int.ofNat 0) 0), (Value.int (Int.ofNat 0) 0), (Value.int (Int.ofNat 3) 0), (R 331), (Value.bool true), (Value.int (Int.ofNat 181) 0), (R 332), Value.none, (R 333), (R 334), (R 335), (Value.int (Int.ofNat 641) 0), (Value.int (Int.ofNat 185) 0), (Value.str (S "/claim/cut.py") 642)])) (List.toArray [])
abbrev o337 (P : Params) : Obj := Obj.mk (Value.type "function") none (Data.func (FuncData.mk (S "greatest") (S "Sum.greatest") (defArgs (M 33 9)) (FuncBody.stmts (defBody (M 33 9))) (defScope (M 33 9)) 3 [] Value.none Value.none Value.none (Value.str (S "budwright.sums") 551) none (R 336) Value.none 0)) (List.toArray [])
abbrev o338 (P : Params) : Obj := Obj.mk (Value.type "tuple") none (Data.seq (List.toArray []) 0) (List.toArray [])
abbrev o340 (P : Params) : Obj := Obj.mk (Value.type "tuple") none (Data.seq (List.toArray [(Value.str (S "self") 647)]) 0) (List.toArray [])
abbrev o341 (P : Params) : Obj := Obj.mk (Value.type "tuple") none (Data.seq (List.toArray []) 0) (List.toArray [])
abbrev o343 (P : Params) : Obj := Obj.mk (Value.type "code") none (Data.fields (List.toArray [(Value.str (S "lowest") 644), (Value.str (S "Sum.lowest") 645), (Value.str (S "/claim/cut.py") 646), (Value.int (Int.ofNat 188) 0), (Value.int (Int.ofNat 1) 0), (Value.int (Int.ofNat 0) 0), (Value.int (Int.ofNat 0) 0), (Value.int (Int.ofNat 3) 0), (R 338), (Value.bool true), (Value.int (Int.ofNat 181) 0), (R 339), Value.none, (R 340), (R 341), (R 342), (Value.int (Int.ofNat 648) 0), (Value.int (Int.ofNat 188) 0), (Value.str (S "/claim/cut.py") 649)])) (List.toArray [])
abbrev o344 (P : Params) : Obj := Obj.mk (Value.type "function") none (Data.func (FuncData.mk (S "lowest") (S "Sum.lowest") (defArgs (M 33 10)) (FuncBody.stmts (defBody (M 33 10))) (defScope (M 33 10)) 3 [] Value.none Value.none Value.none (Value.str (S "budwright.sums") 551) none (R 343) Value.none 0)) (List.toArray [])
abbrev o345 (P : Params) : Obj := Obj.mk (Value.type "tuple") none (Data.seq (List.toArray []) 0) (List.toArray [])
abbrev o347 (P : Params) : Obj := Obj.mk (Value.type "tuple") none (Data.seq (List.toArray [(Value.str (S "self") 654), (Value.str (S "places") 655)]) 0) (List.toArray [])
abbrev o348 (P : Params) : Obj := Obj.mk (Value.type "tuple") none (Data.seq (List.toArray []) 0) (List.toArray [])
abbrev o350 (P : Params) : Obj := Obj.mk (Value.type "code") none (Data.fields (List.toArray [(Value.str (S "with_ones") 651), (Value.str (S "Sum.with_ones") 652), (Value.str (S "/claim/cut.py") 653), (Value.int (Int.ofNat 191) 0), (Value.int (Int.ofNat 2) 0), (Value.int (Int.ofNat 0) 0), (Value.int (Int.ofNat 0) 0), (Value.int (Int.ofNat 3) 0), (R 345), (Value.bool true), (Value.int (Int.ofNat 181) 0), (R 346), Value.none, (R 347), (R 348), (R 349), (Value.int (Int.ofNat 656) 0), (Value.int (Int.ofNat 191) 0), (Value.str (S "/claim/cut.py") 657)])) (List.toArray [])
abbrev o351 (P : Params) : Obj := Obj.mk (Value.type "function") none (Data.func (FuncData.mk (S "with_ones") (S "Sum.with_ones") (defArgs (M 33 11)) (FuncBody.stmts (defBody (M 33 11))) (defScope (M 33 11)) 3 [] Value.none Value.none Value.none (Value.str (S "budwright.sums") 551) none (R 350) Value.none 0)) (List.toArray [])
abbrev o352 (P : Params) : Obj := Obj.mk (Value.type "tuple") none (Data.seq (List.toArray []) 0) (List.toArray [])
abbrev o354 (P : Params) : Obj := Obj.mk (Value.type "tuple") none (Data.seq (List.toArray [(Value.str (S "self") 662), (Value.str (S "width") 663)]) 0) (List.toArray [])
abbrev o355 (P : Params) : Obj := Obj.mk (Value.type "tuple") none (Data.seq (List.toArray []) 0) (List.toArray [])
abbrev o357 (P : Params) : Obj := Obj.mk (Value.type "code") none (Data.fields (List.toArray [(Value.str (S "widened") 659), (Value.str (S "Sum.widened") 660), (Value.str (S "/claim/cut.py") 661), (Value.int (Int.ofNat 194) 0), (Value.int (Int.ofNat 2) 0), (Value.int (Int.ofNat 0) 0), (Value.int (Int.ofNat 0) 0), (Value.int (Int.ofNat 3) 0), (R 352), (Value.bool true), (Value.int (Int.ofNat 181) 0), (R 353), Value.none, (R 354), (R 355), (R 356), (Value.int (Int.ofNat 664) 0), (Value.int (Int.ofNat 194) 0), (Value.str (S "/claim/cut.py") 665)])) (List.toArray [])
abbrev o358 (P : Params) : Obj := Obj.mk (Value.type "function") none (Data.func (FuncData.mk (S "widened") (S "Sum.widened") (defArgs (M 33 12)) (FuncBody.stmts (defBody (M 33 12))) (defScope (M 33 12)) 3 [] Value.none Value.none Value.none (Value.str (S "budwright.sums") 551) none (R 357) Value.none 0)) (List.toArray [])
abbrev o359 (P : Params) : Obj := Obj.mk (Value.type "tuple") none (Data.seq (List.toArray []) 0) (List.toArray [])
abbrev o361 (P : Params) : Obj := Obj.mk (Value.type "tuple") none (Data.seq (List.toArray [(Value.str (S "self") 670)]) 0) (List.toArray [])
abbrev o362 (P : Params) : Obj := Obj.mk (Value.type "tuple") none (Data.seq (List.toArray []) 0) (List.toArray [])
abbrev o364 (P : Params) : Obj := Obj.mk (Value.type "code") none (Data.fields (List.toArray [(Value.str (S "__len__") 667), (Value.str (S "Sum.__len__") 668), (Value.str (S "/claim/cut.py") 669), (Value.int (Int.ofNat 197) 0), (Value.int (Int.ofNat 1) 0), (Value.int (Int.ofNat 0) 0), (Value.int (Int.ofNat 0) 0), (Value.int (Int.ofNat 3) 0), (R 359), (Value.bool true), (Value.int (Int.ofNat 181) 0), (R 360), Value.none, (R 361), (R 362), (R 363), (Value.int (Int.ofNat 671) 0), (Value.int (Int.ofNat 197) 0), (Value.str (S "/claim/cut.py") 672)])) (List.toArray [])
abbrev o365 (P : Params) : Obj := Obj.mk (Value.type "function") none (Data.func (FuncData.mk (S "__len__") (S "Sum.__len__") (defArgs (M 33 13)) (FuncBody.stmts (defBody (M 33 13))) (defScope (M 33 13)) 3 [] Value.none Value.none Value.none (Value.str (S "budwright.sums") 551) none (R 364) Value.none 0)) (List.toArray [])
abbrev o366 (P : Params) : Obj := Obj.mk (Value.type "tuple") none (Data.seq (List.toArray []) 0) (List.toArray [])
abbrev o368 (P : Params) : Obj := Obj.mk (Value.type "tuple") none (Data.seq (List.toArray [(Value.str (S "self") 677), (Value.str (S "other") 678)]) 0) (List.toArray [])
abbrev o369 (P : Params) : Obj := Obj.mk (Value.type "tuple") none (Data.seq (List.toArray []) 0) (List.toArray [])
abbrev o371 (P : Params) : Obj := Obj.mk (Value.type "code") none (Data.fields (List.toArray [(Value.str (S "__eq__") 674), (Value.str (S "Sum.__eq__") 675), (Value.str (S "/claim/cut.py") 676), (Value.int (Int.ofNat 200) 0), (Value.int (Int.ofNat 2) 0), (Value.int (Int.ofNat 0) 0), (Value.int (Int.ofNat 0) 0), (Value.int (Int.ofNat 3) 0), (R 366), (Value.bool true), (Value.int (Int.ofNat 181) 0), (R 367), Value.none, (R 368), (R 369), (R 370), (Value.int (Int.ofNat 679) 0), (Value.int (Int.ofNat 200) 0), (Value.str (S "/claim/cut.py") 680)])) (List.toArray [])
abbrev o372 (P : Params) : Obj := Obj.mk (Value.type "function") none (Data.func (FuncData.mk (S "__eq__") (S "Sum.__eq__") (defArgs (M 33 14)) (FuncBody.stmts (defBody (M 33 14))) (defScope (M 33 14)) 3 [] Value.none Value.none Value.none (Value.str (S "budwright.sums") 551) none (R 371) Value.none 0)) (List.toArray [])
abbrev o373 (P : Params) : Obj := Obj.mk (Value.type "tuple") none (Data.seq (List.toArray []) 0) (List.toArray [])
abbrev o375 (P : Params) : Obj := Obj.mk (Value.type "tuple") none (Data.seq (List.toArray [(Value.str (S "self") 685)]) 0) (List.toArray [])
abbrev o376 (P : Params) : Obj := Obj.mk (Value.type "tuple") none (Data.seq (List.toArray []) 0) (List.toArray [])
abbrev o378 (P : Params) : Obj := Obj.mk (Value.type "code") none (Data.fields (List.toArray [(Value.str (S "__str__") 682), (Value.str (S "Sum.__str__") 683), (Value.str (S "/claim/cut.py") 684), (Value.int (Int.ofNat 203) 0), (Value.int (Int.ofNat 1) 0), (Value.int (Int.ofNat 0) 0), (Value.int (Int.ofNat 0) 0), (Value.int (Int.ofNat 3) 0), (R 373), (Value.bool true), (Value.int (Int.ofNat 181) 0), (R 374), Value.none, (R 375), (R 376), (R 377), (Value.int (Int.ofNat 686) 0), (Value.int (Int.ofNat 203) 0), (Value.str (S "/claim/cut.py") 687)])) (List.toArray [])
abbrev o379 (P : Params) : Obj := Obj.mk (Value.type "function") none (Data.func (FuncData.mk (S "__str__") (S "Sum.__str__") (defArgs (M 33 15)) (FuncBody.stmts (defBody (M 33 15))) (defScope (M 33 15)) 3 [] Value.none Value.none Value.none (Value.str (S "budwright.sums") 551) none (R 378) Value.none 0)) (List.toArray [])
abbrev o380 (P : Params) : Obj := Obj.mk (Value.type "tuple") none (Data.seq (List.toArray []) 0) (List.toArray [])
abbrev o382 (P : Params) : Obj := Obj.mk (Value.type "tuple") none (Data.seq (List.toArray [(Value.str (S "self") 692)]) 0) (List.toArray [])
abbrev o383 (P : Params) : Obj := Obj.mk (Value.type "tuple") none (Data.seq (List.toArray []) 0) (List.toArray [])
abbrev o385 (P : Params) : Obj := Obj.mk (Value.type "code") none (Data.fields (List.toArray [(Value.str (S "__repr__") 689), (Value.str (S "Sum.__repr__") 690), (Value.str (S "/claim/cut.py") 691), (Value.int (Int.ofNat 206) 0), (Value.int (Int.ofNat 1) 0), (Value.int (Int.ofNat 0) 0), (Value.int (Int.ofNat 0) 0), (Value.int (Int.ofNat 3) 0), (R 380), (Value.bool true), (Value.int (Int.ofNat 181) 0), (R 381), Value.none, (R 382), (R 383), (R 384), (Value.int (Int.ofNat 693) 0), (Value.int (Int.ofNat 206) 0), (Value.str (S "/claim/cut.py") 694)])) (List.toArray [])
abbrev o386 (P : Params) : Obj := Obj.mk (Value.type "function") none (Data.func (FuncData.mk (S "__repr__") (S "Sum.__repr__") (defArgs (M 33 16)) (FuncBody.stmts (defBody (M 33 16))) (defScope (M 33 16)) 3 [] Value.none Value.none Value.none (Value.str (S "budwright.sums") 551) none (R 385) Value.none 0)) (List.toArray [])
abbrev o387 (P : Params) : Obj := Obj.mk (Value.type "tuple") none (Data.seq (List.toArray [(Value.str (S "products") 696), (Value.str (S "width") 697)]) 0) (List.toArray [])
abbrev o388 (P : Params) : Obj := Obj.mk (Value.type "dict") none (Data.dict (List.toArray [E P "__module__" 562 (Value.str (S "budwright.sums") 551), E P "__firstlineno__" 566 (Value.int (Int.ofNat 150) 565), E P "__init__" 572 (R 274), E P "terms" 579 (R 281), E P "plus" 587 (R 288), E P "minus" 595 (R 295), E P "times" 603 (R 302), E P "raised" 611 (R 309), E P "shared" 619 (R 316), E P "worth" 627 (R 323), E P "least" 635 (R 330), E P "greatest" 643 (R 337), E P "lowest" 650 (R 344), E P "with_ones" 658 (R 351), E P "widened" 666 (R 358), E P "__len__" 673 (R 365), E P "__eq__" 681 (R 372), E P "__str__" 688 (R 379), E P "__repr__" 695 (R 386), E P "__static_attributes__" 698 (R 387), E P "__dict__" 700 (R 390), E P "__weakref__" 702 (R 391), E P "__doc__" 703 Value.none, E P "__hash__" 704 Value.none]) 5) (List.toArray [])
abbrev o389 (P : Params) : Obj := Obj.mk (Value.type "type") none (Data.cls (ClassData.mk (S "Sum") [(Value.type "object")] [(R 389), (Value.type "object")] 388 (S "Sum") true [] [] false none false)) (List.toArray [none, none, (some (Value.str (S "Sum") 555)), (some (Value.str (S "Sum") 563)), (some (Value.builtin "object.__new__")), (some (Value.bool true))])
abbrev o390 (P : Params) : Obj := Obj.mk (Value.type "getset_descriptor") none (Data.fields (List.toArray [(Value.str (S "__dict__") 699), (R 389), (Value.builtin "function.__dict__"), (Value.builtin "function.__dict__#set")])) (List.toArray [])
abbrev o391 (P : Params) : Obj := Obj.mk (Value.type "getset_descriptor") none (Data.fields (List.toArray [(Value.str (S "__weakref__") 701), (R 389), (Value.builtin "ExceptionGroup.__weakref__"), Value.none])) (List.toArray [])
abbrev o394 (P : Params) : Obj := Obj.mk (Value.type "tuple") none (Data.seq (List.toArray []) 0) (List.toArray [])
abbrev o396 (P : Params) : Obj := Obj.mk (Value.type "tuple") none (Data.seq (List.toArray [(Value.str (S "text") 710), (Value.str (S "width") 711), (Value.str (S "terms") 712), (Value.str (S "read") 713)]) 0) (List.toArray [])
abbrev o397 (P : Params) : Obj := Obj.mk (Value.type "tuple") none (Data.seq (List.toArray []) 0) (List.toArray [])
abbrev o399 (P : Params) : Obj := Obj.mk (Value.type "code") none (Data.fields (List.toArray [(Value.str (S "read_sum") 707), (Value.str (S "read_sum") 708), (Value.str (S "/claim/cut.py") 709), (Value.int (Int.ofNat 208) 0), (Value.int (Int.ofNat 1) 0), (Value.int (Int.ofNat 0) 0), (Value.int (Int.ofNat 1) 0), (Value.int (Int.ofNat 3) 0), (R 394), (Value.bool true), (Value.int (Int.ofNat 181) 0), (R 395), Value.none, (R 396), (R 397), (R 398), (Value.int (Int.ofNat 714) 0), (Value.int (Int.ofNat 208) 0), (Value.str (S "/claim/cut.py") 715)])) (List.toArray [])
abbrev o400 (P : Params) : Obj := Obj.mk (Value.type "function") none (Data.func (FuncData.mk (S "read_sum") (S "read_sum") (defArgs (T 34)) (FuncBody.stmts (defBody (T 34))) (defScope (T 34)) 3 [] Value.none Value.none Value.none (Value.str (S "budwright.sums") 551) none (R 399) Value.none 0)) (List.toArray [])
abbrev o401 (P : Params) : Obj := Obj.mk (Value.type "tuple") none (Data.seq (List.toArray []) 0) (List.toArray [])
abbrev o403 (P : Params) : Obj := Obj.mk (Value.type "tuple") none (Data.seq (List.toArray [(Value.str (S "_law_script") 722)]) 0) (List.toArray [])
abbrev o404 (P : Params) : Obj := Obj.mk (Value.type "tuple") none (Data.seq (List.toArray []) 0) (List.toArray [])
abbrev o406 (P : Params) : Obj := Obj.mk (Value.type "code") none (Data.fields (List.toArray [(Value.str (S "_law_feed") 719), (Value.str (S "_law_feed") 720), (Value.str (S "/claim/cut.py") 721), (Value.int (Int.ofNat 217) 0), (Value.int (Int.ofNat 1) 0), (Value.int (Int.ofNat 0) 0), (Value.int (Int.ofNat 0) 0), (Value.int (Int.ofNat 3) 0), (R 401), (Value.bool true), (Value.int (Int.ofNat 181) 0), (R 402), Value.none, (R 403), (R 404), (R 405), (Value.int (Int.ofNat 723) 0), (Value.int (Int.ofNat 217) 0), (Value.str (S "/claim/cut.py") 724)])) (List.toArray [])
abbrev o407 (P : Params) : Obj := Obj.mk (Value.type "function") none (Data.func (FuncData.mk (S "_law_feed") (S "_law_feed") (defArgs (T 36)) (FuncBody.stmts (defBody (T 36))) (defScope (T 36)) 3 [] Value.none Value.none Value.none (Value.str (S "law_budwright_k09_texts_that_write_no_sum") 717) none (R 406) Value.none 0)) (List.toArray [])
abbrev o408 (P : Params) : Obj := Obj.mk (Value.type "tuple") none (Data.seq (List.toArray []) 0) (List.toArray [])
abbrev o410 (P : Params) : Obj := Obj.mk (Value.type "tuple") none (Data.seq (List.toArray [(Value.str (S "_law_feed_here") 729), (Value.str (S "_law_many") 730), (Value.str (S "_law_cell") 731), (Value.str (S "_law_digit") 732), (Value.str (S "_law_mix") 733)]) 0) (List.toArray [])
abbrev o411 (P : Params) : Obj := Obj.mk (Value.type "tuple") none (Data.seq (List.toArray []) 0) (List.toArray [])
abbrev o413 (P : Params) : Obj := Obj.mk (Value.type "code") none (Data.fields (List.toArray [(Value.str (S "_law_draw") 726), (Value.str (S "_law_draw") 727), (Value.str (S "/claim/cut.py") 728), (Value.int (Int.ofNat 219) 0), (Value.int (Int.ofNat 2) 0), (Value.int (Int.ofNat 0) 0), (Value.int (Int.ofNat 0) 0), (Value.int (Int.ofNat 3) 0), (R 408), (Value.bool true), (Value.int (Int.ofNat 181) 0), (R 409), Value.none, (R 410), (R 411), (R 412), (Value.int (Int.ofNat 734) 0), (Value.int (Int.ofNat 219) 0), (Value.str (S "/claim/cut.py") 735)])) (List.toArray [])
abbrev o414 (P : Params) : Obj := Obj.mk (Value.type "function") none (Data.func (FuncData.mk (S "_law_draw") (S "_law_draw") (defArgs (T 37)) (FuncBody.stmts (defBody (T 37))) (defScope (T 37)) 3 [] Value.none Value.none Value.none (Value.str (S "law_budwright_k09_texts_that_write_no_sum") 717) none (R 413) Value.none 0)) (List.toArray [])
abbrev o415 (P : Params) : Obj := Obj.mk (Value.type "tuple") none (Data.seq (List.toArray []) 0) (List.toArray [])
abbrev o417 (P : Params) : Obj := Obj.mk (Value.type "tuple") none (Data.seq (List.toArray [(Value.str (S "_law_feed_here") 740), (Value.str (S "_law_row") 741)]) 0) (List.toArray [])
abbrev o418 (P : Params) : Obj := Obj.mk (Value.type "tuple") none (Data.seq (List.toArray []) 0) (List.toArray [])
abbrev o420 (P : Params) : Obj := Obj.mk (Value.type "code") none (Data.fields (List.toArray [(Value.str (S "_law_pick") 737), (Value.str (S "_law_pick") 738), (Value.str (S "/claim/cut.py") 739), (Value.int (Int.ofNat 236) 0), (Value.int (Int.ofNat 2) 0), (Value.int (Int.ofNat 0) 0), (Value.int (Int.ofNat 0) 0), (Value.int (Int.ofNat 3) 0), (R 415), (Value.bool true), (Value.int (Int.ofNat 181) 0), (R 416), Value.none, (R 417), (R 418), (R 419), (Value.int (Int.ofNat 742) 0), (Value.int (Int.ofNat 236) 0), (Value.str (S "/claim/cut.py") 743)])) (List.toArray [])
abbrev o421 (P : Params) : Obj := Obj.mk (Value.type "function") none (Data.func (FuncData.mk (S "_law_pick") (S "_law_pick") (defArgs (T 38)) (FuncBody.stmts (defBody (T 38))) (defScope (T 38)) 3 [] Value.none Value.none Value.none (Value.str (S "law_budwright_k09_texts_that_write_no_sum") 717) none (R 420) Value.none 0)) (List.toArray [])
abbrev o422 (P : Params) : Obj := Obj.mk (Value.type "tuple") none (Data.seq (List.toArray []) 0) (List.toArray [])
abbrev o424 (P : Params) : Obj := Obj.mk (Value.type "tuple") none (Data.seq (List.toArray [(Value.str (S "_law_asked") 748), (Value.str (S "e") 749)]) 0) (List.toArray [])
abbrev o425 (P : Params) : Obj := Obj.mk (Value.type "tuple") none (Data.seq (List.toArray []) 0) (List.toArray [])
abbrev o427 (P : Params) : Obj := Obj.mk (Value.type "code") none (Data.fields (List.toArray [(Value.str (S "_law_word") 745), (Value.str (S "_law_word") 746), (Value.str (S "/claim/cut.py") 747), (Value.int (Int.ofNat 238) 0), (Value.int (Int.ofNat 1) 0), (Value.int (Int.ofNat 0) 0), (Value.int (Int.ofNat 0) 0), (Value.int (Int.ofNat 3) 0), (R 422), (Value.bool true), (Value.int (Int.ofNat 181) 0), (R 423), Value.none, (R 424), (R 425), (R 426), (Value.int (Int.ofNat 750) 0), (Value.int (Int.ofNat 238) 0), (Value.str (S "/claim/cut.py") 751)])) (List.toArray [])
abbrev o428 (P : Params) : Obj := Obj.mk (Value.type "function") none (Data.func (FuncData.mk (S "_law_word") (S "_law_word") (defArgs (T 39)) (FuncBody.stmts (defBody (T 39))) (defScope (T 39)) 3 [] Value.none Value.none Value.none (Value.str (S "law_budwright_k09_texts_that_write_no_sum") 717) none (R 427) Value.none 0)) (List.toArray [])
abbrev o429 (P : Params) : Obj := Obj.mk (Value.type "tuple") none (Data.seq (List.toArray []) 0) (List.toArray [])
abbrev o431 (P : Params) : Obj := Obj.mk (Value.type "tuple") none (Data.seq (List.toArray [(Value.str (S "_law_feed_here") 756), (Value.str (S "_law_size") 757)]) 0) (List.toArray [])
abbrev o432 (P : Params) : Obj := Obj.mk (Value.type "tuple") none (Data.seq (List.toArray []) 0) (List.toArray [])
abbrev o434 (P : Params) : Obj := Obj.mk (Value.type "code") none (Data.fields (List.toArray [(Value.str (S "_law_great_number") 753), (Value.str (S "_law_great_number") 754), (Value.str (S "/claim/cut.py") 755), (Value.int (Int.ofNat 246) 0), (Value.int (Int.ofNat 1) 0), (Value.int (Int.ofNat 0) 0), (Value.int (Int.ofNat 0) 0), (Value.int (Int.ofNat 3) 0), (R 429), (Value.bool true), (Value.int (Int.ofNat 181) 0), (R 430), Value.none, (R 431), (R 432), (R 433), (Value.int (Int.ofNat 758) 0), (Value.int (Int.ofNat 246) 0), (Value.str (S "/claim/cut.py") 759)])) (List.toArray [])
abbrev o435 (P : Params) : Obj := Obj.mk (Value.type "function") none (Data.func (FuncData.mk (S "_law_great_number") (S "_law_great_number") (defArgs (T 40)) (FuncBody.stmts (defBody (T 40))) (defScope (T 40)) 3 [] Value.none Value.none Value.none (Value.str (S "law_budwright_k09_texts_that_write_no_sum") 717) none (R 434) Value.none 0)) (List.toArray [])
abbrev o436 (P : Params) : Obj := Obj.mk (Value.type "tuple") none (Data.seq (List.toArray []) 0) (List.toArray [])
abbrev o439 (P : Params) : Obj := Obj.mk (Value.type "code") none (Data.fields (List.toArray [(Value.str (S "_law_powers") 761), (Value.str (S "_law_powers") 762), (Value.str (S "/claim/cut.py") 763), (Value.int (Int.ofNat 249) 0), (Value.int (Int.ofNat 2) 0), (Value.int (Int.ofNat 0) 0), (Value.int (Int.ofNat 0) 0), (Value.int (Int.ofNat 3) 0), (R 436), (Value.bool true), (Value.int (Int.ofNat 181) 0), (R 437), Value.none, Value.none, Value.none, (R 438), (Value.int (Int.ofNat 764) 0), (Value.int (Int.ofNat 249) 0), (Value.str (S "/claim/cut.py") 765)])) (List.toArray [])
abbrev o440 (P : Params) : Obj := Obj.mk (Value.type "function") none (Data.func (FuncData.mk (S "_law_powers") (S "_law_powers") (defArgs (T 41)) (FuncBody.stmts (defBody (T 41))) (defScope (T 41)) 3 [] Value.none Value.none Value.none (Value.str (S "law_budwright_k09_texts_that_write_no_sum") 717) none (R 439) Value.none 0)) (List.toArray [])
abbrev o441 (P : Params) : Obj := Obj.mk (Value.type "tuple") none (Data.seq (List.toArray []) 0) (List.toArray [])
abbrev o443 (P : Params) : Obj := Obj.mk (Value.type "tuple") none (Data.seq (List.toArray [(Value.str (S "_law_feed_here") 770), (Value.str (S "_law_my_width") 771), (Value.str (S "_law_most") 772), (Value.str (S "_law_found") 773), (Value.str (S "_law_k") 774), (Value.str (S "_law_many") 775)]) 0) (List.toArray [])
abbrev o444 (P : Params) : Obj := Obj.mk (Value.type "tuple") none (Data.seq (List.toArray []) 0) (List.toArray [])
abbrev o446 (P : Params) : Obj := Obj.mk (Value.type "code") none (Data.fields (List.toArray [(Value.str (S "_law_terms") 767), (Value.str (S "_law_terms") 768), (Value.str (S "/claim/cut.py") 769), (Value.int (Int.ofNat 252) 0), (Value.int (Int.ofNat 3) 0), (Value.int (Int.ofNat 0) 0), (Value.int (Int.ofNat 0) 0), (Value.int (Int.ofNat 3) 0), (R 441), (Value.bool true), (Value.int (Int.ofNat 181) 0), (R 442), Value.none, (R 443), (R 444), (R 445), (Value.int (Int.ofNat 776) 0), (Value.int (Int.ofNat 252) 0), (Value.str (S "/claim/cut.py") 777)])) (List.toArray [])
abbrev o447 (P : Params) : Obj := Obj.mk (Value.type "function") none (Data.func (FuncData.mk (S "_law_terms") (S "_law_terms") (defArgs (T 42)) (FuncBody.stmts (defBody (T 42))) (defScope (T 42)) 3 [] Value.none Value.none Value.none (Value.str (S "law_budwright_k09_texts_that_write_no_sum") 717) none (R 446) Value.none 0)) (List.toArray [])
abbrev o448 (P : Params) : Obj := Obj.mk (Value.type "tuple") none (Data.seq (List.toArray []) 0) (List.toArray [])
abbrev o451 (P : Params) : Obj := Obj.mk (Value.type "code") none (Data.fields (List.toArray [(Value.str (S "_law_book") 779), (Value.str (S "_law_book") 780), (Value.str (S "/claim/cut.py") 781), (Value.int (Int.ofNat 260) 0), (Value.int (Int.ofNat 1) 0), (Value.int (Int.ofNat 0) 0), (Value.int (Int.ofNat 0) 0), (Value.int (Int.ofNat 3) 0), (R 448), (Value.bool true), (Value.int (Int.ofNat 181) 0), (R 449), Value.none, Value.none, Value.none, (R 450), (Value.int (Int.ofNat 782) 0), (Value.int (Int.ofNat 260) 0), (Value.str (S "/claim/cut.py") 783)])) (List.toArray [])
abbrev o452 (P : Params) : Obj := Obj.mk (Value.type "function") none (Data.func (FuncData.mk (S "_law_book") (S "_law_book") (defArgs (T 43)) (FuncBody.stmts (defBody (T 43))) (defScope (T 43)) 3 [] Value.none Value.none Value.none (Value.str (S "law_budwright_k09_texts_that_write_no_sum") 717) none (R 451) Value.none 0)) (List.toArray [])
abbrev o453 (P : Params) : Obj := Obj.mk (Value.type "tuple") none (Data.seq (List.toArray []) 0) (List.toArray [])
abbrev o456 (P : Params) : Obj := Obj.mk (Value.type "code") none (Data.fields (List.toArray [(Value.str (S "_law_told") 785), (Value.str (S "_law_told") 786), (Value.str (S "/claim/cut.py") 787), (Value.int (Int.ofNat 265) 0), (Value.int (Int.ofNat 1) 0), (Value.int (Int.ofNat 0) 0), (Value.int (Int.ofNat 0) 0), (Value.int (Int.ofNat 3) 0), (R 453), (Value.bool true), (Value.int (Int.ofNat 181) 0), (R 454), Value.none, Value.none, Value.none, (R 455), (Value.int (Int.ofNat 788) 0), (Value.int (Int.ofNat 265) 0), (Value.str (S "/claim/cut.py") 789)])) (List.toArray [])
abbrev o457 (P : Params) : Obj := Obj.mk (Value.type "function") none (Data.func (FuncData.mk (S "_law_told") (S "_law_told") (defArgs (T 44)) (FuncBody.stmts (defBody (T 44))) (defScope (T 44)) 3 [] Value.none Value.none Value.none (Value.str (S "law_budwright_k09_texts_that_write_no_sum") 717) none (R 456) Value.none 0)) (List.toArray [])
abbrev o458 (P : Params) : Obj := Obj.mk (Value.type "tuple") none (Data.seq (List.toArray []) 0) (List.toArray [])
abbrev o460 (P : Params) : Obj := Obj.mk (Value.type "tuple") none (Data.seq (List.toArray [(Value.str (S "_law_my_width") 794), (Value.str (S "_law_book_here") 795), (Value.str (S "_law_found") 796), (Value.str (S "_law_powers_here") 797), (Value.str (S "_law_many") 798), (Value.str (S "_law_letters") 799), (Value.str (S "_law_k") 800), (Value.str (S "_law_size") 801)]) 0) (List.toArray [])
abbrev o461 (P : Params) : Obj := Obj.mk (Value.type "tuple") none (Data.seq (List.toArray []) 0) (List.toArray [])
abbrev o463 (P : Params) : Obj := Obj.mk (Value.type "code") none (Data.fields (List.toArray [(Value.str (S "_law_written") 791), (Value.str (S "_law_written") 792), (Value.str (S "/claim/cut.py") 793), (Value.int (Int.ofNat 267) 0), (Value.int (Int.ofNat 2) 0), (Value.int (Int.ofNat 0) 0), (Value.int (Int.ofNat 0) 0), (Value.int (Int.ofNat 3) 0), (R 458), (Value.bool true), (Value.int (Int.ofNat 181) 0), (R 459), Value.none, (R 460), (R 461), (R 462), (Value.int (Int.ofNat 802) 0), (Value.int (Int.ofNat 267) 0), (Value.str (S "/claim/cut.py") 803)])) (List.toArray [])
abbrev o464 (P : Params) : Obj := Obj.mk (Value.type "function") none (Data.func (FuncData.mk (S "_law_written") (S "_law_written") (defArgs (T 45)) (FuncBody.stmts (defBody (T 45))) (defScope (T 45)) 3 [] Value.none Value.none Value.none (Value.str (S "law_budwright_k09_texts_that_write_no_sum") 717) none (R 463) Value.none 0)) (List.toArray [])
abbrev o465 (P : Params) : Obj := Obj.mk (Value.type "tuple") none (Data.seq (List.toArray []) 0) (List.toArray [])
abbrev o468 (P : Params) : Obj := Obj.mk (Value.type "code") none (Data.fields (List.toArray [(Value.str (S "law") 805), (Value.str (S "law") 806), (Value.str (S "/claim/cut.py") 807), (Value.int (Int.ofNat 280) 0), (Value.int (Int.ofNat 1) 0), (Value.int (Int.ofNat 0) 0), (Value.int (Int.ofNat 0) 0), (Value.int (Int.ofNat 3) 0), (R 465), (Value.bool true), (Value.int (Int.ofNat 181) 0), (R 466), Value.none, Value.none, Value.none, (R 467), (Value.int (Int.ofNat 808) 0), (Value.int (Int.ofNat 280) 0), (Value.str (S "/claim/cut.py") 809)])) (List.toArray [])
abbrev o469 (P : Params) : Obj := Obj.mk (Value.type "function") none (Data.func (FuncData.mk (S "law") (S "law") (defArgs (T 46)) (FuncBody.stmts (defBody (T 46))) (defScope (T 46)) 3 [] Value.none Value.none Value.none (Value.str (S "law_budwright_k09_texts_that_write_no_sum") 717) none (R 468) Value.none 0)) (List.toArray [])
def K (P : Params) : Frag := (nat_lit 2, o2 P) :: (nat_lit 3, o3 P) :: (nat_lit 15, o15 P) :: (nat_lit 17, o17 P) :: (nat_lit 18, o18 P) :: (nat_lit 20, o20 P) :: (nat_lit 21, o21 P) :: (nat_lit 22, o22 P) :: (nat_lit 29, o29 P) :: (nat_lit 31, o31 P) :: (nat_lit 32, o32 P) :: (nat_lit 34, o34 P) :: (nat_lit 35, o35 P) :: (nat_lit 36, o36 P) :: (nat_lit 37, o37 P) :: (nat_lit 38, o38 P) :: (nat_lit 39, o39 P) :: (nat_lit 42, o42 P) :: (nat_lit 49, o49 P) :: (nat_lit 51, o51 P) :: (nat_lit 52, o52 P) :: (nat_lit 54, o54 P) :: (nat_lit 55, o55 P) :: (nat_lit 56, o56 P) :: (nat_lit 57, o57 P) :: (nat_lit 58, o58 P) :: (nat_lit 61, o61 P) :: (nat_lit 68, o68 P) :: (nat_lit 70, o70 P) :: (nat_lit 71, o71 P) :: (nat_lit 73, o73 P) :: (nat_lit 74, o74 P) :: (nat_lit 75, o75 P) :: (nat_lit 76, o76 P) :: (nat_lit 77, o77 P) :: (nat_lit 80, o80 P) :: (nat_lit 87, o87 P) :: (nat_lit 89, o89 P) :: (nat_lit 90, o90 P) :: (nat_lit 92, o92 P) :: (nat_lit 93, o93 P) :: (nat_lit 94, o94 P) :: (nat_lit 95, o95 P) :: (nat_lit 96, o96 P) :: (nat_lit 99, o99 P) :: (nat_lit 106, o106 P) :: (nat_lit 108, o108 P) :: (nat_lit 109, o109 P) :: (nat_lit 111, o111 P) :: (nat_lit 112, o112 P) :: (nat_lit 113, o113 P) :: (nat_lit 114, o114 P) :: (nat_lit 115, o115 P) :: (nat_lit 116, o116 P) :: (nat_lit 119, o119 P) :: (nat_lit 126, o126 P) :: (nat_lit 128, o128 P) :: (nat_lit 129, o129 P) :: (nat_lit 131, o131 P) :: (nat_lit 132, o132 P) :: (nat_lit 133, o133 P) :: (nat_lit 134, o134 P) :: (nat_lit 135, o135 P) :: (nat_lit 136, o136 P) :: (nat_lit 139, o139 P) :: (nat_lit 146, o146 P) :: (nat_lit 148, o148 P) :: (nat_lit 149, o149 P) :: (nat_lit 151, o151 P) :: (nat_lit 152, o152 P) :: (nat_lit 153, o153 P) :: (nat_lit 154, o154 P) :: (nat_lit 155, o155 P) :: (nat_lit 156, o156 P) :: (nat_lit 159, o159 P) :: (nat_lit 166, o166 P) :: (nat_lit 168, o168 P) :: (nat_lit 169, o169 P) :: (nat_lit 171, o171 P) :: (nat_lit 172, o172 P) :: (nat_lit 173, o173 P) :: (nat_lit 174, o174 P) :: (nat_lit 175, o175 P) :: (nat_lit 176, o176 P) :: (nat_lit 179, o179 P) :: (nat_lit 182, o182 P) :: (nat_lit 183, o183 P) :: (nat_lit 184, o184 P) :: (nat_lit 186, o186 P) :: (nat_lit 187, o187 P) :: (nat_lit 189, o189 P) :: (nat_lit 190, o190 P) :: (nat_lit 191, o191 P) :: (nat_lit 193, o193 P) :: (nat_lit 194, o194 P) :: (nat_lit 196, o196 P) :: (nat_lit 197, o197 P) :: (nat_lit 198, o198 P) :: (nat_lit 200, o200 P) :: (nat_lit 201, o201 P) :: (nat_lit 203, o203 P) :: (nat_lit 204, o204 P) :: (nat_lit 205, o205 P) :: (nat_lit 207, o207 P) :: (nat_lit 208, o208 P) :: (nat_lit 210, o210 P) :: (nat_lit 211, o211 P) :: (nat_lit 212, o212 P) :: (nat_lit 214, o214 P) :: (nat_lit 215, o215 P) :: (nat_lit 217, o217 P) :: (nat_lit 218, o218 P) :: (nat_lit 219, o219 P) :: (nat_lit 221, o221 P) :: (nat_lit 222, o222 P) :: (nat_lit 224, o224 P) :: (nat_lit 225, o225 P) :: (nat_lit 226, o226 P) :: (nat_lit 228, o228 P) :: (nat_lit 229, o229 P) :: (nat_lit 231, o231 P) :: (nat_lit 232, o232 P) :: (nat_lit 233, o233 P) :: (nat_lit 235, o235 P) :: (nat_lit 236, o236 P) :: (nat_lit 238, o238 P) :: (nat_lit 239, o239 P) :: (nat_lit 240, o240 P) :: (nat_lit 242, o242 P) :: (nat_lit 243, o243 P) :: (nat_lit 245, o245 P) :: (nat_lit 246, o246 P) :: (nat_lit 247, o247 P) :: (nat_lit 249, o249 P) :: (nat_lit 250, o250 P) :: (nat_lit 252, o252 P) :: (nat_lit 253, o253 P) :: (nat_lit 254, o254 P) :: (nat_lit 256, o256 P) :: (nat_lit 257, o257 P) :: (nat_lit 259, o259 P) :: (nat_lit 260, o260 P) :: (nat_lit 268, o268 P) :: (nat_lit 269, o269 P) :: (nat_lit 270, o270 P) :: (nat_lit 273, o273 P) :: (nat_lit 274, o274 P) :: (nat_lit 275, o275 P) :: (nat_lit 277, o277 P) :: (nat_lit 278, o278 P) :: (nat_lit 280, o280 P) :: (nat_lit 281, o281 P) :: (nat_lit 282, o282 P) :: (nat_lit 284, o284 P) :: (nat_lit 285, o285 P) :: (nat_lit 287, o287 P) :: (nat_lit 288, o288 P) :: (nat_lit 289, o289 P) :: (nat_lit 291, o291 P) :: (nat_lit 292, o292 P) :: (nat_lit 294, o294 P) :: (nat_lit 295, o295 P) :: (nat_lit 296, o296 P) :: (nat_lit 298, o298 P) :: (nat_lit 299, o299 P) :: (nat_lit 301, o301 P) :: (nat_lit 302, o302 P) :: (nat_lit 303, o303 P) :: (nat_lit 305, o305 P) :: (nat_lit 306, o306 P) :: (nat_lit 308, o308 P) :: (nat_lit 309, o309 P) :: (nat_lit 310, o310 P) :: (nat_lit 312, o312 P) :: (nat_lit 313, o313 P) :: (nat_lit 315, o315 P) :: (nat_lit 316, o316 P) :: (nat_lit 317, o317 P) :: (nat_lit 319, o319 P) :: (nat_lit 320, o320 P) :: (nat_lit 322, o322 P) :: (nat_lit 323, o323 P) :: (nat_lit 324, o324 P) :: (nat_lit 326, o326 P) :: (nat_lit 327, o327 P) :: (nat_lit 329, o329 P) :: (nat_lit 330, o330 P) :: (nat_lit 331, o331 P) :: (nat_lit 333, o333 P) :: (nat_lit 334, o334 P) :: (nat_lit 336, o336 P) :: (nat_lit 337, o337 P) :: (nat_lit 338, o338 P) :: (nat_lit 340, o340 P) :: (nat_lit 341, o341 P) :: (nat_lit 343, o343 P) :: (nat_lit 344, o344 P) :: (nat_lit 345, o345 P) :: (nat_lit 347, o347 P) :: (nat_lit 348, o348 P) :: (nat_lit 350, o350 P) :: (nat_lit 351, o351 P) :: (nat_lit 352, o352 P) :: (nat_lit 354, o354 P) :: (nat_lit 355, o355 P) :: (nat_lit 357, o357 P) :: (nat_lit 358, o358 P) :: (nat_lit 359, o359 P) :: (nat_lit 361, o361 P) :: (nat_lit 362, o362 P) :: (nat_lit 364, o364 P) :: (nat_lit 365, o365 P) :: (nat_lit 366, o366 P) :: (nat_lit 368, o368 P) :: (nat_lit 369, o369 P) :: (nat_lit 371, o371 P) :: (nat_lit 372, o372 P) :: (nat_lit 373, o373 P) :: (nat_lit 375, o375 P) :: (nat_lit 376, o376 P) :: (nat_lit 378, o378 P) :: (nat_lit 379, o379 P) :: (nat_lit 380, o380 P) :: (nat_lit 382, o382 P) :: (nat_lit 383, o383 P) :: (nat_lit 385, o385 P) :: (nat_lit 386, o386 P) :: (nat_lit 387, o387 P) :: (nat_lit 388, o388 P) :: (nat_lit 389, o389 P) :: (nat_lit 390, o390 P) :: (nat_lit 391, o391 P) :: (nat_lit 394, o394 P) :: (nat_lit 396, o396 P) :: (nat_lit 397, o397 P) :: (nat_lit 399, o399 P) :: (nat_lit 400, o400 P) :: (nat_lit 401, o401 P) :: (nat_lit 403, o403 P) :: (nat_lit 404, o404 P) :: (nat_lit 406, o406 P) :: (nat_lit 407, o407 P) :: (nat_lit 408, o408 P) :: (nat_lit 410, o410 P) :: (nat_lit 411, o411 P) :: (nat_lit 413, o413 P) :: (nat_lit 414, o414 P) :: (nat_lit 415, o415 P) :: (nat_lit 417, o417 P) :: (nat_lit 418, o418 P) :: (nat_lit 420, o420 P) :: (nat_lit 421, o421 P) :: (nat_lit 422, o422 P) :: (nat_lit 424, o424 P) :: (nat_lit 425, o425 P) :: (nat_lit 427, o427 P) :: (nat_lit 428, o428 P) :: (nat_lit 429, o429 P) :: (nat_lit 431, o431 P) :: (nat_lit 432, o432 P) :: (nat_lit 434, o434 P) :: (nat_lit 435, o435 P) :: (nat_lit 436, o436 P) :: (nat_lit 439, o439 P) :: (nat_lit 440, o440 P) :: (nat_lit 441, o441 P) :: (nat_lit 443, o443 P) :: (nat_lit 444, o444 P) :: (nat_lit 446, o446 P) :: (nat_lit 447, o447 P) :: (nat_lit 448, o448 P) :: (nat_lit 451, o451 P) :: (nat_lit 452, o452 P) :: (nat_lit 453, o453 P) :: (nat_lit 456, o456 P) :: (nat_lit 457, o457 P) :: (nat_lit 458, o458 P) :: (nat_lit 460, o460 P) :: (nat_lit 461, o461 P) :: (nat_lit 463, o463 P) :: (nat_lit 464, o464 P) :: (nat_lit 465, o465 P) :: (nat_lit 468, o468 P) :: (nat_lit 469, o469 P) :: []
def as : List Addr := nat_lit 2 :: nat_lit 3 :: nat_lit 15 :: nat_lit 17 :: nat_lit 18 :: nat_lit 20 :: nat_lit 21 :: nat_lit 22 :: nat_lit 29 :: nat_lit 31 :: nat_lit 32 :: nat_lit 34 :: nat_lit 35 :: nat_lit 36 :: nat_lit 37 :: nat_lit 38 :: nat_lit 39 :: nat_lit 42 :: nat_lit 49 :: nat_lit 51 :: nat_lit 52 :: nat_lit 54 :: nat_lit 55 :: nat_lit 56 :: nat_lit 57 :: nat_lit 58 :: nat_lit 61 :: nat_lit 68 :: nat_lit 70 :: nat_lit 71 :: nat_lit 73 :: nat_lit 74 :: nat_lit 75 :: nat_lit 76 :: nat_lit 77 :: nat_lit 80 :: nat_lit 87 :: nat_lit 89 :: nat_lit 90 :: nat_lit 92 :: nat_lit 93 :: nat_lit 94 :: nat_lit 95 :: nat_lit 96 :: nat_lit 99 :: nat_lit 106 :: nat_lit 108 :: nat_lit 109 :: nat_lit 111 :: nat_lit 112 :: nat_lit 113 :: nat_lit 114 :: nat_lit 115 :: nat_lit 116 :: nat_lit 119 :: nat_lit 126 :: nat_lit 128 :: nat_lit 129 :: nat_lit 131 :: nat_lit 132 :: nat_lit 133 :: nat_lit 134 :: nat_lit 135 :: nat_lit 136 :: nat_lit 139 :: nat_lit 146 :: nat_lit 148 :: nat_lit 149 :: nat_lit 151 :: nat_lit 152 :: nat_lit 153 :: nat_lit 154 :: nat_lit 155 :: nat_lit 156 :: nat_lit 159 :: nat_lit 166 :: nat_lit 168 :: nat_lit 169 :: nat_lit 171 :: nat_lit 172 :: nat_lit 173 :: nat_lit 174 :: nat_lit 175 :: nat_lit 176 :: nat_lit 179 :: nat_lit 182 :: nat_lit 183 :: nat_lit 184 :: nat_lit 186 :: nat_lit 187 :: nat_lit 189 :: nat_lit 190 :: nat_lit 191 :: nat_lit 193 :: nat_lit 194 :: nat_lit 196 :: nat_lit 197 :: nat_lit 198 :: nat_lit 200 :: nat_lit 201 :: nat_lit 203 :: nat_lit 204 :: nat_lit 205 :: nat_lit 207 :: nat_lit 208 :: nat_lit 210 :: nat_lit 211 :: nat_lit 212 :: nat_lit 214 :: nat_lit 215 :: nat_lit 217 :: nat_lit 218 :: nat_lit 219 :: nat_lit 221 :: nat_lit 222 :: nat_lit 224 :: nat_lit 225 :: nat_lit 226 :: nat_lit 228 :: nat_lit 229 :: nat_lit 231 :: nat_lit 232 :: nat_lit 233 :: nat_lit 235 :: nat_lit 236 :: nat_lit 238 :: nat_lit 239 :: nat_lit 240 :: nat_lit 242 :: nat_lit 243 :: nat_lit 245 :: nat_lit 246 :: nat_lit 247 :: nat_lit 249 :: nat_lit 250 :: nat_lit 252 :: nat_lit 253 :: nat_lit 254 :: nat_lit 256 :: nat_lit 257 :: nat_lit 259 :: nat_lit 260 :: nat_lit 268 :: nat_lit 269 :: nat_lit 270 :: nat_lit 273 :: nat_lit 274 :: nat_lit 275 :: nat_lit 277 :: nat_lit 278 :: nat_lit 280 :: nat_lit 281 :: nat_lit 282 :: nat_lit 284 :: nat_lit 285 :: nat_lit 287 :: nat_lit 288 :: nat_lit 289 :: nat_lit 291 :: nat_lit 292 :: nat_lit 294 :: nat_lit 295 :: nat_lit 296 :: nat_lit 298 :: nat_lit 299 :: nat_lit 301 :: nat_lit 302 :: nat_lit 303 :: nat_lit 305 :: nat_lit 306 :: nat_lit 308 :: nat_lit 309 :: nat_lit 310 :: nat_lit 312 :: nat_lit 313 :: nat_lit 315 :: nat_lit 316 :: nat_lit 317 :: nat_lit 319 :: nat_lit 320 :: nat_lit 322 :: nat_lit 323 :: nat_lit 324 :: nat_lit 326 :: nat_lit 327 :: nat_lit 329 :: nat_lit 330 :: nat_lit 331 :: nat_lit 333 :: nat_lit 334 :: nat_lit 336 :: nat_lit 337 :: nat_lit 338 :: nat_lit 340 :: nat_lit 341 :: nat_lit 343 :: nat_lit 344 :: nat_lit 345 :: nat_lit 347 :: nat_lit 348 :: nat_lit 350 :: nat_lit 351 :: nat_lit 352 :: nat_lit 354 :: nat_lit 355 :: nat_lit 357 :: nat_lit 358 :: nat_lit 359 :: nat_lit 361 :: nat_lit 362 :: nat_lit 364 :: nat_lit 365 :: nat_lit 366 :: nat_lit 368 :: nat_lit 369 :: nat_lit 371 :: nat_lit 372 :: nat_lit 373 :: nat_lit 375 :: nat_lit 376 :: nat_lit 378 :: nat_lit 379 :: nat_lit 380 :: nat_lit 382 :: nat_lit 383 :: nat_lit 385 :: nat_lit 386 :: nat_lit 387 :: nat_lit 388 :: nat_lit 389 :: nat_lit 390 :: nat_lit 391 :: nat_lit 394 :: nat_lit 396 :: nat_lit 397 :: nat_lit 399 :: nat_lit 400 :: nat_lit 401 :: nat_lit 403 :: nat_lit 404 :: nat_lit 406 :: nat_lit 407 :: nat_lit 408 :: nat_lit 410 :: nat_lit 411 :: nat_lit 413 :: nat_lit 414 :: nat_lit 415 :: nat_lit 417 :: nat_lit 418 :: nat_lit 420 :: nat_lit 421 :: nat_lit 422 :: nat_lit 424 :: nat_lit 425 :: nat_lit 427 :: nat_lit 428 :: nat_lit 429 :: nat_lit 431 :: nat_lit 432 :: nat_lit 434 :: nat_lit 435 :: nat_lit 436 :: nat_lit 439 :: nat_lit 440 :: nat_lit 441 :: nat_lit 443 :: nat_lit 444 :: nat_lit 446 :: nat_lit 447 :: nat_lit 448 :: nat_lit 451 :: nat_lit 452 :: nat_lit 453 :: nat_lit 456 :: nat_lit 457 :: nat_lit 458 :: nat_lit 460 :: nat_lit 461 :: nat_lit 463 :: nat_lit 464 :: nat_lit 465 :: nat_lit 468 :: nat_lit 469 :: []

abbrev qv : Program := view Rw.prog [46]
def names0 : List PySem.Str := [PySem.Str.ofString "_wall", PySem.Str.ofString "__name__", PySem.Str.ofString "BudError", PySem.Str.ofString "BadSum", PySem.Str.ofString "Great", PySem.Str.ofString "BadText", PySem.Str.ofString "NoPart", PySem.Str.ofString "NoPlace", PySem.Str.ofString "Lacking", PySem.Str.ofString "NothingLeft", PySem.Str.ofString "gathered", PySem.Str.ofString "FIGURES", PySem.Str.ofString "CHUNK_FIGURES", PySem.Str.ofString "CHUNK", PySem.Str.ofString "whole_text"]
def names1 : List PySem.Str := [PySem.Str.ofString "leading_figures", PySem.Str.ofString "read_number", PySem.Str.ofString "LETTERS", PySem.Str.ofString "COUNT_FIGURES", PySem.Str.ofString "POWER_FIGURES", PySem.Str.ofString "letters_text", PySem.Str.ofString "product_text", PySem.Str.ofString "sum_pieces", PySem.Str.ofString "power_end", PySem.Str.ofString "read_letters", PySem.Str.ofString "read_product", PySem.Str.ofString "signed_pieces", PySem.Str.ofString "read_products", PySem.Str.ofString "WIDE", PySem.Str.ofString "Sum"]
def names2 : List PySem.Str := [PySem.Str.ofString "read_sum", PySem.Str.ofString "_law_feed", PySem.Str.ofString "_law_draw", PySem.Str.ofString "_law_pick", PySem.Str.ofString "_law_word", PySem.Str.ofString "_law_great_number", PySem.Str.ofString "_law_powers", PySem.Str.ofString "_law_terms", PySem.Str.ofString "_law_book", PySem.Str.ofString "_law_told", PySem.Str.ofString "_law_written"]
def names : List PySem.Str := names0 ++ (names1 ++ (names2))

theorem as_eq (P : Params) : as = (K P).map (·.1) := rfl
abbrev hk : Hook := kHook K as as_eq
def ob (s : SharedT) : hk.α := as.map (HandSHeadRun.getT s)
theorem ob_eq (s : SharedT) : ob s = hk.obs s.abs := List.map_congr_left fun a _ => HandSHeadRun.getT_eq s a
theorem run (w : World) : HandSHeadRun.RunEq Rw qv hk ob 7000 names w := by
  intro os
  kernel_rfl
end Hd
set_option Elab.async false
set_option linter.all false
set_option maxRecDepth 100000
set_option maxHeartbeats 2000000
namespace Bw
open PySem PySem.Spec PyProof.Rows L2
section
variable {P : Program} {w : World} {K : PySem.W.Frag} {mg : Str → Option Value} {base : Heap}
abbrev s_law_draw : Stmt := topS 37
abbrev n_law_draw : List Str := ["_law_feed_here", "_law_many", "_law_cell", "_law_digit", "_law_mix"]
theorem sc_law_draw : FnScope n_law_draw ["_law_feed_here", "_law_many"] (defScope s_law_draw) := ⟨rfl, rfl, rfl, by decide +kernel, rfl, by decide +kernel, by decide +kernel⟩
def spDraw : Sp := fun vs H Q _ => ∃ (f l : Addr) (n : Int), vs = [.ref f, .int n] ∧ FeedAt H f l ∧ 0 < n ∧ n.natAbs < 2 ^ 200 ∧ ∀ (v : Int) (H' : Hp), 0 ≤ v → v < n → SameBut f H H' → FeedAt H' f l → Q (.int v) H'
theorem ok_draw {f : Addr} {fd : FuncData} {k : Nat} (F : Fun K "_law_draw" "_law_draw" s_law_draw f fd) (T : Tx mg) : FnOk P w K mg base CX0 (k + 1) f fd ["_law_feed_here", "_law_many"] spDraw := by
  refine F.ok sc_law_draw (fun vs H Q E h => ?_) (fun cdv A outer s H vs Q E hr h => ?_)
  · obtain ⟨f, l, n, rfl, _⟩ := h
    rfl
  · obtain ⟨f, l, r, rfl, ⟨ns, i, n, m, c, nlf, hf, hl, hi, hn, hm, hm2⟩, hr0, hr1, q⟩ := h
    refine ⟨_, (C8.pss_cut (ps_if (PW.pt (pw_and (pt_cmpR op_eq (pe_ix ix_list (pv 0) pe_int (fun _ _ => rfl)) pe_int (nomark _)) (pw_and1 (pt_cmpR op_lt (pe_ix ix_list (pv 0) pe_int (fun _ _ => rfl)) (pe_callB call_len_seq (by rfl) T.len PySem.boot_len (pa_cons (pe_ix ix_list (pv 0) pe_int (fun _ _ => rfl)) pa_nil)) (nomark _)))))
    (pss_cons (ps_set (i := 2) sc_law_draw.nd rfl (.inl rfl) (pe_ix ix_list (pe_ix ix_list (pv 0) pe_int (fun _ _ => rfl)) (pe_ix ix_list (pv 0) pe_int (fun _ _ => rfl)) (fun _ _ => rfl)))
    (pss_cons (ps_asg (pe_op op_add (pe_ix ix_list (pv 0) pe_int (fun _ _ => rfl)) pe_int) (pg_sub (pv 0) pe_int set_list))
    (pss_one (ps_if (pt_cmpR op_ge (pv 2) (pe_op op_pow pe_int pe_int) (nomark _))
      (pss_one (ps_asg (pv 2) (pg_sub (pv 0) pe_int set_list)))
      (pss_one (ps_asg (pe_op op_mod (pe_op op_add (pe_op op_add (pe_op op_mul (pe_ix ix_list (pv 0) pe_int (fun _ _ => rfl)) pe_int) (pe_op op_mul (pe_op op_mod (pv 2) pe_int) pe_int)) pe_int) pe_int) (pg_sub (pv 0) pe_int set_list)))))))
    pss_nil)
  (pss_cons (ps_if (pt_cmpR op_gt (pe_ix ix_list (pv 0) pe_int (fun _ _ => rfl)) pe_int (nomark _))
    (pss_cons (ps_set (i := 3) sc_law_draw.nd rfl (.inl rfl) (pe_op op_mod (pe_ix ix_list (pv 0) pe_int (fun _ _ => rfl)) (pv 1)))
    (pss_cons (ps_asg (pe_op op_fdivW (pe_ix ix_list (pv 0) pe_int (fun _ _ => rfl)) (pv 1)) (pg_sub (pv 0) pe_int set_list))
    (pss_one (ps_ret (pv 3)))))
    pss_nil)
  (pss_cons (ps_asg (pe_op op_add (pe_ix ix_list (pv 0) pe_int (fun _ _ => rfl)) pe_int) (pg_sub (pv 0) pe_int set_list))
  (pss_cons (ps_set (i := 4) sc_law_draw.nd rfl (.inl rfl) (pe_ix ix_list (pv 0) pe_int (fun _ _ => rfl)))
  (pss_cons (ps_set (i := 4) sc_law_draw.nd rfl (.inl rfl) (pe_op op_add (pe_op op_add (pe_op op_add (pe_op op_mul (pe_op op_mod (pe_op op_mul (pv 4) (pv 4)) pe_int) pe_int) (pe_op op_mul (pv 4) pe_int)) (pe_op op_mul pe_int (pe_ix ix_list (pv 0) pe_int (fun _ _ => rfl)))) pe_int))
  (pss_cons (ps_asg (pe_op op_mod (pv 4) pe_int) (pg_sub (pv 0) pe_int set_list))
  (pss_one (ps_ret (pe_op op_mod (pe_op op_add (pe_op op_fdiv (pe_ix ix_list (pv 0) pe_int (fun _ _ => rfl)) pe_int) (pe_op op_mul (pe_op op_mod (pe_ix ix_list (pv 0) pe_int (fun _ _ => rfl)) pe_int) pe_int)) (pv 1)))))))))), ?_⟩
    -- between: a feed of the same list
    refine ⟨fun σ H2 => ∃ (y : Option V) (i : Nat) (n m : Int), σ = [some (.ref f), some (.int r), y, none, none] ∧ SameBut f H H2 ∧ H2 f = some (.lst [.ref l, .int i, .int n, .int m, .int c]) ∧ i ≤ ns.length ∧ 0 ≤ n ∧ 0 ≤ m ∧ m < 2147483647, ?_, ?_⟩
    · refine ⟨.ref f, rfl, f, _, 2, .int n, rfl, rfl, SqL.of hf, rfl, rfl, _, rfl, ite2 (fun e => ?_) (fun e => iteF ?_)⟩
      · refine ⟨.ref f, rfl, f, _, 1, .int i, rfl, rfl, SqL.of hf, rfl, .ref f, rfl, f, _, 0, .ref l, rfl, rfl, SqL.of hf, rfl, l, _, rfl, .inl (SqL.of hl), _, _, rfl, rfl, _, rfl, ite2 (fun e => ?_) (fun e => ?_)⟩
        · have hlt : i < ns.length := by
            have := of_decide_eq_true e
            rw [List.length_map] at this
            omega
          have g1 : (ns.map V.int)[i]? = some (.int ns[i]) := by
            rw [List.getElem?_map, List.getElem?_eq_getElem hlt]
            rfl
          generalize ns[i] = u at g1
          -- cell = feed[0][feed[1]]; feed[1] = feed[1] + 1
          refine ⟨.ref f, rfl, f, _, 0, .ref l, rfl, rfl, SqL.of hf, rfl, .ref f, rfl, f, _, 1, .int i, rfl, rfl, SqL.of hf, rfl, l, _, i, .int u, rfl, rfl, SqL.of hl, atI_nat g1, ?_⟩
          refine ⟨.ref f, rfl, f, _, 1, .int i, rfl, rfl, SqL.of hf, rfl, _, _, rfl, rfl, .ref f, rfl, f, _, 1, 1, rfl, rfl, hf, rfl, ?_⟩
          -- if cell >= 10 ** 18
          refine ⟨.int u, rfl, _, _, rfl, rfl, ⟨by decide, by decide, by decide⟩, _, _, rfl, rfl, _, rfl, ite2 (fun e => ?_) (fun e => ?_)⟩
          · have h0 : 0 ≤ u := Int.le_trans (by decide : (0 : Int) ≤ 10 ^ Int.toNat 18) (of_decide_eq_true e)
            refine ⟨.int u, rfl, .ref f, rfl, f, _, 2, 2, rfl, rfl, upd_same, rfl, ?_⟩
            exact ⟨_, i + 1, u, m, rfl, SameBut.upd (SameBut.upd (.refl _ _)), upd_same, hlt, h0, hm, hm2⟩
          · refine ⟨.ref f, rfl, f, _, 3, .int m, rfl, rfl, SqL.of upd_same, rfl, _, _, rfl, rfl, .inl ⟨by omega, by omega⟩, .int u, rfl, _, _, rfl, rfl, (by show (0 : Int) < 1000000007; decide), _, _, rfl, rfl, .inr ⟨by decide, by decide⟩, _, _, rfl, rfl, _, _, rfl, rfl, _, _, rfl, rfl, (by show (0 : Int) < 2147483647; decide), ?_⟩
            refine ⟨.ref f, rfl, f, _, 3, 3, rfl, rfl, upd_same, rfl, ?_⟩
            exact ⟨_, i + 1, n, _, rfl, SameBut.upd (SameBut.upd (.refl _ _)), upd_same, hlt, hn, Int.emod_nonneg _ (by decide), Int.emod_lt_of_pos _ (by decide)⟩
        · exact ⟨none, i, n, m, rfl, .refl _ _, hf, hi, hn, hm, hm2⟩
      · exact ⟨none, i, n, m, rfl, .refl _ _, hf, hi, hn, hm, hm2⟩
    · rintro σ H2 ⟨y, i, n, m, rfl, sb, hf, hi, hn, hm, hm2⟩
      have hl2 : H2 l = some (.lst (ns.map V.int)) := sb _ _ nlf hl
      -- if feed[2] > 0
      refine ⟨.ref f, rfl, f, _, 2, .int n, rfl, rfl, SqL.of hf, rfl, _, _, rfl, rfl, _, rfl, ite2 (fun e => ?_) (fun e => ?_)⟩
      · refine ⟨.ref f, rfl, f, _, 2, .int n, rfl, rfl, SqL.of hf, rfl, .int r, rfl, _, _, rfl, rfl, hr0, ?_⟩
        refine ⟨.ref f, rfl, f, _, 2, .int n, rfl, rfl, SqL.of hf, rfl, .int r, rfl, _, _, rfl, rfl, wide_div hr0 hr1 (by decide) (by decide), .ref f, rfl, f, _, 2, 2, rfl, rfl, hf, rfl, ?_⟩
        refine ⟨_, rfl, q _ _ (Int.emod_nonneg _ (by omega)) (Int.emod_lt_of_pos _ hr0) sb.upd ⟨ns, i, _, m, c, nlf, upd_same, by rw [upd_ne nlf]; exact hl2, hi, Int.ediv_nonneg hn (by omega), hm, hm2⟩⟩
      · -- feed[4] = feed[4] + 1
        refine ⟨.ref f, rfl, f, _, 4, .int c, rfl, rfl, SqL.of hf, rfl, _, _, rfl, rfl, .ref f, rfl, f, _, 4, 4, rfl, rfl, hf, rfl, ?_⟩
        -- mix
        refine ⟨.ref f, rfl, f, _, 3, .int m, rfl, rfl, SqL.of upd_same, rfl, ?_⟩
        refine ⟨.int m, rfl, .int m, rfl, _, _, rfl, rfl, .inl ⟨by omega, by omega⟩, _, _, rfl, rfl, (by show (0 : Int) < 2147483587; decide), _, _, rfl, rfl, .inr ⟨by decide, by decide⟩, .int m, rfl, _, _, rfl, rfl, .inr ⟨by decide, by decide⟩, _, _, rfl, rfl, .ref f, rfl, f, _, 4, _, rfl, rfl, SqL.of upd_same, rfl, _, _, rfl, rfl, .inl ⟨by decide, by decide⟩, _, _, rfl, rfl, _, _, rfl, rfl, ?_⟩
        refine ⟨_, rfl, _, _, rfl, rfl, (by show (0 : Int) < 2147483647; decide), .ref f, rfl, f, _, 3, 3, rfl, rfl, upd_same, rfl, ?_⟩
        have a1 : ∀ z : Int, 0 ≤ z % 2147483647 := fun z => Int.emod_nonneg _ (by decide)
        have a2 : ∀ z : Int, z % 2147483647 < 2147483647 := fun z => Int.emod_lt_of_pos _ (by decide)
        refine ⟨.ref f, rfl, f, _, 3, _, rfl, rfl, SqL.of upd_same, rfl, _, _, rfl, rfl, ⟨by decide, by decide⟩, .ref f, rfl, f, _, 3, _, rfl, rfl, SqL.of upd_same, rfl, _, _, rfl, rfl, (by show (0 : Int) < 4093; decide), _, _, rfl, rfl, .inr ⟨by decide, by decide⟩, _, _, rfl, rfl, .int r, rfl, _, _, rfl, rfl, hr0, ?_⟩
        refine q _ _ (Int.emod_nonneg _ (by omega)) (Int.emod_lt_of_pos _ hr0) (SameBut.upd sb.upd) ⟨ns, i, n, _, _, nlf, upd_same, by rw [upd_ne nlf, upd_ne nlf]; exact hl2, hi, hn, a1 _, a2 _⟩
end
end Bw
set_option Elab.async false
set_option linter.all false
set_option maxRecDepth 100000
set_option maxHeartbeats 2000000
namespace Bw
open PySem PySem.Spec PyProof.Rows L2
section
variable {P : Program} {w : World} {K : PySem.W.Frag} {mg : Str → Option Value} {base : Heap}
/-! ### the feed made -/
abbrev s_law_feed : Stmt := topS 36
abbrev n_law_feed : List Str := ["_law_script"]
theorem sc_law_feed : FnScope n_law_feed ["_law_script"] (defScope s_law_feed) := ⟨rfl, rfl, rfl, by decide +kernel, rfl, by decide +kernel, by decide +kernel⟩
def spFeed (K : PySem.W.Frag) : Sp := fun vs H Q _ => ∃ (a : Addr) (ns : List Int), vs = [.ref a] ∧ SqL K H a (ns.map V.int) ∧ ∀ (f l : Addr) (H' : Hp), Same H H' → H f = none → FeedAt H' f l → Q (.ref f) H'
theorem ok_feed {f : Addr} {fd : FuncData} {k : Nat} (F : Fun K "_law_feed" "_law_feed" s_law_feed f fd) (T : Tx mg) : FnOk P w K mg base CX0 (k + 1) f fd ["_law_script"] (spFeed K) := by
  refine F.ok sc_law_feed (fun vs H Q E h => ?_) (fun cdv A outer s H vs Q E hr h => ?_)
  · obtain ⟨a, ns, rfl, _⟩ := h
    rfl
  · obtain ⟨a, ns, rfl, hS, q⟩ := h
    refine ⟨_, (pss_one (ps_ret (pe_lst (pa_cons (pe_callTy call_list_of (by rfl) T.list (by decide +kernel) (pa_cons (pe_slice sl_list (pv 0) po_none (po_some pe_int)) pa_nil)) (pa_cons pe_int (pa_cons pe_int (pa_cons pe_int (pa_cons pe_int pa_nil)))))))), ?_⟩
    refine ⟨.ref a, rfl, 63, rfl, a, _, rfl, hS, fun c nc => ?_⟩
    refine ⟨c, _, rfl, .inl (SqL.of upd_same), fun l nl => ?_⟩
    refine ⟨by show 5 ≤ sizeLine; decide, fun g ng => ?_⟩
    have s1 : Same H (upd H c (.lst (cutV (ns.map V.int) none (some 63)))) := same_upd nc
    have s2 := s1.trans (same_upd (o := .lst (cutV (ns.map V.int) none (some 63))) nl)
    have s3 := s2.trans (same_upd (o := .lst [.ref l, .int 0, .int 0, .int 9106, .int 0]) ng)
    have nlg : l ≠ g := fun e => by
      rw [← e, upd_same] at ng
      cases ng
    refine q g l _ s3 (s2.free ng) ⟨(ns.drop (HT.sIx (ns.map V.int).length 0 none)).take (HT.sIx (ns.map V.int).length (ns.map V.int).length (some 63) - HT.sIx (ns.map V.int).length 0 none), 0, 0, 9106, 0, nlg, upd_same, ?_, Nat.zero_le _, by decide, by decide, by decide⟩
    rw [upd_ne nlg, upd_same]
    unfold cutV
    rw [List.map_take, List.map_drop]
/-! ### one of a row -/
abbrev s_law_pick : Stmt := topS 38
abbrev n_law_pick : List Str := ["_law_feed_here", "_law_row"]
theorem sc_law_pick : FnScope n_law_pick ["_law_feed_here", "_law_row"] (defScope s_law_pick) := ⟨rfl, rfl, rfl, by decide +kernel, rfl, by decide +kernel, by decide +kernel⟩
def spPick : Sp := fun vs H Q _ => ∃ (f l a : Addr) (xs : List V), vs = [.ref f, .ref a] ∧ FeedAt H f l ∧ H a = some (.lst xs) ∧ a ≠ f ∧ 0 < xs.length ∧ xs.length < 1000 ∧ ∀ (v : V) (H' : Hp), v ∈ xs → SameBut f H H' → FeedAt H' f l → Q v H'
theorem ok_pick {f : Addr} {fd : FuncData} {k j : Nat} (F : Fun K "_law_pick" "_law_pick" s_law_pick f fd) (T : Tx mg) (c_law_draw : Cal P w K mg base CX0 k "_law_draw" ["_law_feed_here", "_law_many"] spDraw) : FnOk P w K mg base CX0 (k + 1) f fd ["_law_feed_here", "_law_row"] spPick := by
  refine F.ok sc_law_pick (fun vs H Q E h => ?_) (fun cdv A outer s H vs Q E hr h => ?_)
  · obtain ⟨f, l, a, xs, rfl, _⟩ := h
    rfl
  · obtain ⟨f, l, a, xs, rfl, hf, ha, naf, h0, h1, q⟩ := h
    refine ⟨_, (pss_one (ps_ret (pe_ix ix_list (pv 1) (pe_cal c_law_draw hr (by rfl) (pa_cons (pv 0) (pa_cons (pe_callB call_len_seq (by rfl) T.len PySem.boot_len (pa_cons (pv 1) pa_nil)) pa_nil))) (fun _ _ => rfl)))), ?_⟩
    refine ⟨.ref a, rfl, .ref f, rfl, .ref a, rfl, a, _, rfl, .inl (SqL.of ha), f, l, _, rfl, hf, by omega, Nat.lt_trans (show ((xs.length : Int)).natAbs < 1000 by omega) (by decide), fun v H' v0 v1 sb hf' => ?_⟩
    obtain ⟨n, rfl⟩ : ∃ n : Nat, v = (n : Int) := ⟨v.toNat, by omega⟩
    have hn : n < xs.length := by omega
    exact ⟨a, xs, _, xs[n], rfl, rfl, SqL.of (sb _ _ naf ha), atI_nat (List.getElem?_eq_getElem hn), q _ _ (List.getElem_mem hn) sb hf'⟩
end
end Bw
set_option Elab.async false
set_option linter.all false
set_option maxRecDepth 100000
set_option maxHeartbeats 4000000
namespace Bw
open PySem PySem.Spec PyProof.Rows L2
/-! ### walks whose turn is any reading -/
theorem it_list {K : PySem.W.Frag} {a : Addr} {xs : List V} {H1 : Hp} {Qd : Hp → Prop} {Body : V → Hp → (Hp → Prop) → Prop} (Pv : Nat → Hp → Prop) (h0 : Pv 0 H1) (hl : ∀ i H, i ≤ xs.length → Pv i H → SqL K H a xs)
    (hs : ∀ i x H, xs[i]? = some x → Pv i H → Body x H (Pv (i + 1))) (hd : ∀ H, Pv xs.length H → Qd H) :
    ∃ W : Nat → Nat → Hp → Prop, (∃ m, W 0 m H1) ∧ ∀ i m H, W i m H → ((Itl K a).stop i H ∧ Qd H) ∨ ((Itl K a).go i H ∧ ∃ Nx : Hp → Prop, (∀ H', Nx H' → ∃ m', m' < m ∧ W (i + 1) m' H') ∧ ∀ x H', (Itl K a).yld i H x H' → Body x H' Nx) := by
  refine ⟨fun i m H => m = xs.length - i ∧ i ≤ xs.length ∧ Pv i H, ⟨xs.length, by simp, Nat.zero_le _, h0⟩, ?_⟩
  rintro i m H ⟨rfl, hi, p⟩
  have q := hl i H hi p
  by_cases hlt : i < xs.length
  · refine .inr ⟨⟨xs, xs[i], q, by simp [hlt]⟩, Pv (i + 1), fun H' p' => ⟨xs.length - (i + 1), by omega, rfl, hlt, p'⟩, fun x H' y => ?_⟩
    obtain ⟨e, y⟩ := y
    subst e
    exact hs i x _ (y _ q) p
  · exact .inl ⟨⟨xs, q, by omega⟩, hd H (by
      have : i = xs.length := by omega
      rw [this] at p
      exact p)⟩
theorem it_range {lo : Int} {n : Nat} {H1 : Hp} {Qd : Hp → Prop} {Body : V → Hp → (Hp → Prop) → Prop} (Pv : Nat → Hp → Prop) (h0 : Pv 0 H1) (hs : ∀ i H, i < n → Pv i H → Body (.int (lo + i)) H (Pv (i + 1))) (hd : ∀ H, Pv n H → Qd H) :
    ∃ W : Nat → Nat → Hp → Prop, (∃ m, W 0 m H1) ∧ ∀ i m H, W i m H → ((Itr lo n).stop i H ∧ Qd H) ∨ ((Itr lo n).go i H ∧ ∃ Nx : Hp → Prop, (∀ H', Nx H' → ∃ m', m' < m ∧ W (i + 1) m' H') ∧ ∀ x H', (Itr lo n).yld i H x H' → Body x H' Nx) := by
  refine ⟨fun i m H => m = n - i ∧ i ≤ n ∧ Pv i H, ⟨n, by simp, Nat.zero_le _, h0⟩, ?_⟩
  rintro i m H ⟨rfl, hi, p⟩
  by_cases hlt : i < n
  · refine .inr ⟨hlt, Pv (i + 1), fun H' p' => ⟨n - (i + 1), by omega, rfl, hlt, p'⟩, fun x H' y => ?_⟩
    obtain ⟨e, y⟩ := y
    subst e y
    exact hs i _ hlt p
  · exact .inl ⟨(by show n ≤ i; omega), hd H (by
      have : i = n := by omega
      rw [this] at p
      exact p)⟩
theorem all_rep (n : Nat) : (List.replicate n true).all id = true := by
  rw [List.all_eq_true]
  intro x hx
  exact List.eq_of_mem_replicate hx
theorem it_zipT {K : PySem.W.Frag} {a b : Addr} {xs ys : List V} {H1 : Hp} {Qd : Hp → Prop} {Body : V → Hp → (Hp → Prop) → Prop} (hl : xs.length = ys.length) (Pv : Nat → Hp → Prop) (h0 : Pv 0 H1) (hq : ∀ i H, Pv i H → SqT K H a xs ∧ SqT K H b ys)
    (hs : ∀ (i : Nat) (x y : V) (T : Addr) (H : Hp), xs[i]? = some x → ys[i]? = some y → Pv i H → H T = none → Body (.ref T) (upd H T (.tup [x, y])) (Pv (i + 1))) (hd : ∀ H, Pv xs.length H → Qd H) :
    ∃ W : Nat → Nat → Hp → Prop, (∃ m, W 0 m H1) ∧ ∀ i m H, W i m H → ((RZ.ItzT K a b).stop i H ∧ Qd H) ∨ ((RZ.ItzT K a b).go i H ∧ ∃ Nx : Hp → Prop, (∀ H', Nx H' → ∃ m', m' < m ∧ W (i + 1) m' H') ∧ ∀ x H', (RZ.ItzT K a b).yld i H x H' → Body x H' Nx) := by
  refine ⟨fun i m H => m = xs.length - i ∧ i ≤ xs.length ∧ Pv i H, ⟨xs.length, rfl, Nat.zero_le _, h0⟩, ?_⟩
  rintro i m H ⟨rfl, hi, p⟩
  obtain ⟨qx, qy⟩ := hq i H p
  by_cases hlt : i < xs.length
  · have hx : xs[i]? = some xs[i] := List.getElem?_eq_getElem hlt
    have hy : ys[i]? = some ys[i] := List.getElem?_eq_getElem (by omega)
    refine .inr ⟨⟨xs, ys, _, _, qx, qy, hx, hy⟩, Pv (i + 1), fun H' p' => ⟨xs.length - (i + 1), by omega, rfl, hlt, p'⟩, fun v H' y => ?_⟩
    obtain ⟨T, x', y', rfl, hT, rfl, f1, f2⟩ := y
    exact hs i x' y' T H (f1 xs qx) (f2 ys qy) p hT
  · have e : i = xs.length := by omega
    subst e
    exact .inl ⟨⟨xs, ys, qx, qy, Or.inl (Nat.le_refl _)⟩, hd H p⟩
theorem it_zipL {K : PySem.W.Frag} {a b : Addr} {xs ys : List V} {H1 : Hp} {Qd : Hp → Prop} {Body : V → Hp → (Hp → Prop) → Prop} (hl : xs.length = ys.length) (Pv : Nat → Hp → Prop) (h0 : Pv 0 H1) (hq : ∀ i H, Pv i H → SqL K H a xs ∧ SqL K H b ys)
    (hs : ∀ (i : Nat) (x y : V) (T : Addr) (H : Hp), xs[i]? = some x → ys[i]? = some y → Pv i H → H T = none → Body (.ref T) (upd H T (.tup [x, y])) (Pv (i + 1))) (hd : ∀ H, Pv xs.length H → Qd H) :
    ∃ W : Nat → Nat → Hp → Prop, (∃ m, W 0 m H1) ∧ ∀ i m H, W i m H → ((Itz K a b).stop i H ∧ Qd H) ∨ ((Itz K a b).go i H ∧ ∃ Nx : Hp → Prop, (∀ H', Nx H' → ∃ m', m' < m ∧ W (i + 1) m' H') ∧ ∀ x H', (Itz K a b).yld i H x H' → Body x H' Nx) := by
  refine ⟨fun i m H => m = xs.length - i ∧ i ≤ xs.length ∧ Pv i H, ⟨xs.length, rfl, Nat.zero_le _, h0⟩, ?_⟩
  rintro i m H ⟨rfl, hi, p⟩
  obtain ⟨qx, qy⟩ := hq i H p
  by_cases hlt : i < xs.length
  · have hx : xs[i]? = some xs[i] := List.getElem?_eq_getElem hlt
    have hy : ys[i]? = some ys[i] := List.getElem?_eq_getElem (by omega)
    refine .inr ⟨⟨xs, ys, _, _, qx, qy, hx, hy⟩, Pv (i + 1), fun H' p' => ⟨xs.length - (i + 1), by omega, rfl, hlt, p'⟩, fun v H' y => ?_⟩
    obtain ⟨T, x', y', rfl, hT, rfl, f1, f2⟩ := y
    exact hs i x' y' T H (f1 xs qx) (f2 ys qy) p hT
  · have e : i = xs.length := by omega
    subst e
    exact .inl ⟨⟨xs, ys, qx, qy, Or.inl (Nat.le_refl _)⟩, hd H p⟩
/-- alike data, at most n deep -/
def Al : Nat → Hp → V → V → Prop
  | 0, _, _, _ => False
  | n + 1, H, x, y => (x = y ∧ ((∃ i, x = .int i) ∨ (∃ z, x = .str z) ∨ (∃ b, x = .bl b) ∨ x = .non)) ∨
    (∃ (a b : Addr) (xs ys : List V), x = .ref a ∧ y = .ref b ∧ H a = some (.tup xs) ∧ H b = some (.tup ys) ∧ xs.length = ys.length ∧ xs.length ≤ 1000 ∧ ∀ (j : Nat) (u v : V), xs[j]? = some u → ys[j]? = some v → Al n H u v) ∨
    (∃ (a b : Addr) (xs ys : List V), x = .ref a ∧ y = .ref b ∧ H a = some (.lst xs) ∧ H b = some (.lst ys) ∧ xs.length = ys.length ∧ xs.length ≤ 1000 ∧ ∀ (j : Nat) (u v : V), xs[j]? = some u → ys[j]? = some v → Al n H u v)
theorem Al.same : ∀ {n : Nat} {H H' : Hp} {x y : V}, Same H H' → Al n H x y → Al n H' x y
  | 0, _, _, _, _, _, h => h
  | n + 1, H, H', x, y, s, h => by
    rcases h with h | ⟨a, b, xs, ys, h1, h2, h3, h4, h5, h6, h7⟩ | ⟨a, b, xs, ys, h1, h2, h3, h4, h5, h6, h7⟩
    · exact .inl h
    · exact .inr (.inl ⟨a, b, xs, ys, h1, h2, s _ _ h3, s _ _ h4, h5, h6, fun j u v e1 e2 => (h7 j u v e1 e2).same s⟩)
    · exact .inr (.inr ⟨a, b, xs, ys, h1, h2, s _ _ h3, s _ _ h4, h5, h6, fun j u v e1 e2 => (h7 j u v e1 e2).same s⟩)
end Bw
set_option Elab.async false
set_option linter.all false
set_option maxRecDepth 100000
set_option maxHeartbeats 4000000
namespace Bw
open PySem PySem.Spec PyProof.Rows L2
theorem SameBut.none {f l a : Addr} {H H1 : Hp} (s : SameBut f H H1) (h : FeedAt H1 f l) (e : H1 a = none) : H a = none := by
  by_cases z : a = f
  · subst z
    exact absurd rfl (h.ne e)
  · cases y : H a with
    | none => rfl
    | some u =>
      rw [s _ _ z y] at e
      cases e
/-! ### products in the heap -/
def TermAt (H : Hp) (t : Addr) (a : Tm) : Prop := ∃ q, H t = some (.tup [.ref q, .int a.2]) ∧ H q = some (.tup (a.1.map V.int))
def TermsAt (H : Hp) (ts : List Addr) (terms : List Tm) : Prop := ts.length = terms.length ∧ ∀ (i : Nat) (a : Tm), terms[i]? = some a → ∃ t, ts[i]? = some t ∧ TermAt H t a
theorem TermAt.same {H H' : Hp} {t : Addr} {a : Tm} (s : ∀ b xs, H b = some (.tup xs) → H' b = some (.tup xs)) (h : TermAt H t a) : TermAt H' t a := by
  obtain ⟨q, h1, h2⟩ := h
  exact ⟨q, s _ _ h1, s _ _ h2⟩
theorem TermsAt.keep {H H' : Hp} {ts : List Addr} {terms : List Tm} (s : ∀ b xs, H b = some (.tup xs) → H' b = some (.tup xs)) (h : TermsAt H ts terms) : TermsAt H' ts terms := ⟨h.1, fun i a e => by
  obtain ⟨t, e1, e2⟩ := h.2 i a e
  exact ⟨t, e1, e2.same s⟩⟩
theorem TermsAt.same {H H' : Hp} {ts : List Addr} {terms : List Tm} (s : Same H H') (h : TermsAt H ts terms) : TermsAt H' ts terms := h.keep fun b xs e => s _ _ e
theorem TermsAt.but {H H' : Hp} {f l : Addr} {ts : List Addr} {terms : List Tm} (s : SameBut f H H') (hf : FeedAt H f l) (h : TermsAt H ts terms) : TermsAt H' ts terms := h.keep fun b xs e => s _ _ (hf.tup e) e
theorem TermsAt.put {H : Hp} {R : Addr} {xs : List V} {o : HO} {ts : List Addr} {terms : List Tm} (h : TermsAt H ts terms) (hR : H R = some (.lst xs)) : TermsAt (upd H R o) ts terms := h.keep fun b ys e => by
  rw [upd_ne (ne_of e hR (by intro z; cases z))]
  exact e
theorem TermsAt.nil {H : Hp} : TermsAt H [] [] := ⟨rfl, fun i a e => by simp at e⟩
theorem TermsAt.snoc {H : Hp} {ts : List Addr} {terms : List Tm} {t : Addr} {a : Tm} (h : TermsAt H ts terms) (ht : TermAt H t a) : TermsAt H (ts ++ [t]) (terms ++ [a]) := by
  refine ⟨by rw [List.length_append, List.length_append, h.1]; rfl, fun i b e => ?_⟩
  rw [List.getElem?_append] at e
  split at e
  · next hi =>
    obtain ⟨u, e1, e2⟩ := h.2 i b e
    exact ⟨u, by rw [List.getElem?_append, if_pos (by rw [h.1]; exact hi)]; exact e1, e2⟩
  · next hi =>
    have h2 := (List.getElem?_eq_some_iff.mp e).1
    rw [List.length_singleton] at h2
    have z : i - terms.length = 0 := by omega
    rw [z] at e
    have : a = b := Option.some.inj e
    subst this
    refine ⟨t, ?_, ht⟩
    rw [List.getElem?_append, if_neg (by rw [h.1]; exact hi), h.1, z]
    rfl
theorem TermsAt.at {H : Hp} {ts : List Addr} {terms : List Tm} (h : TermsAt H ts terms) {i : Nat} {t : Addr} (e : ts[i]? = some t) : ∃ a, terms[i]? = some a ∧ TermAt H t a := by
  have hi : i < terms.length := by
    have := (List.getElem?_eq_some_iff.mp e).1
    rw [h.1] at this
    exact this
  obtain ⟨u, e1, e2⟩ := h.2 i _ (List.getElem?_eq_getElem hi)
  cases (Option.some.inj (e.symm.trans e1))
  exact ⟨_, List.getElem?_eq_getElem hi, e2⟩
section
variable {P : Program} {w : World} {K : PySem.W.Frag} {mg : Str → Option Value} {base : Heap}
abbrev s_law_great_number : Stmt := topS 40
abbrev n_law_great_number : List Str := ["_law_feed_here", "_law_size"]
theorem sc_law_great_number : FnScope n_law_great_number ["_law_feed_here"] (defScope s_law_great_number) := ⟨rfl, rfl, rfl, by decide +kernel, rfl, by decide +kernel, by decide +kernel⟩
def spGreat : Sp := fun vs H Q _ => ∃ (f l : Addr), vs = [.ref f] ∧ FeedAt H f l ∧ ∀ (v : Int) (H' : Hp), v.natAbs < 2 ^ 100 → SameBut f H H' → FeedAt H' f l → Q (.int v) H'
theorem ok_great {f : Addr} {fd : FuncData} (F : Fun K "_law_great_number" "_law_great_number" s_law_great_number f fd) (T : Tx mg) (c_law_draw : Cal P w K mg base CX0 1 "_law_draw" ["_law_feed_here", "_law_many"] spDraw) (c_law_pick : Cal P w K mg base CX0 2 "_law_pick" ["_law_feed_here", "_law_row"] spPick) : FnOk P w K mg base CX0 3 f fd ["_law_feed_here"] spGreat := by
  refine F.ok sc_law_great_number (fun vs H Q E h => ?_) (fun cdv A outer s H vs Q E hr h => ?_)
  · obtain ⟨f, l, rfl, _⟩ := h
    rfl
  · obtain ⟨f, l, rfl, hf, q⟩ := h
    refine ⟨_, (pss_cons (ps_set (i := 1) sc_law_great_number.nd rfl (.inl rfl) (pe_cal c_law_pick hr (by rfl) (pa_cons (pv 0) (pa_cons (pe_lst (pa_cons pe_int (pa_cons pe_int (pa_cons pe_int (pa_cons (pe_op op_pow pe_int pe_int) (pa_cons (pe_op op_pow pe_int pe_int) pa_nil)))))) pa_nil))))
  (pss_one (ps_ret (pe_op op_sub (pe_cal c_law_draw (hr.mono (by decide)) (by rfl) (pa_cons (pv 0) (pa_cons (pe_op op_add (pe_op op_mul pe_int (pv 1)) pe_int) pa_nil))) (pv 1))))), ?_⟩
    refine ⟨.ref f, rfl, 10, 9, rfl, rfl, ⟨by decide, by decide, by decide⟩, 10, 29, rfl, rfl, ⟨by decide, by decide, by decide⟩, by show 5 ≤ sizeLine; decide, fun o eo => ?_⟩
    have so := same_upd (o := .lst [.int 2, .int 10, .int 1000, .int (10 ^ Int.toNat 9), .int (10 ^ Int.toNat 29)]) eo
    refine ⟨f, l, o, _, rfl, hf.same so, upd_same, hf.ne eo, by show 0 < 5; decide, by show 5 < 1000; decide, fun v H1 hv sb1 hf1 => ?_⟩
    obtain ⟨z, rfl, z0, z1⟩ : ∃ z : Int, v = .int z ∧ 0 ≤ z ∧ z ≤ 100000000000000000000000000000 := by
      have e9 : ((10 : Int) ^ Int.toNat 9) = 1000000000 := by decide
      have e29 : ((10 : Int) ^ Int.toNat 29) = 100000000000000000000000000000 := by decide
      simp only [List.mem_cons, List.not_mem_nil, or_false] at hv
      rcases hv with rfl | rfl | rfl | rfl | rfl
      · exact ⟨2, rfl, by decide, by decide⟩
      · exact ⟨10, rfl, by decide, by decide⟩
      · exact ⟨1000, rfl, by decide, by decide⟩
      · exact ⟨1000000000, by rw [← e9], by decide, by decide⟩
      · exact ⟨100000000000000000000000000000, by rw [← e29], by decide, by decide⟩
    refine ⟨.ref f, rfl, .int z, rfl, _, _, rfl, rfl, .inl ⟨by decide, by decide⟩, _, _, rfl, rfl, f, l, _, rfl, hf1, by omega, ?_, fun u H2 u0 u1 sb2 hf2 => ?_⟩
    · have : (2 * z + 1).natAbs < 1000000000000000000000000000000 := by omega
      exact Nat.lt_trans this (by decide)
    · refine ⟨.int z, rfl, _, _, rfl, rfl, q _ _ ?_ ((so.but.trans sb1).trans sb2) hf2⟩
      have : (u - z).natAbs ≤ 100000000000000000000000000000 := by omega
      exact Nat.lt_of_le_of_lt this (by decide)
abbrev s_law_powers : Stmt := topS 41
abbrev n_law_powers : List Str := ["_law_feed_here", "_law_my_width", "_law_far", "_law_k"]
theorem sc_law_powers : FnScope n_law_powers ["_law_feed_here", "_law_my_width"] (defScope s_law_powers) := ⟨rfl, rfl, rfl, by decide +kernel, rfl, by decide +kernel, by decide +kernel⟩
theorem bnd_snoc {x : List Int} {v : Int} (h : ∀ v ∈ x, v.natAbs ≤ 1000) (k : v.natAbs ≤ 1000) : ∀ u ∈ x ++ [v], u.natAbs ≤ 1000 := fun u hu => by
  rcases List.mem_append.mp hu with hu | hu
  · exact h u hu
  · rw [List.mem_singleton.mp hu]
    exact k
def spPowers : Sp := fun vs H Q _ => ∃ (f l : Addr) (n : Nat), vs = [.ref f, .int n] ∧ FeedAt H f l ∧ n ≤ 8 ∧ ∀ (b : Addr) (p : List Int) (H' : Hp), p.length = n → (∀ v ∈ p, v.natAbs ≤ 1000) → SameBut f H H' → FeedAt H' f l → H' b = some (.tup (p.map V.int)) → Q (.ref b) H'
theorem ok_powers {f : Addr} {fd : FuncData} (F : Fun K "_law_powers" "_law_powers" s_law_powers f fd) (T : Tx mg) (c_law_draw : Cal P w K mg base CX0 1 "_law_draw" ["_law_feed_here", "_law_many"] spDraw) (c_law_pick : Cal P w K mg base CX0 2 "_law_pick" ["_law_feed_here", "_law_row"] spPick) : FnOk P w K mg base CX0 3 f fd ["_law_feed_here", "_law_my_width"] spPowers := by
  refine F.ok sc_law_powers (fun vs H Q E h => ?_) (fun cdv A outer s H vs Q E hr h => ?_)
  · obtain ⟨f, l, n, rfl, _⟩ := h
    rfl
  · obtain ⟨f, l, n, rfl, hf, n8, q⟩ := h
    have hr1 := hr.mono (show 1 ≤ 2 by decide)
    refine ⟨_, (pss_cons (ps_set (i := 2) sc_law_powers.nd rfl (.inr rfl) (pe_cal c_law_pick hr (by rfl) (pa_cons (pv 0) (pa_cons (pe_lst (pa_cons pe_int (pa_cons pe_int (pa_cons pe_int (pa_cons pe_int (pa_cons pe_int pa_nil)))))) pa_nil))))
  (pss_one (ps_ret (pe_callTy (c_tup (K := K)) (by rfl) T.tuple (by decide +kernel) (pa_cons (pe_lc (own := [("_law_k", 3)]) (by rfl) sc_law_powers.nd (pi_range1 (by rfl) T.range (pa_cons (pv 1) pa_nil)) (blkOk_by (own := [("_law_k", 3)]) (N := n_law_powers) (sc := defScope s_law_powers) (by decide +kernel)) (fun _ _ _ _ _ => (pg_name (i := 3) sc_law_powers.nd rfl (.inl rfl))) (fun _ _ _ _ _ => pts_nil) (fun _ _ _ _ _ => (pe_ifExp (pt_cmpR op_gt (pe_cal c_law_draw hr1 (by rfl) (pa_cons (pv 0) (pa_cons pe_int pa_nil))) pe_int (nomark _)) (pe_op op_sub (pe_cal c_law_draw hr1 (by rfl) (pa_cons (pv 0) (pa_cons (pe_op op_add (pe_op op_mul pe_int (pv 2)) pe_int) pa_nil))) (pv 2)) pe_int))) pa_nil))))), ?_⟩
    refine ⟨.ref f, rfl, by show 5 ≤ sizeLine; decide, fun o eo => ?_⟩
    have so := same_upd (o := .lst [.int 1, .int 1, .int 2, .int 3, .int 1000]) eo
    refine ⟨f, l, o, _, rfl, hf.same so, upd_same, hf.ne eo, by show 0 < 5; decide, by show 5 < 1000; decide, fun v H1 hv sb1 hf1 => ?_⟩
    obtain ⟨z, rfl, z0, z1⟩ : ∃ z : Int, v = .int z ∧ 0 ≤ z ∧ z ≤ 1000 := by
      simp only [List.mem_cons, List.not_mem_nil, or_false] at hv
      rcases hv with rfl | rfl | rfl | rfl | rfl
      · exact ⟨1, rfl, by decide, by decide⟩
      · exact ⟨1, rfl, by decide, by decide⟩
      · exact ⟨2, rfl, by decide, by decide⟩
      · exact ⟨3, rfl, by decide, by decide⟩
      · exact ⟨1000, rfl, by decide, by decide⟩
    have sb1 : SameBut f H H1 := so.but.trans sb1
    refine ⟨.int n, rfl, n, rfl, by omega, by omega, fun D eD => ?_⟩
    have D0 : H D = none := sb1.none hf1 eD
    have nDf : D ≠ f := hf1.ne eD
    refine lc_range (fun j H' => ∃ x : List Int, x.length = j ∧ (∀ v ∈ x, v.natAbs ≤ 1000) ∧ H' D = some (.lst (x.map V.int)) ∧ SameBut f H H' ∧ FeedAt H' f l) ⟨[], rfl, (fun v h => nomatch h), upd_same, sb1.updN D0, hf1.put nDf (hf1.ne2 eD)⟩ ?_ ?_
    · rintro j H2 hj ⟨x, lx, bx, eD2, sb2, hf2⟩
      have hj : j < n := hj
      refine ⟨rfl, .ref f, rfl, f, l, 3, rfl, hf2, by decide, by decide, fun u H3 u0 u1 sb3 hf3 => ?_⟩
      have eD3 := sb3 _ _ nDf eD2
      refine ⟨_, _, rfl, rfl, _, rfl, ite2 (fun _ => ?_) (fun _ => ?_)⟩
      · refine ⟨.ref f, rfl, .int z, rfl, _, _, rfl, rfl, .inl ⟨by decide, by decide⟩, _, _, rfl, rfl, f, l, _, rfl, hf3, by omega, Nat.lt_trans (show (2 * z + 1).natAbs < 10000 by omega) (by decide), fun y H4 y0 y1 sb4 hf4 => ?_⟩
        refine ⟨.int z, rfl, _, _, rfl, rfl, x.map V.int, sb4 _ _ nDf eD3, by rw [List.length_map]; exact small1000 (by omega), x ++ [y - z], by rw [List.length_append, lx]; rfl, bnd_snoc bx (by omega), ?_, ((sb2.trans sb3).trans sb4).updN D0, hf4.put nDf (hf.ne2 D0)⟩
        rw [upd_same, List.map_append]
        rfl
      · refine ⟨x.map V.int, eD3, by rw [List.length_map]; exact small1000 (by omega), x ++ [0], by rw [List.length_append, lx]; rfl, bnd_snoc bx (by decide), ?_, (sb2.trans sb3).updN D0, hf3.put nDf (hf.ne2 D0)⟩
        rw [upd_same, List.map_append]
        rfl
    · rintro H2 ⟨x, lx, bx, eD2, sb2, hf2⟩
      refine ⟨D, _, rfl, .inl ⟨SqL.of eD2, fun p ep => ?_⟩⟩
      have sp := same_upd (o := .tup (x.map V.int)) ep
      exact q p x _ (by rw [lx]; exact Int.toNat_natCast n) bx (sb2.trans sp.but) (hf2.same sp) upd_same
abbrev s_law_terms : Stmt := topS 42
abbrev n_law_terms : List Str := ["_law_feed_here", "_law_my_width", "_law_most", "_law_found", "_law_k", "_law_many"]
theorem sc_law_terms : FnScope n_law_terms ["_law_feed_here", "_law_my_width", "_law_most"] (defScope s_law_terms) := ⟨rfl, rfl, rfl, by decide +kernel, rfl, by decide +kernel, by decide +kernel⟩
def Small (n : Nat) (a : Tm) : Prop := a.1.length = n ∧ a.2.natAbs < 2 ^ 100 ∧ ∀ v ∈ a.1, v.natAbs ≤ 1000
def spTerms : Sp := fun vs H Q _ => ∃ (f l : Addr) (n m : Nat), vs = [.ref f, .int n, .int m] ∧ FeedAt H f l ∧ n ≤ 8 ∧ m ≤ 20 ∧
  ∀ (R : Addr) (ts : List Addr) (terms : List Tm) (H' : Hp), SameBut f H H' → FeedAt H' f l → H R = none → H' R = some (.lst (ts.map V.ref)) → TermsAt H' ts terms → (∀ a ∈ terms, Small n a) → terms.length ≤ 2 * m → Q (.ref R) H'
theorem ok_terms {f : Addr} {fd : FuncData} (F : Fun K "_law_terms" "_law_terms" s_law_terms f fd) (T : Tx mg) (c_law_draw : Cal P w K mg base CX0 1 "_law_draw" ["_law_feed_here", "_law_many"] spDraw) (c_law_pick : Cal P w K mg base CX0 2 "_law_pick" ["_law_feed_here", "_law_row"] spPick)
    (c_law_great_number : Cal P w K mg base CX0 3 "_law_great_number" ["_law_feed_here"] spGreat) (c_law_powers : Cal P w K mg base CX0 3 "_law_powers" ["_law_feed_here", "_law_my_width"] spPowers) : FnOk P w K mg base CX0 4 f fd ["_law_feed_here", "_law_my_width", "_law_most"] spTerms := by
  refine F.ok sc_law_terms (fun vs H Q E h => ?_) (fun cdv A outer s H vs Q E hr h => ?_)
  · obtain ⟨f, l, n, m, rfl, _⟩ := h
    rfl
  · obtain ⟨f, l, n, m, rfl, hf, n8, m20, q⟩ := h
    have hr1 := hr.mono (show 1 ≤ 3 by decide)
    have hr2 := hr.mono (show 2 ≤ 3 by decide)
    refine ⟨_, (pss_cons (ps_set (i := 3) sc_law_terms.nd rfl (.inl rfl) (pe_lst pa_nil))
  (pss_cons (ps_for PassesOwn.never rfl (pi_range1 (by rfl) T.range (pa_cons (pe_cal c_law_draw hr1 (by rfl) (pa_cons (pv 0) (pa_cons (pe_op op_add (pv 2) pe_int) pa_nil))) pa_nil)) (pg_name (i := 4) sc_law_terms.nd rfl (.inl rfl))
    (pss_cons (ps_set (i := 5) sc_law_terms.nd rfl (.inl rfl) (pe_cal c_law_pick hr2 (by rfl) (pa_cons (pv 0) (pa_cons (pe_lst (pa_cons pe_int (pa_cons pe_int (pa_cons (pe_un un_neg pe_int) (pa_cons pe_int (pa_cons pe_int (pa_cons pe_int (pa_cons (pe_op op_sub (pe_cal c_law_draw hr1 (by rfl) (pa_cons (pv 0) (pa_cons pe_int pa_nil))) pe_int) (pa_cons (pe_cal c_law_great_number hr (by rfl) (pa_cons (pv 0) pa_nil)) pa_nil))))))))) pa_nil))))
    (pss_cons (ps_expr (pe_bm PySem.F.plainAttrs_list PySem.F.slot_list_append PySem.F.type_list_append mt_append (pv 3) (pa_cons (pe_tup (pa_cons (pe_cal c_law_powers hr (by rfl) (pa_cons (pv 0) (pa_cons (pv 1) pa_nil))) (pa_cons (pv 5) pa_nil))) pa_nil)))
    (pss_one (ps_if (pt_cmpR op_eq (pe_cal c_law_draw hr1 (by rfl) (pa_cons (pv 0) (pa_cons pe_int pa_nil))) pe_int (nomark _))
      (pss_one (ps_expr (pe_bm PySem.F.plainAttrs_list PySem.F.slot_list_append PySem.F.type_list_append mt_append (pv 3) (pa_cons (pe_tup (pa_cons (pe_ix (i_tup (K := K)) (pe_ix (i_list (K := K)) (pv 3) (pe_cal c_law_draw hr1 (by rfl) (pa_cons (pv 0) (pa_cons (pe_callB (c_len (K := K)) (by rfl) T.len PySem.boot_len (pa_cons (pv 3) pa_nil)) pa_nil))) (fun _ _ => rfl)) pe_int (fun _ _ => rfl)) (pa_cons (pe_op op_sub (pe_cal c_law_draw hr1 (by rfl) (pa_cons (pv 0) (pa_cons pe_int pa_nil))) pe_int) pa_nil))) pa_nil))))
      pss_nil)))))
  (pss_one (ps_ret (pv 3))))), ?_⟩
    refine ⟨Nat.zero_le _, fun R eR => ?_⟩
    have sR := same_upd (o := .lst []) eR
    have nRf : R ≠ f := hf.ne eR
    have nRl : R ≠ l := hf.ne2 eR
    refine ⟨.ref f, rfl, .int m, rfl, _, _, rfl, rfl, f, l, _, rfl, hf.same sR, by omega, Nat.lt_trans (show ((m : Int) + 1).natAbs < 1000 by omega) (by decide), fun u H1 u0 u1 sb1 hf1 => ?_⟩
    refine ⟨u, rfl, by omega, by omega, ?_⟩
    refine for_range (fun i σ H' => ∃ (y4 y5 : Option V) (ts : List Addr) (terms : List Tm), σ = [some (.ref f), some (.int n), some (.int m), some (.ref R), y4, y5] ∧ SameBut f H H' ∧ FeedAt H' f l ∧ H' R = some (.lst (ts.map V.ref)) ∧ TermsAt H' ts terms ∧ (∀ a ∈ terms, Small n a) ∧ terms.length ≤ 2 * i)
      ⟨none, none, [], [], rfl, sR.but.trans sb1, hf1, sb1 _ _ nRf upd_same, .nil, by simp, Nat.zero_le _⟩ ?_ ?_
    · rintro i σ H2 hi ⟨y4, y5, ts, terms, rfl, sb2, hf2, eR2, hT2, hsm, hln⟩
      have hi : i < u.toNat := hi
      -- many = pick(feed, [..])
      refine ⟨.ref f, rfl, 1, rfl, .ref f, rfl, f, l, 41, rfl, hf2, by decide, by decide, fun a H3 a0 a1 sb3 hf3 => ?_⟩
      refine ⟨_, _, rfl, rfl, .ref f, rfl, f, l, rfl, hf3, fun g H4 g1 sb4 hf4 => ⟨by show 8 ≤ sizeLine; decide, fun o eo => ?_⟩⟩
      have so := same_upd (o := .lst [.int 1, .int 1, .int (-1), .int 2, .int 3, .int 0, .int (a - 20), .int g]) eo
      refine ⟨f, l, o, _, rfl, hf4.same so, upd_same, hf4.ne eo, by show 0 < 8; decide, by show 8 < 1000; decide, fun v H5 hv sb5 hf5 => ?_⟩
      obtain ⟨c, rfl, hc⟩ : ∃ c : Int, v = .int c ∧ c.natAbs < 2 ^ 100 := by
        have small : ∀ c : Int, c.natAbs ≤ 100 → c.natAbs < 2 ^ 100 := fun c h => Nat.lt_of_le_of_lt h (by decide)
        simp only [List.mem_cons, List.not_mem_nil, or_false] at hv
        rcases hv with rfl | rfl | rfl | rfl | rfl | rfl | rfl | rfl
        · exact ⟨1, rfl, by decide⟩
        · exact ⟨1, rfl, by decide⟩
        · exact ⟨-1, rfl, by decide⟩
        · exact ⟨2, rfl, by decide⟩
        · exact ⟨3, rfl, by decide⟩
        · exact ⟨0, rfl, by decide⟩
        · exact ⟨a - 20, rfl, small _ (by omega)⟩
        · exact ⟨g, rfl, g1⟩
      have sb25 : SameBut f H2 H5 := ((sb3.trans sb4).trans so.but).trans sb5
      have eR5 := sb25 _ _ nRf eR2
      -- found.append((powers(feed, width), many))
      refine ⟨.ref R, rfl, .inl ⟨rfl, _, SqL.of eR5⟩, .ref f, rfl, .int n, rfl, f, l, n, rfl, hf5, n8, fun b p H6 lp bp sb6 hf6 hb => ?_⟩
      refine ⟨.int c, rfl, by show 2 ≤ sizeLine; decide, fun t et => ?_⟩
      have st := same_upd (o := .tup [.ref b, .int c]) et
      have eR6 := sb6 _ _ nRf eR5
      have hT6 := ((hT2.but sb25 hf2).but sb6 hf5).same st
      refine ⟨R, _, _, rfl, rfl, st _ _ eR6, by rw [List.length_map, hT2.1]; exact small1000 (by omega), ?_⟩
      have hT7 := (hT6.snoc (a := (p, c)) ⟨b, upd_same, st _ _ hb⟩).put (o := .lst (ts.map V.ref ++ [.ref t])) (st _ _ eR6)
      have sb7 : SameBut f H (upd (upd H6 t (.tup [.ref b, .int c])) R (.lst (ts.map V.ref ++ [.ref t]))) := (((sb2.trans sb25).trans sb6).trans st.but).updN eR
      have hf7 := (hf6.same st).put (o := .lst (ts.map V.ref ++ [.ref t])) nRf nRl
      have eR7 : (upd (upd H6 t (.tup [.ref b, .int c])) R (.lst (ts.map V.ref ++ [.ref t]))) R = some (.lst ((ts ++ [t]).map V.ref)) := by
        rw [upd_same, List.map_append]
        rfl
      have hsm7 : ∀ a ∈ terms ++ [(p, c)], Small n a := fun a ha => by
        rcases List.mem_append.mp ha with ha | ha
        · exact hsm a ha
        · rw [List.mem_singleton.mp ha]
          exact ⟨lp, hc, bp⟩
      have hln7 : (terms ++ [(p, c)]).length ≤ 2 * i + 1 := by
        rw [List.length_append]
        show terms.length + 1 ≤ _
        omega
      have lt7 : (ts ++ [t]).length = (terms ++ [(p, c)]).length := hT7.1
      have pos7 : 0 < (terms ++ [(p, c)]).length := by
        rw [List.length_append]
        exact Nat.succ_pos _
      generalize (upd (upd H6 t (.tup [.ref b, .int c])) R (.lst (ts.map V.ref ++ [.ref t]))) = H7 at hT7 sb7 hf7 eR7
      generalize ts ++ [t] = ts7 at hT7 eR7 lt7
      generalize terms ++ [(p, c)] = tm7 at hT7 hsm7 hln7 lt7 pos7
      -- if draw(6) == 0
      refine ⟨.ref f, rfl, f, l, 6, rfl, hf7, by decide, by decide, fun k H8 k0 k1 sb8 hf8 => ?_⟩
      have eR8 := sb8 _ _ nRf eR7
      have hT8 := hT7.but sb8 hf7
      refine ⟨rfl, _, rfl, ite2 (fun _ => ?_) (fun _ => ⟨_, _, ts7, tm7, rfl, sb7.trans sb8, hf8, eR8, hT8, hsm7, by omega⟩)⟩
      refine ⟨.ref R, rfl, .inl ⟨rfl, _, SqL.of eR8⟩, .ref R, rfl, .ref f, rfl, .ref R, rfl, R, _, rfl, .inl (SqL.of eR8), f, l, _, rfl, hf8, ?_, ?_, fun j H9 j0 j1 sb9 hf9 => ?_⟩
      · rw [List.length_map]
        omega
      · rw [List.length_map]
        exact Nat.lt_trans (show ((ts7.length : Int)).natAbs < 1000 by omega) (by decide)
      · rw [List.length_map] at j1
        obtain ⟨J, rfl⟩ : ∃ J : Nat, j = (J : Int) := ⟨j.toNat, by omega⟩
        have hJ : J < ts7.length := by omega
        have eR9 := sb9 _ _ nRf eR8
        have hT9 := hT8.but sb9 hf8
        obtain ⟨a7, ea7, q7, hq1, hq2⟩ := hT9.at (List.getElem?_eq_getElem hJ)
        have gJ : (ts7.map V.ref)[J]? = some (.ref ts7[J]) := by rw [List.getElem?_map, List.getElem?_eq_getElem hJ]; rfl
        refine ⟨R, _, _, _, rfl, rfl, SqL.of eR9, atI_nat gJ, _, _, 0, .ref q7, rfl, rfl, SqT.of hq1, atI_nat (j := 0) rfl, ?_⟩
        refine ⟨.ref f, rfl, f, l, 7, rfl, hf9, by decide, by decide, fun d H10 d0 d1 sb10 hf10 => ⟨_, _, rfl, rfl, by show 2 ≤ sizeLine; decide, fun t2 et2 => ?_⟩⟩
        have st2 := same_upd (o := .tup [.ref q7, .int (d - 3)]) et2
        have eR10 := sb10 _ _ nRf eR9
        have hT10 := (hT9.but sb10 hf9).same st2
        have hq10 := st2 _ _ (sb10 _ _ (hf9.tup hq2) hq2)
        refine ⟨R, _, _, rfl, rfl, st2 _ _ eR10, by rw [List.length_map]; exact small1000 (by omega), ?_⟩
        refine ⟨_, _, ts7 ++ [t2], tm7 ++ [(a7.1, d - 3)], rfl, (((sb7.trans sb8).trans sb9).trans (sb10.trans st2.but)).updN eR, (hf10.same st2).put nRf nRl, ?_, (hT10.snoc (a := (a7.1, d - 3)) ⟨q7, upd_same, hq10⟩).put (st2 _ _ eR10), fun a ha => ?_, ?_⟩
        · rw [upd_same, List.map_append]
          rfl
        · rcases List.mem_append.mp ha with ha | ha
          · exact hsm7 a ha
          · rw [List.mem_singleton.mp ha]
            exact ⟨(hsm7 a7 (List.mem_of_getElem? ea7)).1, Nat.lt_of_le_of_lt (show (d - 3).natAbs ≤ 100 by omega) (by decide), (hsm7 a7 (List.mem_of_getElem? ea7)).2.2⟩
        · rw [List.length_append]
          show tm7.length + 1 ≤ _
          omega
    · rintro σ H2 ⟨y4, y5, ts, terms, rfl, sb2, hf2, eR2, hT2, hsm, hln⟩
      exact ⟨.ref R, rfl, q R ts terms _ sb2 hf2 eR eR2 hT2 hsm (by omega)⟩
end
end Bw
set_option Elab.async false
set_option linter.all false
set_option maxRecDepth 100000
set_option maxHeartbeats 4000000
namespace Bw
open PySem PySem.Spec PyProof.Rows L2
/-! ### more of books -/
def Sized (n M : Nat) (ts : List Tm) : Prop := ∀ a ∈ ts, a.1.length = n ∧ a.2.natAbs ≤ M
theorem Sized.nil {n M : Nat} : Sized n M [] := fun a h => by cases h
theorem Sized.mono {n M N : Nat} {ts : List Tm} (h : Sized n M ts) (l : M ≤ N) : Sized n N ts := fun a ha => ⟨(h a ha).1, Nat.le_trans (h a ha).2 l⟩
theorem Sized.put {n M : Nat} {bk : List Tm} {p : List Int} {c : Int} (h : Sized n M bk) (hp : p.length = n) (hc : c.natAbs ≤ M) : Sized n M (putB bk p c) := by
  unfold putB
  split
  · intro a ha
    obtain ⟨b, hb, rfl⟩ := List.mem_map.mp ha
    split
    · exact ⟨(h b hb).1, hc⟩
    · exact h b hb
  · intro a ha
    rcases List.mem_append.mp ha with ha | ha
    · exact h a ha
    · rw [List.mem_singleton.mp ha]
      exact ⟨hp, hc⟩
theorem Sized.add {n M m : Nat} {bk : List Tm} {p : List Int} {c : Int} (h : Sized n M bk) (hp : p.length = n) (hc : c.natAbs ≤ m) : Sized n (M + m) (addB bk p c) := by
  refine (h.mono (Nat.le_add_right M m)).put hp ?_
  cases e : getB bk p with
  | none =>
    show (0 + c).natAbs ≤ _
    omega
  | some d =>
    have := (h _ (getB_some e)).2
    show (d + c).natAbs ≤ _
    have z : d.natAbs ≤ M := this
    omega
theorem getB_mem {bk : List Tm} (nd : NdB bk) {p : List Int} {c : Int} (h : (p, c) ∈ bk) : getB bk p = some c := by
  cases e : getB bk p with
  | none =>
    have z := getB_none e
    have : (bk.any fun a => decide (a.1 = p)) = true := List.any_eq_true.mpr ⟨_, h, decide_eq_true rfl⟩
    rw [z] at this
    cases this
  | some d =>
    have m := getB_some e
    have : ∀ {l : List Tm}, (l.map (·.1)).Nodup → (p, c) ∈ l → (p, d) ∈ l → c = d := by
      intro l
      induction l with
      | nil => intro _ h _; cases h
      | cons a l ih =>
        intro nd h1 h2
        have nd' := List.nodup_cons.mp nd
        rcases List.mem_cons.mp h1 with e1 | h1
        · rcases List.mem_cons.mp h2 with e2 | h2
          · exact congrArg Prod.snd (e1.trans e2.symm)
          · exact absurd (List.mem_map.mpr ⟨_, h2, by rw [← e1]⟩) nd'.1
        · rcases List.mem_cons.mp h2 with e2 | h2
          · exact absurd (List.mem_map.mpr ⟨_, h1, by rw [← e2]⟩) nd'.1
          · exact ih nd'.2 h1 h2
    rw [this nd h m]
theorem nd_app {a b : List Tm} (h : NdB (a ++ b)) : NdB a := by
  unfold NdB at *
  rw [List.map_append] at h
  exact (List.nodup_append.mp h).1
theorem putB_new {bk : List Tm} {p : List Int} {c : Int} (h : NdB (bk ++ [(p, c)])) : putB bk p c = bk ++ [(p, c)] := by
  unfold putB
  rw [if_neg]
  intro z
  obtain ⟨a, ha, e⟩ := List.any_eq_true.mp z
  unfold NdB at h
  rw [List.map_append] at h
  exact (List.nodup_append.mp h).2.2 a.1 (List.mem_map_of_mem ha) p (by simp) (of_decide_eq_true e)
theorem merge_nd : ∀ {b a : List Tm}, NdB (a ++ b) → mergeT (a.map enc) (b.map enc) = (a ++ b).map enc
  | [], a, _ => by rw [List.append_nil]; rfl
  | x :: b, a, h => by
    have e : a ++ x :: b = (a ++ [x]) ++ b := by simp
    rw [e] at h ⊢
    show mergeT (putK (a.map enc) (x.1.map Sum.inl) (V.int x.2)) (b.map enc) = _
    rw [enc_put, putB_new (c := x.2) (nd_app h)]
    exact merge_nd h
theorem nd_filter {bk : List Tm} {f : Tm → Bool} (h : NdB bk) : NdB (bk.filter f) := List.Sublist.nodup (List.Sublist.map _ List.filter_sublist) h
theorem kV_ints (p : List Int) : ((p.map Sum.inl : List Key)).map kV = p.map V.int := by
  rw [List.map_map]
  rfl
theorem nd_short {bk : List Tm} {M : Nat} (nd : NdB bk) (s : Sized 0 M bk) : bk.length ≤ 1 := by
  match bk, nd, s with
  | [], _, _ => exact Nat.zero_le _
  | [_], _, _ => exact Nat.le_refl _
  | a :: b :: r, nd, s =>
    have e1 : a.1 = [] := List.eq_nil_of_length_eq_zero (s a (List.mem_cons_self ..)).1
    have e2 : b.1 = [] := List.eq_nil_of_length_eq_zero (s b (List.mem_cons_of_mem _ (List.mem_cons_self ..))).1
    have n := (List.nodup_cons.mp nd).1
    exact absurd (show a.1 ∈ b.1 :: _ by rw [e1, e2]; exact List.mem_cons_self ..) n
theorem nd_keys {bk : List Tm} {n M : Nat} (nd : NdB bk) (s : Sized n M bk) : 2 ≤ (bk.map (·.1)).length → ∀ q ∈ bk.map (·.1), q ≠ [] := by
  intro h q hq e
  subst e
  obtain ⟨a, ha, e⟩ := List.mem_map.mp hq
  have := (s a ha).1
  rw [show a.1 = [] from e] at this
  subst this
  rw [List.length_map] at h
  have := nd_short nd s
  omega
/-! ### heaps -/
theorem Same.updN {H H' : Hp} {D : Addr} {o : HO} (s : Same H H') (h : H D = none) : Same H (upd H' D o) := fun c u e => by
  rw [upd_ne (ne_of_none e h)]
  exact s _ _ e
theorem unlock_same {H H' : Hp} {d : Addr} {od : Obj} {u : HO} (h : Same (upd H d (.frz od u)) H') (hd : H d = some u) : Same H (upd H' d u) := fun c o e => by
  by_cases z : c = d
  · subst z
    rw [upd_same, ← hd, e]
  · rw [upd_ne z]
    exact h _ _ (by rw [upd_ne z]; exact e)
theorem TermsAt.updX {H : Hp} {d : Addr} {o u : HO} {ts : List Addr} {terms : List Tm} (h : TermsAt H ts terms) (hd : H d = some u) (nt : ∀ xs, u ≠ .tup xs) : TermsAt (upd H d o) ts terms := h.keep fun b xs e => by
  rw [upd_ne]
  · exact e
  · intro z
    subst z
    rw [e] at hd
    exact nt xs (Option.some.inj hd).symm
theorem TermsAt.tail {H : Hp} {t : Addr} {ts : List Addr} {a : Tm} {terms : List Tm} (h : TermsAt H (t :: ts) (a :: terms)) : TermAt H t a ∧ TermsAt H ts terms := by
  refine ⟨?_, Nat.succ.inj h.1, fun i b e => ?_⟩
  · obtain ⟨u, e1, e2⟩ := h.2 0 a rfl
    cases (Option.some.inj e1)
    exact e2
  · obtain ⟨u, e1, e2⟩ := h.2 (i + 1) b e
    exact ⟨u, e1, e2⟩
theorem TermsAt.pairs {H : Hp} : ∀ {ts : List Addr} {terms : List Tm}, TermsAt H ts terms → ∃ its : List (List Key × Addr × V), Paired (fun t (x : List Key × Addr × V) => H t = some (.tup [.ref x.2.1, x.2.2]) ∧ H x.2.1 = some (.tup (x.1.map kV))) ts its ∧ its.map (fun x => (x.1, x.2.2)) = terms.map enc
  | [], [], _ => ⟨[], .nil, rfl⟩
  | [], _ :: _, h => absurd h.1 (by simp)
  | _ :: _, [], h => absurd h.1 (by simp)
  | t :: ts, a :: terms, h => by
    obtain ⟨⟨q, h1, h2⟩, ht⟩ := h.tail
    obtain ⟨its, p, e⟩ := ht.pairs
    refine ⟨(a.1.map Sum.inl, q, .int a.2) :: its, .cons ⟨h1, by rw [kV_ints]; exact h2⟩ p, ?_⟩
    rw [List.map_cons, e, List.map_cons]
    rfl
/-- a book at d -/
def BkAt (H : Hp) (d : Addr) (bk : List Tm) : Prop := H d = some (.dT (bk.map enc))
theorem take_filter {bk : List Tm} {i : Nat} {a : Tm} (h : bk[i]? = some a) (f : Tm → Bool) : (bk.take (i + 1)).filter f = (bk.take i).filter f ++ (if f a = true then [a] else []) := by
  rw [List.take_succ, h, List.filter_append]
  congr 1
  show List.filter f [a] = _
  rw [List.filter_cons]
  split <;> simp
abbrev nzB : Tm → Bool := fun a => decide (a.2 ≠ 0)
end Bw
set_option Elab.async false
set_option linter.all false
set_option maxRecDepth 100000
set_option maxHeartbeats 4000000
namespace Bw
open PySem PySem.Spec PyProof.Rows L2
section
variable {P : Program} {w : World} {K : PySem.W.Frag} {mg : Str → Option Value} {base : Heap}
abbrev s_law_book : Stmt := topS 43
abbrev n_law_book : List Str := ["_law_terms_here", "_law_found", "_law_powers_here", "_law_many"]
theorem sc_law_book : FnScope n_law_book ["_law_terms_here"] (defScope s_law_book) := ⟨rfl, rfl, rfl, by decide +kernel, rfl, by decide +kernel, by decide +kernel⟩
/-- what a book of a linear form is -/
structure BookOf (n M : Nat) (ℓ : (List Int → Int) → Int) (bk : List Tm) : Prop where
  nd : NdB bk
  sz : Sized n M bk
  nz : ∀ a ∈ bk, a.2 ≠ 0
  lf : ∀ φ, Lf bk φ = ℓ φ
def spBook : Sp := fun vs H Q _ => ∃ (R : Addr) (ts : List Addr) (terms : List Tm) (n m : Nat), vs = [.ref R] ∧ H R = some (.lst (ts.map V.ref)) ∧ TermsAt H ts terms ∧ terms.length ≤ 1000 ∧ Sized n m terms ∧
  ∀ (d : Addr) (bk : List Tm) (H' : Hp), Same H H' → H d = none → BkAt H' d bk → BookOf n (terms.length * m) (Lf terms) bk → bk.length ≤ terms.length → Q (.ref d) H'
theorem nz_comp {i k : Nat} {σ : L2.St} {H : Hp} {F : Addr} {bk : List Tm} {Q : VK} (h1 : σ[i]? = some (some (.ref F))) (h2 : ∀ v : V, ((wipe σ [k]).set k (some v))[i]? = some (some (.ref F)))
    (h3 : ∀ v : V, ((wipe σ [k]).set k (some v))[k]? = some (some v)) (h4 : ∀ v : V, wipe ((wipe σ [k]).set k (some v)) [k] = wipe σ [k]) (eF : BkAt H F bk) (nd : NdB bk) (hl : bk.length ≤ 1000)
    (q : ∀ (L : Addr) (ts : List Addr) (H' : Hp), Same H H' → H L = none → H' L = some (.lst (ts.map V.ref)) → TermsAt H' ts (bk.filter nzB) → Q (.ref L) H') :
    tLockE (tLc (iKeys (tVar i)) (gName k) (tTest (tOp rNe (tDGet (tVar i) (tVar k)) (tC (V.int 0)))) (tTup (tCons (tVar k) (tCons (tDGet (tVar i) (tVar k)) tNil))) [k]) σ H Q := by
  refine ⟨F, _, eF, trivial, fun od => ?_⟩
  refine ⟨_, h1, F, od, rfl, .inr ⟨_, upd_same, fun L eL => ?_⟩⟩
  have nLF : L ≠ F := Ne.symm (ne_of_none upd_same eL)
  have L0 : H L = none := by
    rw [upd_ne nLF] at eL
    exact eL
  refine lc_it walk_keysT (fun j H' => ∃ ts : List Addr, H' L = some (.lst (ts.map V.ref)) ∧ TermsAt H' ts ((bk.take j).filter nzB) ∧ Same (upd H F (.frz od (.dT (bk.map enc)))) H') ⟨[], upd_same, by rw [List.take_zero]; exact .nil, same_upd eL⟩ (fun j H' _ ⟨_, _, _, s⟩ => s _ _ upd_same) ?_ ?_
  · rintro j x H1 H1' hj ⟨ts, e1, hT1, s1⟩ ⟨rfl, key, v, b, ekv, rfl, eb⟩
    have hj : j < bk.length := by
      rw [List.length_map] at hj
      exact hj
    have ej := List.getElem?_eq_getElem hj
    rw [List.getElem?_map, ej] at ekv
    have ekv := Option.some.inj ekv
    have ek : key = (bk[j]).1.map Sum.inl := (congrArg Prod.fst ekv).symm
    subst ek
    have hm : (bk[j].1, bk[j].2) ∈ bk := List.getElem_mem hj
    have hv : valV (bk.map enc) (bk[j].1.map Sum.inl) = some (V.int bk[j].2) := by
      rw [enc_val, getB_mem nd hm]
      rfl
    have eF1 := s1 _ _ upd_same
    have dg : ∀ H2 : Hp, Same H1' H2 → DGet H2 F (.ref b) (some (V.int bk[j].2)) := fun H2 s2 => .inr ⟨_, _, b, .inr ⟨od, s2 _ _ eF1⟩, rfl, s2 _ _ eb, hv.symm⟩
    refine ⟨h4 _, ?_⟩
    refine ⟨_, h2 _, _, h3 _, F, _, rfl, dg _ (.refl _), rfl, _, rfl, ite2 (fun hz => ?_) (fun hz => ?_)⟩
    rotate_left
    · have tk := take_filter ej nzB
      have hz : bk[j].2 = 0 := Classical.byContradiction fun z => hz (by simp [z])
      refine ⟨ts, e1, ?_, s1⟩
      rw [tk, if_neg (by simp [nzB, hz]), List.append_nil]
      exact hT1
    · have tk := take_filter ej nzB
      have hz : bk[j].2 ≠ 0 := fun z => by simp [z] at hz
      refine ⟨_, h3 _, _, h2 _, _, h3 _, F, _, rfl, dg _ (.refl _), by show 2 ≤ sizeLine; decide, fun t et => ?_⟩
      have st := same_upd (o := .tup [.ref b, .int bk[j].2]) et
      have hln : ts.length ≤ 1000 := by
        have z := hT1.1
        have z2 := List.length_filter_le nzB (bk.take j)
        rw [List.length_take] at z2
        omega
      refine ⟨_, st _ _ e1, by rw [List.length_map]; exact small1000 hln, ts ++ [t], ?_, ?_, ?_⟩
      · rw [upd_same, List.map_append]
        rfl
      · rw [tk, if_pos (by simp [nzB, hz])]
        refine TermsAt.put (TermsAt.snoc (hT1.same st) ⟨b, upd_same, ?_⟩) (st _ _ e1)
        rw [kV_ints] at eb
        exact st _ _ eb
      · exact Same.updN (s1.trans st) eL
  · rintro H1 ⟨ts, e1, hT1, s1⟩
    have eF1 := s1 _ _ upd_same
    rw [List.length_map, List.take_length] at hT1
    refine ⟨eF1, q L ts _ (unlock_same s1 eF) L0 ?_ (hT1.updX eF1 (fun xs z => by cases z))⟩
    rw [upd_ne nLF]
    exact e1
theorem u1 {a c : Nat} (h : a + 64 < c) : a + 1 < c := by omega
theorem ok_book {f : Addr} {fd : FuncData} (F : Fun K "_law_book" "_law_book" s_law_book f fd) (T : Tx mg) : FnOk P w K mg base CX0 1 f fd ["_law_terms_here"] spBook := by
  refine F.ok sc_law_book (fun vs H Q E h => ?_) (fun cdv A outer s H vs Q E hr h => ?_)
  · obtain ⟨R, ts, terms, n, m, rfl, _⟩ := h
    rfl
  · obtain ⟨R, ts, terms, n, m, rfl, hR, hT, hlen, hsz, q⟩ := h
    have hu := hr.units
    refine ⟨_, (pss_cons (ps_set (i := 1) sc_law_book.nd rfl (.inr rfl) pe_dnewT)
  (pss_cons (ps_for PassesOwn.never rfl (p_list (K := K) (pv 0)) (g_tup (K := K) (n := 2) rfl (pgs_cons (pg_name (i := 2) sc_law_book.nd rfl (.inl rfl)) (pgs_cons (pg_name (i := 3) sc_law_book.nd rfl (.inl rfl)) pgs_nil)))
    (pss_one (ps_dput (u1 hu) (pv 1) (pv 2) (pe_op op_add (pe_dget2 (u1 hu) (pv 1) (pv 2) pe_int ⟨rfl, rfl, rfl, rfl⟩) (pv 3)) rfl)))
  (pss_one (ps_ret (pe_callTy (cr_dictPT (K := K) rfl hu) (by rfl) T.dict (by decide +kernel) (pa_cons (pe_lock (pe_lc (own := [("_law_powers_here", 2)]) (by rfl) sc_law_book.nd (pi_keys (pv 1)) (blkOk_by (own := [("_law_powers_here", 2)]) (N := n_law_book) (sc := defScope s_law_book) (by decide +kernel)) (fun _ _ _ _ _ => (pg_name (i := 2) sc_law_book.nd rfl (.inl rfl))) (fun _ _ _ _ _ => pts_one (pt_cmpR op_ne (pe_dget (u1 hu) (pv 1) (pv 2) (fun _ _ => rfl)) pe_int (nomark _))) (fun _ _ _ _ _ => (pe_tup (pa_cons (pv 2) (pa_cons (pe_dget (u1 hu) (pv 1) (pv 2) (fun _ _ => rfl)) pa_nil)))))) pa_nil)))))), ?_⟩
    intro D eD
    have sD := same_upd (o := .dT []) eD
    refine ⟨.ref R, rfl, R, rfl, ⟨_, SqL.of (sD _ _ hR)⟩, ?_⟩
    refine for_list (K := K) (a := R) (xs := ts.map V.ref) (fun i σ H' => ∃ (y2 y3 : Option V) (bk : List Tm), σ = [some (.ref R), some (.ref D), y2, y3] ∧ Same H H' ∧ BkAt H' D bk ∧ NdB bk ∧ Sized n (i * m) bk ∧ (∀ φ, Lf bk φ = Lf (terms.take i) φ) ∧ bk.length ≤ i)
      ⟨none, none, [], rfl, sD, upd_same, List.nodup_nil, .nil, fun φ => rfl, Nat.le_refl _⟩ (fun i σ H' _ ⟨_, _, _, _, s, _⟩ => SqL.of (s _ _ hR)) ?_ ?_
    · rintro i x σ H1 hx ⟨y2, y3, bk, rfl, s1, eB, nd, sz, lf, hl⟩
      obtain ⟨t, et, rfl⟩ : ∃ t, ts[i]? = some t ∧ x = .ref t := by
        rw [List.getElem?_map] at hx
        cases e : ts[i]? with
        | none =>
          rw [e] at hx
          cases hx
        | some t =>
          rw [e] at hx
          exact ⟨t, rfl, (Option.some.inj hx).symm⟩
      obtain ⟨a, ea, b, hb1, hb2⟩ := (hT.same s1).at et
      have hi := (List.getElem?_eq_some_iff.mp ea).1
      have ha := hsz a (List.mem_of_getElem? ea)
      have ek : H1 b = some (.tup ((a.1.map Sum.inl : List Key).map kV)) := by
        rw [kV_ints]
        exact hb2
      have dg : DGet H1 D (.ref b) ((getB bk a.1).map V.int) := by
        rw [← enc_val]
        exact DGet.t eB ek
      refine ⟨t, _, rfl, SqT.of hb1, rfl, _, _, rfl, _, _, rfl, rfl, ?_⟩
      refine ⟨.ref D, rfl, D, rfl, .inr ⟨_, .inl eB⟩, .ref b, rfl, _, dg, .int a.2, rfl, (getB bk a.1).getD 0, a.2, ?_, rfl, .ref D, rfl, .ref b, rfl, D, _, rfl, DPut.t eB ek (by rw [List.length_map]; exact small1000 (by omega)), ?_⟩
      · cases getB bk a.1 <;> rfl
      · refine ⟨_, _, addB bk a.1 a.2, rfl, Same.updN s1 eD, ?_, putB_keys nd, ?_, fun φ => ?_, ?_⟩
        · show upd _ _ _ _ = _
          rw [upd_same, enc_put]
          rfl
        · have z := sz.add ha.1 ha.2
          rw [← Nat.succ_mul] at z
          exact z
        · rw [Lf_addB nd, lf, List.take_succ, ea, Lf_append]
          show _ = _ + Lf [a] φ
          rw [Lf_cons, Lf_nil]
          omega
        · have := putB_len bk a.1 ((getB bk a.1).getD 0 + a.2)
          show (putB _ _ _).length ≤ _
          omega
    · rintro σ H1 ⟨y2, y3, bk, rfl, s1, eB, nd, sz, lf, hl⟩
      rw [List.length_map] at hl sz lf
      rw [hT.1] at hl sz lf
      rw [List.take_length] at lf
      refine nz_comp rfl (fun v => rfl) (fun v => rfl) (fun v => rfl) eB nd (by omega) fun L tl H2 s2 L0 eL hTL => ?_
      obtain ⟨its, pr, ei⟩ := hTL.pairs
      refine ⟨L, tl, its, rfl, SqL.of eL, pr, fun p ep => ?_⟩
      have sp := same_upd (o := .dT (mergeT [] (its.map fun x => (x.1, x.2.2)))) ep
      refine q p (bk.filter nzB) _ ((s1.trans s2).trans sp) ((s1.trans s2).free ep) ?_ ⟨nd_filter nd, fun a ha => sz a ((List.mem_filter.mp ha).1), fun a ha => ?_, fun φ => ?_⟩ ?_
      · show upd _ _ _ _ = _
        rw [upd_same, ei]
        exact congrArg (fun z => some (HO.dT z)) (merge_nd (a := []) (nd_filter nd))
      · exact of_decide_eq_true (List.mem_filter.mp ha).2
      · rw [Lf_filter]
        exact lf φ
      · have := List.length_filter_le nzB bk
        omega
end
end Bw
set_option Elab.async false
set_option linter.all false
set_option maxRecDepth 100000
set_option maxHeartbeats 4000000
namespace Bw
open PySem PySem.Spec PyProof.Rows L2
/-! ### the products of a book, falling -/
def fallB (bk : List Tm) (ks : List (List Int)) : List Tm := ks.map fun p => (p, (getB bk p).getD 0)
theorem fallB_perm {bk : List Tm} {ks : List (List Int)} (nd : NdB bk) (hp : ks.Perm (bk.map (·.1))) : (fallB bk ks).Perm bk := by
  have h : (fallB bk ks).Perm ((bk.map (·.1)).map fun p => (p, (getB bk p).getD 0)) := hp.map _
  rw [List.map_map] at h
  have e : bk.map ((fun p => (p, (getB bk p).getD 0)) ∘ (·.1)) = bk.map id := List.map_congr_left fun a ha => by
    show (a.1, (getB bk a.1).getD 0) = a
    rw [getB_mem nd (c := a.2) ha]
    rfl
  rw [e, List.map_id] at h
  exact h
theorem fallB_falls {bk : List Tm} {ks : List (List Int)} (nd : NdB bk) (hp : ks.Perm (bk.map (·.1))) (hw : ks.Pairwise fun x y => HT.lexLt x y = false) : Falls (fallB bk ks) := by
  have n : ks.Nodup := hp.nodup_iff.mpr nd
  unfold Falls fallB
  rw [List.pairwise_map]
  refine (hw.and n).imp fun {x y} h => ?_
  cases e : HT.lexLt y x with
  | true => rfl
  | false => exact absurd (lex_tot h.1 e) h.2
theorem fallB_cn {n M : Nat} {ℓ : (List Int → Int) → Int} {bk : List Tm} {ks : List (List Int)} (B : BookOf n M ℓ bk) (hp : ks.Perm (bk.map (·.1))) (hw : ks.Pairwise fun x y => HT.lexLt x y = false) : Cn ℓ (fallB bk ks) :=
  ⟨fallB_falls B.nd hp hw, fun a ha => B.nz a ((fallB_perm B.nd hp).mem_iff.mp ha), fun φ => by rw [Lf_perm (fallB_perm B.nd hp), B.lf]⟩
theorem fallB_cnF {n M : Nat} {ℓ : (List Int → Int) → Int} {bk : List Tm} {ks : List (List Int)} (nd : NdB bk) (lf : ∀ φ, Lf bk φ = ℓ φ) (hp : ks.Perm (bk.map (·.1))) (hw : ks.Pairwise fun x y => HT.lexLt x y = false) : Cn ℓ ((fallB bk ks).filter nzB) :=
  ⟨List.Pairwise.filter _ (fallB_falls nd hp hw), fun a ha => of_decide_eq_true (List.mem_filter.mp ha).2, fun φ => by rw [Lf_filter, Lf_perm (fallB_perm nd hp), lf]⟩
theorem fallB_take {bk : List Tm} {ks : List (List Int)} {i : Nat} {p : List Int} (h : ks[i]? = some p) : (fallB bk (ks.take (i + 1))) = fallB bk (ks.take i) ++ [(p, (getB bk p).getD 0)] := by
  unfold fallB
  rw [List.take_succ, h, List.map_append]
  rfl
theorem keys_of {H : Hp} : ∀ {bk : List Tm} {bs : List Addr}, IsKeys H (bk.map enc) bs → (∀ b ∈ bs, ∃ q : List Int, H b = some (.tup (q.map V.int))) ∧ bs.map (keyOf H) = bk.map (·.1)
  | [], _, .nil => ⟨fun b hb => by simp at hb, rfl⟩
  | a :: bk, _, .cons (b := b) h r => by
    obtain ⟨i1, i2⟩ := keys_of r
    have h' : H b = some (.tup (a.1.map V.int)) := by
      rw [← kV_ints]
      exact h
    refine ⟨fun c hc => ?_, ?_⟩
    · rcases List.mem_cons.mp hc with rfl | hc
      · exact ⟨_, h'⟩
      · exact i1 c hc
    · rw [List.map_cons, i2, keyOf_at h']
      rfl
section
variable {P : Program} {w : World} {K : PySem.W.Frag} {mg : Str → Option Value} {base : Heap}
abbrev s_law_told : Stmt := topS 44
abbrev n_law_told : List Str := ["_law_book_here", "_law_powers_here"]
theorem sc_law_told : FnScope n_law_told ["_law_book_here"] (defScope s_law_told) := ⟨rfl, rfl, rfl, by decide +kernel, rfl, by decide +kernel, by decide +kernel⟩
def spTold : Sp := fun vs H Q _ => ∃ (d : Addr) (bk : List Tm) (n M : Nat) (ℓ : (List Int → Int) → Int), vs = [.ref d] ∧ BkAt H d bk ∧ BookOf n M ℓ bk ∧ bk.length ≤ 1000 ∧
  ∀ (L : Addr) (ts : List Addr) (r : List Tm) (H' : Hp), Same H H' → H L = none → H' L = some (.lst (ts.map V.ref)) → TermsAt H' ts r → Cn ℓ r → r.length = bk.length → Q (.ref L) H'
theorem ok_told {f : Addr} {fd : FuncData} (F : Fun K "_law_told" "_law_told" s_law_told f fd) (T : Tx mg) : FnOk P w K mg base CX0 1 f fd ["_law_book_here"] spTold := by
  refine F.ok sc_law_told (fun vs H Q E h => ?_) (fun cdv A outer s H vs Q E hr h => ?_)
  · obtain ⟨d, bk, n, M, ℓ, rfl, _⟩ := h
    rfl
  · obtain ⟨d, bk, n, M, ℓ, rfl, eB, B, hl, q⟩ := h
    have hu := hr.units
    refine ⟨_, (pss_one (ps_ret (pe_lc (own := [("_law_powers_here", 1)]) (by rfl) sc_law_told.nd (p_list (K := K) (pe_revL (pe_callB (cr_sortTI (K := K)) (by rfl) T.sorted (by decide +kernel) (pa_cons (pe_callTy (call_list_dT rfl) (by rfl) T.list (by decide +kernel) (pa_cons (pv 0) pa_nil)) pa_nil)))) (blkOk_by (own := [("_law_powers_here", 1)]) (N := n_law_told) (sc := defScope s_law_told) (by decide +kernel)) (fun _ _ _ _ _ => (pg_name (i := 1) sc_law_told.nd rfl (.inl rfl))) (fun _ _ _ _ _ => pts_nil) (fun _ _ _ _ _ => (pe_tup (pa_cons (pv 1) (pa_cons (pe_dget (u1 hu) (pv 0) (pv 1) (fun _ _ => rfl)) pa_nil))))))), ?_⟩
    refine ⟨.ref d, rfl, d, _, rfl, .inl eB, fun p bs ep hk => ?_⟩
    have sp := same_upd (o := .lst (bs.map V.ref)) ep
    obtain ⟨k1, k2⟩ := keys_of hk
    have k3 : ∀ b ∈ bs, keyOf (upd H p (.lst (bs.map V.ref))) b = keyOf H b := fun b hb => by
      obtain ⟨q', hq'⟩ := k1 b hb
      rw [keyOf_at hq', keyOf_at (sp _ _ hq')]
    have k4 : bs.map (keyOf (upd H p (.lst (bs.map V.ref)))) = bk.map (·.1) := by
      rw [← k2]
      exact List.map_congr_left k3
    refine ⟨p, bs, rfl, SqL.of upd_same, fun b hb => ?_, fun h2 b hb => ?_, fun ts' p2 hp hw ep2 => ?_⟩
    · obtain ⟨q', hq'⟩ := k1 b hb
      exact ⟨q', sp _ _ hq'⟩
    · refine nd_keys B.nd B.sz ?_ _ ?_
      · rw [← k4, List.length_map]
        exact h2
      · rw [← k4]
        exact List.mem_map_of_mem hb
    · generalize hH1 : upd H p (.lst (bs.map V.ref)) = H1 at *
      have sp2 := same_upd (o := .lst (ts'.map V.ref)) ep2
      refine ⟨p2, _, rfl, SqL.of upd_same, fun p3 ep3 => ?_⟩
      have sp3 := same_upd (o := .lst (ts'.map V.ref).reverse) ep3
      refine ⟨p3, rfl, ⟨_, SqL.of upd_same⟩, fun L eL => ?_⟩
      have s3 : Same H1 (upd (upd H1 p2 (.lst (ts'.map V.ref))) p3 (.lst (ts'.map V.ref).reverse)) := sp2.trans sp3
      have nL3 : p3 ≠ L := ne_of_none upd_same eL
      have e3 : (upd (upd H1 p2 (.lst (ts'.map V.ref))) p3 (.lst (ts'.map V.ref).reverse)) p3 = some (.lst (ts'.map V.ref).reverse) := upd_same
      generalize (upd (upd H1 p2 (.lst (ts'.map V.ref))) p3 (.lst (ts'.map V.ref).reverse)) = H3 at *
      rw [← List.map_reverse] at e3
      have pm : ((ts'.reverse).map (keyOf H1)).Perm (bk.map (·.1)) := by
        rw [← k4]
        exact ((List.reverse_perm ts').trans hp).map _
      have pw : ((ts'.reverse).map (keyOf H1)).Pairwise fun x y => HT.lexLt x y = false := by
        rw [List.pairwise_map, List.pairwise_reverse]
        exact hw
      have kt : ∀ b ∈ ts'.reverse, ∃ q : List Int, H1 b = some (.tup (q.map V.int)) := fun b hb => by
        obtain ⟨q', hq'⟩ := k1 b (hp.mem_iff.mp (List.mem_reverse.mp hb))
        exact ⟨q', sp _ _ hq'⟩
      have sH : Same H H3 := sp.trans s3
      have eB3 := sH _ _ eB
      generalize ts'.reverse = us at *
      have lu : us.length = bk.length := by
        have z := pm.length_eq
        rw [List.length_map, List.length_map] at z
        exact z
      refine lc_list (K := K) (a := p3) (xs := us.map V.ref) (fun j H' => ∃ ts : List Addr, H' L = some (.lst (ts.map V.ref)) ∧ TermsAt H' ts (fallB bk ((us.map (keyOf H1)).take j)) ∧ Same H3 H') ⟨[], upd_same, .nil, same_upd eL⟩ (fun j H' _ ⟨_, _, _, s⟩ => SqL.of (s _ _ e3)) ?_ ?_
      · rintro j x H4 hx ⟨ts, e4, hT4, s4⟩
        obtain ⟨b, eb, rfl⟩ : ∃ b, us[j]? = some b ∧ x = .ref b := by
          rw [List.getElem?_map] at hx
          cases e : us[j]? with
          | none =>
            rw [e] at hx
            cases hx
          | some t =>
            rw [e] at hx
            exact ⟨t, rfl, (Option.some.inj hx).symm⟩
        obtain ⟨q', hq'⟩ := kt b (List.mem_of_getElem? eb)
        have ek : (us.map (keyOf H1))[j]? = some q' := by
          rw [List.getElem?_map, eb]
          show some (keyOf H1 b) = _
          rw [keyOf_at hq']
        have hq4 := s4 _ _ (s3 _ _ hq')
        obtain ⟨a, ha, e1⟩ := List.mem_map.mp (pm.mem_iff.mp (List.mem_of_getElem? ek))
        have gb : getB bk q' = some a.2 := getB_mem B.nd (by rw [← e1]; exact ha)
        have hv : valV (bk.map enc) (q'.map Sum.inl) = some (V.int a.2) := by
          rw [enc_val, gb]
          rfl
        refine ⟨rfl, .ref b, rfl, .ref d, rfl, .ref b, rfl, d, .int a.2, rfl, .inr ⟨_, q'.map Sum.inl, b, .inl (s4 _ _ eB3), rfl, by rw [kV_ints]; exact hq4, hv.symm⟩, by show 2 ≤ sizeLine; decide, fun t et => ?_⟩
        have st := same_upd (o := .tup [.ref b, .int a.2]) et
        have lt : ts.length ≤ 1000 := by
          have z := hT4.1
          unfold fallB at z
          rw [List.length_map, List.length_take, List.length_map] at z
          omega
        refine ⟨_, st _ _ e4, by rw [List.length_map]; exact small1000 lt, ts ++ [t], ?_, ?_, Same.updN (s4.trans st) eL⟩
        · rw [upd_same, List.map_append]
          rfl
        · rw [fallB_take ek, gb]
          exact TermsAt.put (TermsAt.snoc (hT4.same st) ⟨b, upd_same, st _ _ hq4⟩) (st _ _ e4)
      · rintro H4 ⟨ts, e4, hT4, s4⟩
        rw [List.length_map, ← List.length_map (f := keyOf H1), List.take_length] at hT4
        refine q L ts _ _ (sH.trans s4) (sH.free eL) e4 hT4 (fallB_cn B pm pw) ?_
        exact (fallB_perm B.nd pm).length_eq
end
end Bw
set_option Elab.async false
set_option linter.all false
set_option maxRecDepth 100000
set_option maxHeartbeats 4000000
namespace Bw
open PySem PySem.Spec PyProof.Rows L2
theorem ref_at {ts : List Addr} {i : Nat} {x : V} (h : (ts.map V.ref)[i]? = some x) : ∃ t, ts[i]? = some t ∧ x = .ref t := by
  rw [List.getElem?_map] at h
  cases e : ts[i]? with
  | none =>
    rw [e] at h
    cases h
  | some t =>
    rw [e] at h
    exact ⟨t, rfl, (Option.some.inj h).symm⟩
theorem SqS.same {K : PySem.W.Frag} {b : Bool} {H H' : Hp} {a : Addr} {xs : List V} (s : Same H H') (h : SqS K b H a xs) : SqS K b H' a xs := by
  cases b
  · rcases h with (h | ⟨o, h⟩) | h
    · exact .inl (.inl (s _ _ h))
    · exact .inl (.inr ⟨o, s _ _ h⟩)
    · exact .inr h
  · exact Same.seq s h
section
variable {P : Program} {w : World} {K : PySem.W.Frag} {mg : Str → Option Value} {base : Heap}
abbrev s_gathered : Stmt := topS 11
abbrev n_gathered : List Str := ["terms", "counts", "powers", "count", "key"]
theorem sc_gathered : FnScope n_gathered ["terms"] (defScope s_gathered) := ⟨rfl, rfl, rfl, by decide +kernel, rfl, by decide +kernel, by decide +kernel⟩
def spGath (K : PySem.W.Frag) : Sp := fun vs H Q _ => ∃ (R : Addr) (ts : List Addr) (terms : List Tm) (n m : Nat) (bb : Bool), vs = [.ref R] ∧ SqS K bb H R (ts.map V.ref) ∧ TermsAt H ts terms ∧ terms.length ≤ 1000 ∧ Sized n m terms ∧
  ∀ (p : Addr) (us : List Addr) (r : List Tm) (H' : Hp), Same H H' → H p = none → H' p = some (.tup (us.map V.ref)) → TermsAt H' us r → Cn (Lf terms) r → Sized n (terms.length * m) r → r.length ≤ terms.length → Q (.ref p) H'
theorem ok_gath {f : Addr} {fd : FuncData} (F : Fun K "gathered" "gathered" s_gathered f fd) (T : Tx mg) : FnOk P w K mg base CX0 1 f fd ["terms"] (spGath K) := by
  refine F.ok sc_gathered (fun vs H Q E h => ?_) (fun cdv A outer s H vs Q E hr h => ?_)
  · obtain ⟨R, ts, terms, n, m, bb, rfl, _⟩ := h
    rfl
  · obtain ⟨R, ts, terms, n, m, bb, rfl, hR, hT, hlen, hsz, q⟩ := h
    have hu := hr.units
    refine ⟨_, (pss_cons (ps_set (i := 1) sc_gathered.nd rfl (.inr rfl) pe_dnewT)
  (pss_cons (ps_for PassesOwn.never rfl (p_seq (K := K) (pv 0)) (g_tup (K := K) (n := 2) rfl (pgs_cons (pg_name (i := 2) sc_gathered.nd rfl (.inl rfl)) (pgs_cons (pg_name (i := 3) sc_gathered.nd rfl (.inl rfl)) pgs_nil)))
    (pss_cons (ps_set (i := 4) sc_gathered.nd rfl (.inl rfl) (pe_callTy (c_tup (K := K)) (by rfl) T.tuple (by decide +kernel) (pa_cons (pv 2) pa_nil)))
    (pss_one (ps_dput (u1 hu) (pv 1) (pv 4) (pe_op op_add (pe_dget2 (u1 hu) (pv 1) (pv 4) pe_int ⟨rfl, rfl, rfl, rfl⟩) (pv 3)) rfl))))
  (pss_one (ps_ret (pe_callTy (c_tup (K := K)) (by rfl) T.tuple (by decide +kernel) (pa_cons (pe_lc (own := [("powers", 2)]) (by rfl) sc_gathered.nd (p_list (K := K) (pe_callBK (cr_sortDT rfl) (by rfl) T.sorted (by decide +kernel) (pa_cons (pv 1) pa_nil) (pk_cons pe_bl pk_nil))) (blkOk_by (own := [("powers", 2)]) (N := n_gathered) (sc := defScope s_gathered) (by decide +kernel)) (fun _ _ _ _ _ => (pg_name (i := 2) sc_gathered.nd rfl (.inl rfl))) (fun _ _ _ _ _ => pts_one (pt_cmpR op_ne (pe_dget (u1 hu) (pv 1) (pv 2) (fun _ _ => rfl)) pe_int (nomark _))) (fun _ _ _ _ _ => (pe_tup (pa_cons (pv 2) (pa_cons (pe_dget (u1 hu) (pv 1) (pv 2) (fun _ _ => rfl)) pa_nil))))) pa_nil)))))), ?_⟩
    intro D eD
    have sD := same_upd (o := .dT []) eD
    refine ⟨.ref R, rfl, R, _, bb, rfl, hR.same sD, ?_⟩
    refine for_it (walk_seq (K := K) (b := bb) (a := R) (xs := ts.map V.ref)) (fun i σ H' => ∃ (y2 y3 y4 : Option V) (bk : List Tm), σ = [some (.ref R), some (.ref D), y2, y3, y4] ∧ Same H H' ∧ BkAt H' D bk ∧ NdB bk ∧ Sized n (i * m) bk ∧ (∀ φ, Lf bk φ = Lf (terms.take i) φ) ∧ bk.length ≤ i)
      ⟨none, none, none, [], rfl, sD, upd_same, List.nodup_nil, .nil, fun φ => rfl, Nat.le_refl _⟩ (fun i σ H' _ ⟨_, _, _, _, _, s, _⟩ => hR.same s) ?_ ?_
    · rintro i x σ H1' H1 _ ⟨y2, y3, y4, bk, rfl, s1, eB, nd, sz, lf, hl⟩ ⟨rfl, hx⟩
      obtain ⟨t, et, rfl⟩ := ref_at hx
      obtain ⟨a, ea, b, hb1, hb2⟩ := (hT.same s1).at et
      have hi := (List.getElem?_eq_some_iff.mp ea).1
      have ha := hsz a (List.mem_of_getElem? ea)
      have ek : H1 b = some (.tup ((a.1.map Sum.inl : List Key).map kV)) := by
        rw [kV_ints]
        exact hb2
      have dg : DGet H1 D (.ref b) ((getB bk a.1).map V.int) := by
        rw [← enc_val]
        exact DGet.t eB ek
      refine ⟨t, _, rfl, SqT.of hb1, rfl, _, _, rfl, _, _, rfl, rfl, ?_⟩
      refine ⟨.ref b, rfl, b, _, rfl, .inr ⟨SqT.of hb2, ?_⟩⟩
      refine ⟨.ref D, rfl, D, rfl, .inr ⟨_, .inl eB⟩, .ref b, rfl, _, dg, .int a.2, rfl, (getB bk a.1).getD 0, a.2, ?_, rfl, .ref D, rfl, .ref b, rfl, D, _, rfl, DPut.t eB ek (by rw [List.length_map]; exact small1000 (by omega)), ?_⟩
      · cases getB bk a.1 <;> rfl
      · refine ⟨_, _, _, addB bk a.1 a.2, rfl, Same.updN s1 eD, ?_, putB_keys nd, ?_, fun φ => ?_, ?_⟩
        · show upd _ _ _ _ = _
          rw [upd_same, enc_put]
          rfl
        · have z := sz.add ha.1 ha.2
          rw [← Nat.succ_mul] at z
          exact z
        · rw [Lf_addB nd, lf, List.take_succ, ea, Lf_append]
          show _ = _ + Lf [a] φ
          rw [Lf_cons, Lf_nil]
          omega
        · have := putB_len bk a.1 ((getB bk a.1).getD 0 + a.2)
          show (putB _ _ _).length ≤ _
          omega
    · rintro σ H1 ⟨y2, y3, y4, bk, rfl, s1, eB, nd, sz, lf, hl⟩
      rw [List.length_map] at hl sz lf
      rw [hT.1] at hl sz lf
      rw [List.take_length] at lf
      refine ⟨.ref D, rfl, D, _, bk.map (·.1), rfl, rfl, .inl eB, enc_keys bk, nd_keys nd sz, fun us p3 kt pm pw ep3 => ?_⟩
      have pw : (us.map (keyOf H1)).Pairwise fun x y => HT.lexLt x y = false := by
        rw [List.pairwise_map]
        exact pw
      have sp := same_upd (o := .lst (us.map V.ref)) ep3
      refine ⟨p3, rfl, ⟨_, SqL.of upd_same⟩, fun L eL => ?_⟩
      have e3 : (upd H1 p3 (.lst (us.map V.ref))) p3 = some (.lst (us.map V.ref)) := upd_same
      have lu : us.length = bk.length := by
        have z := pm.length_eq
        rw [List.length_map, List.length_map] at z
        exact z
      generalize (upd H1 p3 (.lst (us.map V.ref))) = H3 at *
      have sH : Same H H3 := s1.trans sp
      have eB3 := sp _ _ eB
      refine lc_list (K := K) (a := p3) (xs := us.map V.ref) (fun j H' => ∃ ts : List Addr, H' L = some (.lst (ts.map V.ref)) ∧ TermsAt H' ts ((fallB bk ((us.map (keyOf H1)).take j)).filter nzB) ∧ Same H3 H') ⟨[], upd_same, .nil, same_upd eL⟩ (fun j H' _ ⟨_, _, _, s⟩ => SqL.of (s _ _ e3)) ?_ ?_
      · rintro j x H4 hx ⟨ts, e4, hT4, s4⟩
        obtain ⟨b, eb, rfl⟩ := ref_at hx
        obtain ⟨q', hq'⟩ := kt b (List.mem_of_getElem? eb)
        have ek : (us.map (keyOf H1))[j]? = some q' := by
          rw [List.getElem?_map, eb]
          show some (keyOf H1 b) = _
          rw [keyOf_at hq']
        have hq4 := s4 _ _ (sp _ _ hq')
        obtain ⟨a, ha, e1⟩ := List.mem_map.mp (pm.mem_iff.mp (List.mem_of_getElem? ek))
        have gb : getB bk q' = some a.2 := getB_mem nd (by rw [← e1]; exact ha)
        have hv : valV (bk.map enc) (q'.map Sum.inl) = some (V.int a.2) := by
          rw [enc_val, gb]
          rfl
        have dg : DGet H4 D (.ref b) (some (.int a.2)) := .inr ⟨_, q'.map Sum.inl, b, .inl (s4 _ _ eB3), rfl, by rw [kV_ints]; exact hq4, hv.symm⟩
        have tk : (fallB bk ((us.map (keyOf H1)).take (j + 1))).filter nzB = (fallB bk ((us.map (keyOf H1)).take j)).filter nzB ++ (if a.2 ≠ 0 then [(q', a.2)] else []) := by
          rw [fallB_take ek, gb, List.filter_append]
          congr 1
          by_cases z : a.2 = 0 <;> simp [nzB, z]
        refine ⟨rfl, .ref D, rfl, .ref b, rfl, D, .int a.2, rfl, dg, rfl, _, rfl, ite2 (fun hz => ?_) (fun hz => ?_)⟩
        · have hz : a.2 ≠ 0 := fun z => by simp [z] at hz
          rw [tk, if_pos hz]
          refine ⟨.ref b, rfl, .ref D, rfl, .ref b, rfl, D, .int a.2, rfl, dg, by show 2 ≤ sizeLine; decide, fun t et => ?_⟩
          have st := same_upd (o := .tup [.ref b, .int a.2]) et
          have lt : ts.length ≤ 1000 := by
            have z := hT4.1
            have z2 := List.length_filter_le nzB (fallB bk ((us.map (keyOf H1)).take j))
            have z3 : (fallB bk ((us.map (keyOf H1)).take j)).length ≤ bk.length := by
              unfold fallB
              rw [List.length_map, List.length_take, List.length_map]
              omega
            omega
          refine ⟨_, st _ _ e4, by rw [List.length_map]; exact small1000 lt, ts ++ [t], ?_, ?_, Same.updN (s4.trans st) eL⟩
          · rw [upd_same, List.map_append]
            rfl
          · exact TermsAt.put (TermsAt.snoc (hT4.same st) ⟨b, upd_same, st _ _ hq4⟩) (st _ _ e4)
        · have hz : a.2 = 0 := Classical.byContradiction fun z => hz (by simp [z])
          rw [tk, if_neg (fun z => z hz), List.append_nil]
          exact ⟨ts, e4, hT4, s4⟩
      · rintro H4 ⟨ts, e4, hT4, s4⟩
        rw [List.length_map, ← List.length_map (f := keyOf H1), List.take_length] at hT4
        refine ⟨L, _, rfl, .inl ⟨SqL.of e4, fun p ep => ?_⟩⟩
        have st := same_upd (o := .tup (ts.map V.ref)) ep
        have pmB := fallB_perm nd pm
        have hle := List.length_filter_le nzB (fallB bk (us.map (keyOf H1)))
        refine q p ts _ _ ((sH.trans s4).trans st) ((sH.trans s4).free ep) upd_same (hT4.same st) (fallB_cnF (n := n) (M := 0) nd lf pm pw) (fun a ha => sz a (pmB.mem_iff.mp (List.mem_filter.mp ha).1)) ?_
        rw [pmB.length_eq] at hle
        omega
end
end Bw
set_option Elab.async false
set_option linter.all false
set_option maxRecDepth 100000
set_option maxHeartbeats 4000000
namespace Bw
open PySem PySem.Spec PyProof.Rows L2
/-! ### the class Sum -/
structure SumC (K : PySem.W.Frag) (mg : Str → Option Value) (C : Addr) : Prop where
  gl : mg "Sum" = some (.ref C)
  cls : Cls K C
  nw : NoAttr K C "width"
  np : NoAttr K C "products"
  ha : PySem.W.findIn K (.ref C) "__class__" = some (some (.builtin "object.__class__"))
  hn : PySem.W.specialIn K (.builtin "object.__class__") "__get__" = some (some (.builtin "getset_descriptor.__get__"))
  htk : PySem.W.takesIn K (.builtin "object.__class__") = some true
  hm : PySem.W.mroIn K C (.type "object") = some true
  self : PySem.W.kitOne K (.ref C) (.ref C) = some true
  kp : PySem.W.keepIn K (.ref C) = true
structure MakS (P : Program) (w : World) (K : PySem.W.Frag) (mg : Str → Option Value) (base : Heap) (k : Nat) (C : Addr) (ps : List Str) (sp : Sp) : Prop where
  ex : ∃ (f : Addr) (fd : FuncData), Mk K C f ∧ FnOk P w K mg base CX0 k f fd ps sp ∧ mg "Sum" = some (.ref C) ∧ Binds K fd ps []
structure MetS (P : Program) (w : World) (K : PySem.W.Frag) (mg : Str → Option Value) (base : Heap) (k : Nat) (C : Addr) (m : Str) (ps : List Str) (sp : Sp) : Prop where
  ex : ∃ (f : Addr) (fd : FuncData), Cls K C ∧ Meth K C m f ∧ FnOk P w K mg base CX0 k f fd ps sp ∧ Binds K fd ps []
section
variable {X : Cx} {ps : List Str} {sp : Sp} {k : Nat} {C : Addr} {m : Str} {o e : Expr} {es : List Expr} {p pos apos : Pos} {t : TA} {ta : TE}
theorem pe_mkS (M : MakS X.prog X.w X.K X.mg X.base k C ps sp) (hr : Room (k + 1) X.A) (hg : Gl X "Sum") (ha : PA X (e :: es) t) (he : starEach (e :: es) X.env = (false, eval e X.env) :: starEach es X.env := by rfl)
    (hpl : (backTo pos (starEach es X.env)).any (·.1) = false := by rfl) : PE X (.Call (.Name "Sum" p) (e :: es) [] pos) (tMake C sp [] E0 t) := by
  obtain ⟨f, fd, mk, F, hm, hb⟩ := M.ex
  exact pe_make mk F hr hg hm hb .nil pass0 ha (by decide) he hpl
theorem pe_mtS {pl : Sem Bool} (M : MetS X.prog X.w X.K X.mg X.base k C m ps sp) (hr : Room k X.A) (ho : PE X o ta) (ha : PA X (e :: es) t) (hst : starEach (e :: es) X.env = (false, eval e X.env) :: starEach es X.env := by rfl)
    (hpl : (backTo pos (starEach es X.env)).any (·.1) = false := by rfl)
    (ht : eval (.Call (.Attribute o m apos) (e :: es) [] pos) X.env = (do
      let ov ← eval o X.env
      standAt apos.atName
      let (f, first) ← holding [ov] (getMethod ov m pl)
      callWith pos f first (backTo pos (starEach (e :: es) X.env)) (backToKw pos (keywordEach [] X.env))) := by rfl) : PE X (.Call (.Attribute o m apos) (e :: es) [] pos) (tMeth C m sp [] E0 ta t) := by
  obtain ⟨f, fd, c, hm, F, hb⟩ := M.ex
  exact pe_meth (pl := pl) ho c hm F hr hb .nil pass0 ha hst hpl ht
theorem pe_mtS0 {pl : Sem Bool} (M : MetS X.prog X.w X.K X.mg X.base k C m ps sp) (hr : Room k X.A) (ho : PE X o ta)
    (ht : eval (.Call (.Attribute o m apos) [] [] pos) X.env = (do
      let ov ← eval o X.env
      standAt apos.atName
      let (f, first) ← holding [ov] (getMethod ov m pl)
      callWith pos f first (backTo pos (starEach [] X.env)) (backToKw pos (keywordEach [] X.env))) := by rfl) : PE X (.Call (.Attribute o m apos) [] [] pos) (tMeth C m sp [] E0 ta tNil) := by
  obtain ⟨f, fd, c, hm, F, hb⟩ := M.ex
  exact pe_meth0 (pl := pl) ho c hm F hr hb .nil pass0 ht
theorem pf {K : PySem.W.Frag} {f : Str} (he : PE X e ta) (hK : X.K = K := by rfl) (hb : attributeBase e f X.env (eval e X.env) = eval e X.env := by rfl) : PE X (.Attribute e f pos) (tFld K ta f) := by
  subst hK
  exact pe_fld he hb
end
def SumAt (C : Addr) (H : Hp) (a : Addr) (n : Nat) (r : List Tm) : Prop := ∃ (dx p : Addr) (us : List Addr), H a = some (.ins C dx [("width", .int n), ("products", .ref p)]) ∧ H p = some (.tup (us.map V.ref)) ∧ TermsAt H us r
theorem SumAt.same {C : Addr} {H H' : Hp} {a : Addr} {n : Nat} {r : List Tm} (s : Same H H') (h : SumAt C H a n r) : SumAt C H' a n r := by
  obtain ⟨dx, p, us, h1, h2, h3⟩ := h
  exact ⟨dx, p, us, s _ _ h1, s _ _ h2, h3.same s⟩
theorem any_rep (n : Nat) : (List.replicate n false).any id = false := by
  rw [List.any_eq_false]
  intro x hx
  rw [List.eq_of_mem_replicate hx]
  decide
theorem FunD.ok0 {P : Program} {w : World} {K : PySem.W.Frag} {mg : Str → Option Value} {base : Heap} {x qual : Str} {params : Arguments} {body : List Stmt} {scope : Scope} {dvs : List V} {kws : List (Str × V)} {f : Addr} {fd : FuncData} {N ps : List Str} {k : Nat} {sp : Sp} (F : FunD K x qual params body scope dvs kws f fd) (S : FnScope N ps scope)
    (len : ∀ vs H Q E, sp vs H Q E → vs.length = ps.length)
    (hbody : ∀ (cdv : Value) (A : Around) (outer : List Env) (s : Shared) (H : Hp) (vs : List V) (Q : VK) (E : XK), Room k (A.deeper (envOfC qual scope s.heap.objs.size f cdv)) → sp vs H Q E →
      ∃ t, PSs (cxOf CX0 P w K mg base N qual scope f cdv A outer s H E).nox body t ∧ t { nx := fun _ H' => Q .non H', rt := Q } (L2.start N vs) H) : FnOk P w K mg base CX0 (k + 1) f fd ps sp := by
  refine F.ok S len fun cdv A outer s H vs Q E hr hsp => ?_
  obtain ⟨t, h, q⟩ := hbody cdv A outer s H vs Q E hr hsp
  exact ⟨t, h.nox, q⟩
section
variable {P : Program} {w : World} {K : PySem.W.Frag} {mg : Str → Option Value} {base : Heap} {C : Addr}
abbrev s_init : Stmt := inClass (topS 33) 0
abbrev n_init : List Str := ["self", "width", "terms", "powers", "count", "products"]
theorem sc_init : FnScope n_init ["self", "width", "terms"] (defScope s_init) := ⟨rfl, rfl, rfl, by decide +kernel, rfl, by decide +kernel, by decide +kernel⟩
def spInit (K : PySem.W.Frag) (C : Addr) : Sp := fun vs H Q _ => ∃ (x dx R : Addr) (ts : List Addr) (terms : List Tm) (n m : Nat) (bb : Bool), vs = [.ref x, .int n, .ref R] ∧ H x = some (.ins C dx []) ∧ SqS K bb H R (ts.map V.ref) ∧ TermsAt H ts terms ∧ terms.length ≤ 400 ∧ Sized n m terms ∧
  ∀ (r : List Tm) (H' : Hp), SameBut x H H' → SumAt C H' x n r → Cn (Lf terms) r → Sized n (terms.length * m) r → r.length ≤ terms.length → Q .non H'
theorem ok_init {f : Addr} {fd : FuncData} {dvs : List V} {kws : List (Str × V)} (F : FunD K "__init__" "Sum.__init__" (defArgs s_init) (defBody s_init) (defScope s_init) dvs kws f fd) (T : Tx mg) (S : SumC K mg C) (c_gathered : Cal P w K mg base CX0 1 "gathered" ["terms"] (spGath K)) : FnOk P w K mg base CX0 2 f fd ["self", "width", "terms"] (spInit K C) := by
  refine FunD.ok0 F sc_init (fun vs H Q E h => ?_) (fun cdv A outer s H vs Q E hr h => ?_)
  · obtain ⟨x, dx, R, ts, terms, n, m, bb, rfl, _⟩ := h
    rfl
  · obtain ⟨x, dx, R, ts, terms, n, m, bb, rfl, hx, hR, hT, hlen, hsz, q⟩ := h
    refine ⟨_, (pss_cons (ps_if (pt_val (pe_callB (c_any (K := K) rfl) (by rfl) T.any (by decide +kernel) (pa_cons (pe_lc (own := [("powers", 3), ("count", 4)]) (by rfl) sc_init.nd (p_seq (K := K) (pv 2)) (blkOk_by (own := [("powers", 3), ("count", 4)]) (N := n_init) (sc := defScope s_init) (by decide +kernel)) (fun _ _ _ _ _ => (g_tup (K := K) (n := 2) rfl (pgs_cons (pg_name (i := 3) sc_init.nd rfl (.inl rfl)) (pgs_cons (pg_name (i := 4) sc_init.nd rfl (.inl rfl)) pgs_nil)))) (fun _ _ _ _ _ => pts_nil) (fun _ _ _ _ _ => (pe_cmpR op_ne (pe_callB (c_len (K := K)) (by rfl) T.len PySem.boot_len (pa_cons (pv 3) pa_nil)) (pv 1) (nomark _)))) pa_nil)))
    pss_never
    pss_nil)
  (pss_cons (ps_set (i := 5) sc_init.nd rfl (.inl rfl) (pe_cal c_gathered hr (by rfl) (pa_cons (pv 2) pa_nil)))
  (pss_cons (ps_if (pt_cmpR op_gt (pe_callB (c_len (K := K)) (by rfl) T.len PySem.boot_len (pa_cons (pv 5) pa_nil)) (pe_gint (by rfl) T.WIDE) (nomark _))
    pss_never
    pss_nil)
  (pss_cons (ps_fld (pv 0) (pv 1) rfl) (pss_one (ps_fld (pv 0) (pv 5) rfl)))))), ?_⟩
    refine ⟨.ref R, rfl, R, _, bb, rfl, hR, fun D eD => ?_⟩
    refine lc_it (walk_seq (K := K) (b := bb) (a := R) (xs := ts.map V.ref)) (fun j H' => H' D = some (.lst ((List.replicate j false).map V.bl)) ∧ Same H H') ⟨upd_same, same_upd eD⟩ (fun j H' _ ⟨_, s⟩ => hR.same s) ?_ ?_
    · rintro j v H1' H1 _ ⟨e1, s1⟩ ⟨rfl, hv⟩
      obtain ⟨t, et, rfl⟩ := ref_at hv
      obtain ⟨a, ea, b, hb1, hb2⟩ := (hT.same s1).at et
      have hi := (List.getElem?_eq_some_iff.mp ea).1
      have za := hsz a (List.mem_of_getElem? ea)
      refine ⟨t, _, rfl, SqT.of hb1, rfl, _, _, rfl, _, _, rfl, rfl, rfl, .ref b, rfl, b, _, rfl, .inr (SqT.of hb2), .int n, rfl, rfl, ?_⟩
      refine ⟨_, e1, by rw [List.length_map, List.length_replicate]; exact small1000 (by omega), ?_, Same.updN s1 eD⟩
      rw [upd_same, List.replicate_succ', List.map_append, List.length_map, za.1, decide_eq_true rfl]
      rfl
    · rintro H1 ⟨e1, s1⟩
      refine ⟨D, _, rfl, SqL.of e1, ?_⟩
      rw [any_rep]
      refine ⟨false, rfl, iteF ?_⟩
      refine ⟨.ref R, rfl, R, ts, terms, n, m, bb, rfl, hR.same s1, hT.same s1, by omega, hsz, fun p us r H2 s2 p0 e2 hT2 cn z2 hl2 => ?_⟩
      refine ⟨.ref p, rfl, p, _, rfl, .inr (SqT.of e2), _, _, rfl, rfl, _, rfl, ite2 (fun hz => ?_) (fun _ => ?_)⟩
      · have z3 := of_decide_eq_true hz
        rw [List.length_map, hT2.1] at z3
        exact absurd z3 (by omega)
      · have hx2 := s2 _ _ (s1 _ _ hx)
        refine ⟨.int n, rfl, .ref x, rfl, x, C, dx, [], rfl, hx2, S.cls, S.nw, by decide, ?_⟩
        refine ⟨.ref p, rfl, .ref x, rfl, x, C, dx, [("width", .int n)], rfl, upd_same, S.cls, S.np, by show 1 < 1000; decide, ?_⟩
        have npx : p ≠ x := ne_of e2 hx2 (by intro z; cases z)
        refine q r _ ((SameBut.upd (SameBut.upd (s1.trans s2).but))) ⟨dx, p, us, ?_, ?_, ?_⟩ cn z2 hl2
        · rw [upd_same]
          rfl
        · rw [upd_ne npx, upd_ne npx]
          exact e2
        · exact TermsAt.updX (TermsAt.updX hT2 hx2 (fun xs z => by cases z)) upd_same (fun xs z => by cases z)
end
end Bw
set_option Elab.async false
set_option linter.all false
set_option maxRecDepth 100000
set_option maxHeartbeats 4000000
namespace Bw
open PySem PySem.Spec PyProof.Rows L2
section
variable {P : Program} {w : World} {K : PySem.W.Frag} {mg : Str → Option Value} {base : Heap} {C : Addr}
/-! ### the small methods -/
abbrev s_terms : Stmt := inClass (topS 33) 1
theorem sc_terms : FnScope ["self"] ["self"] (defScope s_terms) := ⟨rfl, rfl, rfl, by decide +kernel, rfl, by decide +kernel, by decide +kernel⟩
def spTermsM (C : Addr) : Sp := fun vs H Q _ => ∃ (a : Addr) (n : Nat) (r : List Tm), vs = [.ref a] ∧ SumAt C H a n r ∧ ∀ (L : Addr) (us : List Addr) (H' : Hp), Same H H' → H L = none → H' L = some (.lst (us.map V.ref)) → TermsAt H' us r → Q (.ref L) H'
theorem ok_termsM {f : Addr} {fd : FuncData} (F : Fun K "terms" "Sum.terms" s_terms f fd) (T : Tx mg) (S : SumC K mg C) : FnOk P w K mg base CX0 1 f fd ["self"] (spTermsM C) := by
  refine F.ok sc_terms (fun vs H Q E h => ?_) (fun cdv A outer s H vs Q E hr h => ?_)
  · obtain ⟨a, n, r, rfl, _⟩ := h
    rfl
  · obtain ⟨a, n, r, rfl, ⟨dx, p, us, h1, h2, h3⟩, q⟩ := h
    refine ⟨_, (pss_one (ps_ret (pe_callTy (c_lst (K := K)) (by rfl) T.list (by decide +kernel) (pa_cons (pf (K := K) (pv 0)) pa_nil)))), ?_⟩
    refine ⟨.ref a, rfl, a, C, dx, _, .ref p, rfl, h1, S.cls, S.np, rfl, p, _, rfl, .inr (SqT.of h2), fun L eL => ?_⟩
    have sL := same_upd (o := .lst (us.map V.ref)) eL
    exact q L us _ sL eL upd_same (h3.same sL)
abbrev s_len : Stmt := inClass (topS 33) 13
theorem sc_len : FnScope ["self"] ["self"] (defScope s_len) := ⟨rfl, rfl, rfl, by decide +kernel, rfl, by decide +kernel, by decide +kernel⟩
def spLenM (C : Addr) : Sp := fun vs H Q _ => ∃ (a : Addr) (n : Nat) (r : List Tm), vs = [.ref a] ∧ SumAt C H a n r ∧ Q (.int r.length) H
theorem ok_lenM {f : Addr} {fd : FuncData} (F : Fun K "__len__" "Sum.__len__" s_len f fd) (T : Tx mg) (S : SumC K mg C) : FnOk P w K mg base CX0 1 f fd ["self"] (spLenM C) := by
  refine F.ok sc_len (fun vs H Q E h => ?_) (fun cdv A outer s H vs Q E hr h => ?_)
  · obtain ⟨a, n, r, rfl, _⟩ := h
    rfl
  · obtain ⟨a, n, r, rfl, ⟨dx, p, us, h1, h2, h3⟩, q⟩ := h
    refine ⟨_, (pss_one (ps_ret (pe_callB (c_len (K := K)) (by rfl) T.len PySem.boot_len (pa_cons (pf (K := K) (pv 0)) pa_nil)))), ?_⟩
    refine ⟨.ref a, rfl, a, C, dx, _, .ref p, rfl, h1, S.cls, S.np, rfl, p, _, rfl, .inr (SqT.of h2), ?_⟩
    rw [List.length_map, h3.1]
    exact q
theorem zeros_flat (n : Nat) : (List.replicate n [V.int 0]).flatten = (List.replicate n (0 : Int)).map V.int := by
  induction n with
  | zero => rfl
  | succ n ih =>
    rw [List.replicate_succ, List.replicate_succ, List.flatten_cons, ih, List.map_cons]
    rfl
theorem rep_zeros {K : PySem.W.Frag} {H : Hp} {l : Addr} {n : Nat} {Q : VK} (hl : H l = some (.tup [.int 0])) (n8 : n ≤ 8) (q : ∀ (p : Addr) (H' : Hp), Same H H' → H' p = some (.tup ((List.replicate n (0 : Int)).map V.int)) → Q (.ref p) H') : rRepZ K (.ref l) (.int n) H Q := by
  refine ⟨l, n, _, rfl, rfl, SqT.of hl, by simp, by omega, by omega, by decide, fun e p ep => ?_, fun e => ?_, fun e p ep => ?_⟩
  · have : n = 0 := by omega
    subst this
    exact q p _ (same_upd ep) upd_same
  · have : n = 1 := by omega
    subst this
    exact q l _ (.refl _) hl
  · refine q p _ (same_upd ep) ?_
    rw [upd_same, Int.toNat_natCast, zeros_flat]
end
end Bw
set_option Elab.async false
set_option linter.all false
set_option maxRecDepth 100000
set_option maxHeartbeats 4000000
namespace Bw
open PySem PySem.Spec PyProof.Rows L2
def numT (z : Int) : Str := Str.ofString (toString z)
theorem join_one (x : Str) : Txt.join ("" : Str) [x] = x := by
  rw [show Txt.join ("" : Str) [x] = Str.join ("" : Str) [x] from StrLaws.glued_eq_join _ _]
  rfl
theorem numT_len {z : Int} {k : Nat} (hk : 0 < k) (h : z.natAbs < 2 ^ k) : (numT z).length ≤ k + 1 := by
  unfold numT
  rw [PySem.ofString_length]
  exact int_text_length_le hk (log_lt hk h)
section
variable {P : Program} {w : World} {K : PySem.W.Frag} {mg : Str → Option Value} {base : Heap} {C : Addr}
abbrev s_whole_text : Stmt := topS 16
abbrev n_whole_text : List Str := ["number", "pieces", "low"]
theorem sc_whole_text : FnScope n_whole_text ["number"] (defScope s_whole_text) := ⟨rfl, rfl, rfl, by decide +kernel, rfl, by decide +kernel, by decide +kernel⟩
def spWhole : Sp := fun vs H Q _ => ∃ n : Int, vs = [.int n] ∧ n.natAbs < 2 ^ 200 ∧ ∀ H' : Hp, Same H H' → Q (.str (numT n)) H'
theorem big200 : (2 : Nat) ^ 200 < 10000000000000000000000000000000000000000000000000000000000000000 := by decide
theorem ok_whole {f : Addr} {fd : FuncData} (F : Fun K "whole_text" "whole_text" s_whole_text f fd) (T : Tx mg) : FnOk P w K mg base CX0 1 f fd ["number"] spWhole := by
  refine F.ok sc_whole_text (fun vs H Q E h => ?_) (fun cdv A outer s H vs Q E hr h => ?_)
  · obtain ⟨n, rfl, _⟩ := h
    rfl
  · obtain ⟨n, rfl, hn, q⟩ := h
    refine ⟨_, (pss_cons (ps_set (i := 1) sc_whole_text.nd rfl (.inl rfl) (pe_lst pa_nil))
  (pss_cons (ps_while PassesOwn.never (pt_cmpR op_ge (pv 0) (pe_gint (by rfl) T.CHUNK) (nomark _))
    pss_never)
  (pss_cons (ps_expr (pe_bm PySem.F.plainAttrs_list PySem.F.slot_list_append PySem.F.type_list_append mt_append (pv 1) (pa_cons (pe_callTy call_str_int (by rfl) T.str (by decide +kernel) (pa_cons (pv 0) pa_nil)) pa_nil)))
  (pss_one (ps_ret (pe_joinRev (K := K) rfl pe_str (by rfl) T.reversed (pv 1))))))), ?_⟩
    refine ⟨Nat.zero_le _, fun D eD => ?_⟩
    have sD := same_upd (o := .lst []) eD
    have hlog : n.natAbs.log2 < 200 := log_lt (by decide) hn
    refine ⟨fun _ σ' H' => σ' = [some (.int n), some (.ref D), none] ∧ H' = upd H D (.lst []), ⟨0, rfl, rfl⟩, ?_⟩
    rintro m σ' H' ⟨rfl, rfl⟩
    refine ⟨.int n, rfl, _, _, rfl, rfl, _, rfl, ite2 (fun h => ?_) (fun _ => ?_)⟩
    · exfalso
      have h := of_decide_eq_true h
      have := big200
      omega
    · refine ⟨.ref D, rfl, .inl ⟨rfl, _, SqL.of upd_same⟩, .int n, rfl, n, rfl, Nat.lt_trans hlog (by decide), D, _, _, rfl, rfl, upd_same, by show 0 < sizeLine; decide, ?_⟩
      have tl : (Str.ofString (toString n)).length ≤ 201 := by
        rw [PySem.ofString_length]
        exact int_text_length_le (by decide) hlog
      refine ⟨_, rfl, .ref D, rfl, D, [Str.ofString (toString n)], rfl, SqL.of upd_same, ?_, ?_⟩
      · refine joinok ?_
        show (Str.ofString (toString n)).length + 0 + 1 * 0 ≤ _
        omega
      · have := q _ (Same.updN (o := .lst ([] ++ [V.str (Str.ofString (toString n))])) sD eD)
        rw [← join_one (numT n)] at this
        exact this
end
end Bw
set_option Elab.async false
set_option linter.all false
set_option maxRecDepth 100000
set_option maxHeartbeats 4000000
namespace Bw
open PySem PySem.Spec PyProof.Rows L2
/-- the letters of a product, piece by piece -/
def letP (ch : Nat) (v : Int) : List Str := if v = 1 then [⟨#[ch]⟩] else if v = 0 then [] else [Str.empty ++ ⟨#[ch]⟩ ++ "^" ++ numT v]
def letN (p : List Int) (i : Nat) : List Str := (List.range i).flatMap fun j => letP (97 + j) (p.getD j 0)
theorem letN_succ (p : List Int) (i : Nat) : letN p (i + 1) = letN p i ++ letP (97 + i) (p.getD i 0) := by
  unfold letN
  rw [List.range_succ, List.flatMap_append]
  simp
def letT (p : List Int) : Str := Txt.join "" (letN p p.length)
theorem str_join_snoc : ∀ (ys : List Str) (y : Str), Str.join ("" : Str) (ys ++ [y]) = Str.join ("" : Str) ys ++ y
  | [], y => (Str.empty_append y).symm
  | [a], y => by
    show a ++ Str.empty ++ y = a ++ y
    rw [Str.append_empty]
  | a :: b :: r, y => by
    show a ++ ("" : Str) ++ Str.join ("" : Str) (b :: r ++ [y]) = a ++ ("" : Str) ++ Str.join ("" : Str) (b :: r) ++ y
    rw [str_join_snoc (b :: r) y]
    simp only [Str.append_assoc]
theorem join_snoc (ys : List Str) (y : Str) : Txt.join ("" : Str) (ys ++ [y]) = Txt.join ("" : Str) ys ++ y := by
  have e : ∀ zs : List Str, Txt.join ("" : Str) zs = Str.join ("" : Str) zs := fun zs => StrLaws.glued_eq_join _ _
  rw [e, e, str_join_snoc]
theorem letP_len {ch : Nat} {v : Int} (h : v.natAbs < 2 ^ 14) : (letP ch v).length ≤ 1 ∧ ∀ y ∈ letP ch v, y.length ≤ 20 := by
  have tl := numT_len (z := v) (k := 14) (by decide) h
  have el : ∀ a b : Str, (a ++ b).length = a.length + b.length := fun a b => Str.length_append a b
  have l0 : (Str.empty).length = 0 := rfl
  have l1 : (⟨#[ch]⟩ : Str).length = 1 := rfl
  have l2 : (("^" : Str)).length = 1 := by decide
  unfold letP
  split
  · exact ⟨Nat.le_refl _, fun y hy => by rw [List.mem_singleton.mp hy, l1]; decide⟩
  · split
    · exact ⟨Nat.zero_le _, fun y hy => by cases hy⟩
    · refine ⟨Nat.le_refl _, fun y hy => ?_⟩
      rw [List.mem_singleton.mp hy, el, el, el, l0, l1, l2]
      omega
theorem letN_len {p : List Int} (h : ∀ v ∈ p, v.natAbs < 2 ^ 14) : ∀ i, (letN p i).length ≤ i ∧ ∀ y ∈ letN p i, y.length ≤ 20
  | 0 => ⟨Nat.le_refl _, fun y hy => by cases hy⟩
  | i + 1 => by
    obtain ⟨h1, h2⟩ := letN_len h i
    have hb : (p.getD i 0).natAbs < 2 ^ 14 := by
      rw [List.getD_eq_getElem?_getD]
      cases e : p[i]? with
      | none => decide
      | some v => exact h v (List.mem_of_getElem? e)
    obtain ⟨g1, g2⟩ := letP_len (ch := 97 + i) hb
    rw [letN_succ]
    refine ⟨by rw [List.length_append]; omega, fun y hy => ?_⟩
    rcases List.mem_append.mp hy with hy | hy
    · exact h2 y hy
    · exact g2 y hy
theorem letters_at : ∀ i, i < 26 → (("abcdefghijklmnopqrstuvwxyz" : Str)).cps[i]? = some (97 + i) := by decide +kernel
theorem letT_len {p : List Int} (p8 : p.length ≤ 8) (h : ∀ v ∈ p, v.natAbs < 2 ^ 14) : (letT p).length ≤ 160 := by
  obtain ⟨ln1, ln2⟩ := letN_len h p.length
  have h1 := join_len (letN p p.length)
  have h2 := sum_le ln2
  have h3 : (letN p p.length).length * 20 ≤ 8 * 20 := Nat.mul_le_mul_right _ (by omega)
  unfold letT
  omega
def prodT (p : List Int) (c : Int) : Str := if letT p ≠ "" ∧ c.natAbs = 1 then letT p else numT (c.natAbs : Int) ++ letT p
theorem prodT_len {p : List Int} {c : Int} (p8 : p.length ≤ 8) (h : ∀ v ∈ p, v.natAbs < 2 ^ 14) (hc : c.natAbs < 2 ^ 200) : (prodT p c).length ≤ 500 := by
  have l1 := letT_len p8 h
  have l2 := numT_len (z := (c.natAbs : Int)) (k := 200) (by decide) hc
  unfold prodT
  split
  · omega
  · rw [Str.length_append]
    omega
section
variable {P : Program} {w : World} {K : PySem.W.Frag} {mg : Str → Option Value} {base : Heap} {C : Addr}
abbrev s_letters_text : Stmt := topS 23
abbrev n_letters_text : List Str := ["powers", "pieces", "letter", "power"]
theorem sc_letters_text : FnScope n_letters_text ["powers"] (defScope s_letters_text) := ⟨rfl, rfl, rfl, by decide +kernel, rfl, by decide +kernel, by decide +kernel⟩
def spLetters : Sp := fun vs H Q _ => ∃ (b : Addr) (p : List Int), vs = [.ref b] ∧ H b = some (.tup (p.map V.int)) ∧ p.length ≤ 8 ∧ (∀ v ∈ p, v.natAbs < 2 ^ 14) ∧ ∀ H' : Hp, Same H H' → Q (.str (letT p)) H'
theorem str_snoc {ys : List Str} {y : Str} {m : Nat} (h : ∀ z ∈ ys, z.length ≤ m) (k : y.length ≤ m) : ∀ z ∈ ys ++ [y], z.length ≤ m := fun v hv => by
  rcases List.mem_append.mp hv with z | z
  · exact h v z
  · rw [List.mem_singleton.mp z]
    exact k
theorem ok_letters {f : Addr} {fd : FuncData} (F : Fun K "letters_text" "letters_text" s_letters_text f fd) (T : Tx mg) : FnOk P w K mg base CX0 1 f fd ["powers"] spLetters := by
  refine F.ok sc_letters_text (fun vs H Q E h => ?_) (fun cdv A outer s H vs Q E hr h => ?_)
  · obtain ⟨b, p, rfl, _⟩ := h
    rfl
  · obtain ⟨b, p, rfl, hb, p8, hp, q⟩ := h
    refine ⟨_, (pss_cons (ps_set (i := 1) sc_letters_text.nd rfl (.inl rfl) (pe_lst pa_nil))
  (pss_cons (ps_for PassesOwn.never rfl (p_zipS (K := K) (by rfl) T.zip (pa_cons (pe_gstr (by rfl) T.LETTERS) (pa_cons (pv 0) pa_nil))) (g_tup (K := K) (n := 2) rfl (pgs_cons (pg_name (i := 2) sc_letters_text.nd rfl (.inl rfl)) (pgs_cons (pg_name (i := 3) sc_letters_text.nd rfl (.inl rfl)) pgs_nil)))
    (pss_one (ps_if (pt_cmpR op_eq (pv 3) pe_int (nomark _))
      (pss_one (ps_expr (pe_bm PySem.F.plainAttrs_list PySem.F.slot_list_append PySem.F.type_list_append mt_append (pv 1) (pa_cons (pv 2) pa_nil))))
      (pss_one (ps_if (pt_cmpR op_ne (pv 3) pe_int (nomark _))
        (pss_one (ps_expr (pe_bm PySem.F.plainAttrs_list PySem.F.slot_list_append PySem.F.type_list_append mt_append (pv 1) (pa_cons (pe_joined (.cons (pe_fmt (pv 2)) (.cons pe_str (.cons (pe_fmt (pv 3)) .nil)))) pa_nil))))
        pss_nil)))))
  (pss_one (ps_ret (p_join (K := K) pe_str (pv 1)))))), ?_⟩
    refine ⟨Nat.zero_le _, fun D eD => ?_⟩
    have sD := same_upd (o := .lst []) eD
    have nDb : b ≠ D := ne_of_none hb eD
    refine ⟨.ref b, rfl, _, b, _, rfl, by decide +kernel, SqT.of (sD _ _ hb), ?_⟩
    refine for_it (walk_zipS (K := K) (b := b) (ys := p.map V.int) (by rw [List.length_map]; exact Nat.lt_of_le_of_lt p8 (by decide))) (fun i σ H' => ∃ (y2 y3 : Option V), σ = [some (.ref b), some (.ref D), y2, y3] ∧ H' D = some (.lst ((letN p i).map V.str)) ∧ Same H H')
      ⟨none, none, rfl, upd_same, sD⟩ (fun i σ H' _ ⟨_, _, _, _, s⟩ => SqT.of (s _ _ hb)) ?_ ?_
    · rintro i x σ H1 H1' hi ⟨y2, y3, rfl, e1, s1⟩ ⟨t, ch, y, rfl, et, rfl, hch, hy⟩
      obtain ⟨v, hv, rfl⟩ := int_at hy
      rw [List.length_map] at hi
      have ec : ch = 97 + i := Option.some.inj (hch.symm.trans (letters_at i (by omega)))
      subst ec
      have gv : p.getD i 0 = v := by
        rw [List.getD_eq_getElem?_getD, hv]
        rfl
      obtain ⟨ln1, ln2⟩ := letN_len hp i
      have st := same_upd (o := .tup [.str ⟨#[97 + i]⟩, .int v]) et
      have e2 := st _ _ e1
      have s2 := s1.trans st
      have lch : (⟨#[97 + i]⟩ : Str).length = 1 := rfl
      have lys : ((letN p i).map V.str).length < sizeLine := by rw [List.length_map]; exact small1000 (by omega)
      have sn := letN_succ p i
      rw [gv] at sn
      refine ⟨t, _, rfl, SqT.of upd_same, rfl, _, _, rfl, _, _, rfl, rfl, .int v, rfl, rfl, _, rfl, ite2 (fun z1 => ?_) (fun z1 => ⟨.int v, rfl, rfl, _, rfl, ite2 (fun z2 => ?_) (fun z2 => ?_)⟩)⟩
      · have v1 : v = 1 := V.int.inj (of_decide_eq_true z1)
        refine ⟨.ref D, rfl, .inl ⟨rfl, _, SqL.of e2⟩, _, rfl, D, _, _, rfl, rfl, e2, lys, _, _, rfl, ?_, Same.updN s2 eD⟩
        rw [upd_same, sn, List.map_append]
        unfold letP
        rw [if_pos v1]
        rfl
      · have v1 : v ≠ 1 := fun h => z1 (decide_eq_true (congrArg V.int h))
        have v0 : v ≠ 0 := fun h => by
          rw [h] at z2
          simp at z2
        have bv := hp v (List.mem_of_getElem? hv)
        have hlog : v.natAbs.log2 < 14 := log_lt (by decide) bv
        have tl : (Str.ofString (toString v)).length ≤ 15 := numT_len (by decide) bv
        have el : ∀ a b : Str, (a ++ b).length = a.length + b.length := fun a b => Str.length_append a b
        have l0 : (Str.empty).length = 0 := rfl
        have l2 : (("^" : Str)).length = 1 := by decide
        refine ⟨.ref D, rfl, .inl ⟨rfl, _, SqL.of e2⟩, .str ⟨#[97 + i]⟩, rfl, .inl ⟨_, rfl, by rw [lch]; decide, _, rfl, ?_, _, rfl, ?_, .int v, rfl, .inr ⟨v, rfl, Nat.lt_trans hlog (by decide), _, rfl, ?_, D, _, _, rfl, rfl, e2, lys, _, _, rfl, ?_, Same.updN s2 eD⟩⟩⟩
        · rw [el, l0, lch]; decide
        · rw [el, el, l0, lch, l2]; decide
        · rw [el, el, el, l0, lch, l2, sizeLine_eq]; omega
        · rw [upd_same, sn, List.map_append]
          unfold letP
          rw [if_neg v1, if_neg v0]
          rfl
      · have v0 : v = 0 := Classical.byContradiction fun h => z2 (by simp [h])
        refine ⟨_, _, rfl, ?_, s2⟩
        rw [e2, sn]
        unfold letP
        rw [if_neg (by omega), if_pos v0, List.append_nil]
    · rintro σ H1 ⟨y2, y3, rfl, e1, s1⟩
      rw [List.length_map] at e1
      obtain ⟨ln1, ln2⟩ := letN_len hp p.length
      have hs := sum_le ln2
      have hm : (letN p p.length).length * 20 ≤ 8 * 20 := Nat.mul_le_mul_right _ (by omega)
      refine ⟨⟨_, rfl⟩, .ref D, rfl, _, D, _, rfl, rfl, .inl (SqL.of e1), ?_, q _ s1⟩
      show _ + (letN p p.length).length * 0 ≤ _
      omega
abbrev s_product_text : Stmt := topS 24
abbrev n_product_text : List Str := ["powers", "count", "letters"]
theorem sc_product_text : FnScope n_product_text ["powers", "count"] (defScope s_product_text) := ⟨rfl, rfl, rfl, by decide +kernel, rfl, by decide +kernel, by decide +kernel⟩
def spProduct : Sp := fun vs H Q _ => ∃ (b : Addr) (p : List Int) (c : Int), vs = [.ref b, .int c] ∧ H b = some (.tup (p.map V.int)) ∧ p.length ≤ 8 ∧ (∀ v ∈ p, v.natAbs < 2 ^ 14) ∧ c.natAbs < 2 ^ 200 ∧ ∀ H' : Hp, Same H H' → Q (.str (prodT p c)) H'
theorem ok_product {f : Addr} {fd : FuncData} (F : Fun K "product_text" "product_text" s_product_text f fd) (T : Tx mg) (c_letters_text : Cal P w K mg base CX0 1 "letters_text" ["powers"] spLetters) (c_whole_text : Cal P w K mg base CX0 1 "whole_text" ["number"] spWhole) : FnOk P w K mg base CX0 2 f fd ["powers", "count"] spProduct := by
  refine F.ok sc_product_text (fun vs H Q E h => ?_) (fun cdv A outer s H vs Q E hr h => ?_)
  · obtain ⟨b, p, c, rfl, _⟩ := h
    rfl
  · obtain ⟨b, p, c, rfl, hb, p8, hp, hc, q⟩ := h
    refine ⟨_, (pss_cons (ps_set (i := 2) sc_product_text.nd rfl (.inl rfl) (pe_cal c_letters_text hr (by rfl) (pa_cons (pv 0) pa_nil)))
  (pss_cons (ps_if (PW.pt (pw_and (pt_cmpR op_ne (pv 2) pe_str (nomark _)) (pw_and1 (pt_cmpR op_eq (pe_callB call_abs (by rfl) T.abs (by decide +kernel) (pa_cons (pv 1) pa_nil)) pe_int (nomark _)))))
    (pss_one (ps_ret (pv 2)))
    pss_nil)
  (pss_one (ps_ret (pe_op op_add_str (pe_cal c_whole_text hr (by rfl) (pa_cons (pe_callB call_abs (by rfl) T.abs (by decide +kernel) (pa_cons (pv 1) pa_nil)) pa_nil)) (pv 2)))))), ?_⟩
    refine ⟨.ref b, rfl, b, p, rfl, hb, p8, hp, fun H1 s1 => ?_⟩
    have hab : (if c < 0 then -c else c) = (c.natAbs : Int) := by split <;> omega
    have lx := letT_len p8 hp
    have fin : ¬ (letT p ≠ "" ∧ c.natAbs = 1) → ∀ (H2 : Hp), Same H1 H2 → (numT (c.natAbs : Int)).length + (letT p).length ≤ sizeLine ∧ Q (.str (numT (c.natAbs : Int) ++ letT p)) H2 := fun h H2 s2 => by
      have ln := numT_len (z := (c.natAbs : Int)) (k := 200) (by decide) hc
      refine ⟨by rw [sizeLine_eq]; omega, ?_⟩
      have := q H2 (s1.trans s2)
      unfold prodT at this
      rw [if_neg h] at this
      exact this
    refine ⟨.str (letT p), rfl, rfl, _, rfl, ite2 (fun z1 => ⟨.int c, rfl, c, rfl, rfl, _, rfl, ite2 (fun z2 => ?_) (fun z2 => ?_)⟩) (fun z1 => ite2 (fun z => absurd z (by decide)) (fun _ => ?_))⟩
    · have n1 : letT p ≠ "" := fun h => by rw [h] at z1; simp at z1
      have n2 : c.natAbs = 1 := by
        have := V.int.inj (of_decide_eq_true z2)
        rw [hab] at this
        omega
      have := q H1 s1
      unfold prodT at this
      rw [if_pos ⟨n1, n2⟩] at this
      exact ⟨_, rfl, this⟩
    · refine ⟨.int c, rfl, c, rfl, ?_⟩
      rw [hab]
      refine ⟨_, rfl, hc, fun H2 s2 => ⟨_, rfl, _, _, rfl, rfl, fin (fun h => z2 (decide_eq_true (congrArg V.int (by rw [hab, h.2]; rfl)))) H2 s2⟩⟩
    · refine ⟨.int c, rfl, c, rfl, ?_⟩
      rw [hab]
      refine ⟨_, rfl, hc, fun H2 s2 => ⟨_, rfl, _, _, rfl, rfl, fin (fun h => z1 (by simp [h.1])) H2 s2⟩⟩
end
end Bw
set_option Elab.async false
set_option linter.all false
set_option maxRecDepth 100000
set_option maxHeartbeats 4000000
namespace Bw
open PySem PySem.Spec PyProof.Rows L2
section
variable {P : Program} {w : World} {K : PySem.W.Frag} {mg : Str → Option Value} {base : Heap} {C : Addr}
/-- what may be written -/
def Wr (r : List Tm) : Prop := ∀ a ∈ r, a.1.length ≤ 8 ∧ (∀ v ∈ a.1, v.natAbs < 2 ^ 14) ∧ a.2.natAbs < 2 ^ 200
def sgnP (i : Nat) (c : Int) : List Str := if i = 0 then (if c < 0 then ["-"] else []) else (if c < 0 then [" - "] else [" + "])
def atT (r : List Tm) (i : Nat) : Tm := r.getD i ([], 0)
/-- the pieces of a sum's text -/
def pcsN (r : List Tm) (i : Nat) : List Str := (List.range i).flatMap fun j => sgnP j (atT r j).2 ++ [prodT (atT r j).1 (atT r j).2]
theorem pcsN_succ (r : List Tm) (i : Nat) : pcsN r (i + 1) = pcsN r i ++ (sgnP i (atT r i).2 ++ [prodT (atT r i).1 (atT r i).2]) := by
  unfold pcsN
  rw [List.range_succ, List.flatMap_append]
  simp
theorem sgnP_len (i : Nat) (c : Int) : (sgnP i c).length ≤ 1 ∧ ∀ y ∈ sgnP i c, y.length ≤ 500 := by
  unfold sgnP
  split <;> split
  · exact ⟨by decide, fun y hy => by rw [List.mem_singleton.mp hy]; decide⟩
  · exact ⟨by decide, fun y hy => by cases hy⟩
  · exact ⟨by decide, fun y hy => by rw [List.mem_singleton.mp hy]; decide⟩
  · exact ⟨by decide, fun y hy => by rw [List.mem_singleton.mp hy]; decide⟩
theorem atT_of {r : List Tm} {i : Nat} {a : Tm} (h : r[i]? = some a) : atT r i = a := by
  unfold atT
  rw [List.getD_eq_getElem?_getD, h]
  rfl
theorem pcsN_len {r : List Tm} (h : Wr r) : ∀ i, i ≤ r.length → (pcsN r i).length ≤ 2 * i ∧ (0 < i → 0 < (pcsN r i).length) ∧ ∀ y ∈ pcsN r i, y.length ≤ 500
  | 0, _ => ⟨Nat.le_refl _, fun h => absurd h (by decide), fun y hy => by cases hy⟩
  | i + 1, hi => by
    obtain ⟨h1, _, h3⟩ := pcsN_len h i (by omega)
    have ea := List.getElem?_eq_getElem (show i < r.length by omega)
    obtain ⟨w1, w2, w3⟩ := h _ (List.mem_of_getElem? ea)
    obtain ⟨g1, g2⟩ := sgnP_len i (atT r i).2
    have lp := prodT_len w1 w2 w3
    rw [pcsN_succ]
    refine ⟨by rw [List.length_append, List.length_append, List.length_singleton]; omega, fun _ => by rw [List.length_append, List.length_append, List.length_singleton]; omega, fun y hy => ?_⟩
    rcases List.mem_append.mp hy with hy | hy
    · exact h3 y hy
    · rcases List.mem_append.mp hy with hy | hy
      · exact g2 y hy
      · rw [List.mem_singleton.mp hy, atT_of ea]
        exact lp
def pcsT (r : List Tm) : List Str := if r = [] then ["0"] else pcsN r r.length
def sumT (r : List Tm) : Str := Txt.join "" (pcsT r)
abbrev s_sum_pieces : Stmt := topS 25
abbrev n_sum_pieces : List Str := ["products", "pieces", "powers", "count"]
theorem sc_sum_pieces : FnScope n_sum_pieces ["products"] (defScope s_sum_pieces) := ⟨rfl, rfl, rfl, by decide +kernel, rfl, by decide +kernel, by decide +kernel⟩
def spPieces : Sp := fun vs H Q _ => ∃ (p : Addr) (us : List Addr) (r : List Tm), vs = [.ref p] ∧ H p = some (.tup (us.map V.ref)) ∧ TermsAt H us r ∧ Wr r ∧ r.length ≤ 400 ∧
  ∀ (L : Addr) (H' : Hp), Same H H' → H' L = some (.lst ((pcsT r).map V.str)) → Q (.ref L) H'
theorem ok_pieces {f : Addr} {fd : FuncData} (F : Fun K "sum_pieces" "sum_pieces" s_sum_pieces f fd) (T : Tx mg) (c_product_text : Cal P w K mg base CX0 2 "product_text" ["powers", "count"] spProduct) : FnOk P w K mg base CX0 3 f fd ["products"] spPieces := by
  refine F.ok sc_sum_pieces (fun vs H Q E h => ?_) (fun cdv A outer s H vs Q E hr h => ?_)
  · obtain ⟨p, us, r, rfl, _⟩ := h
    rfl
  · obtain ⟨p, us, r, rfl, hp, hT, hw, hl, q⟩ := h
    have lus := hT.1
    refine ⟨_, (pss_cons (ps_if (pt_cmpR op_eq (pe_callB (c_len (K := K)) (by rfl) T.len PySem.boot_len (pa_cons (pv 0) pa_nil)) pe_int (nomark _))
    (pss_one (ps_ret (pe_lst (pa_cons pe_str pa_nil))))
    pss_nil)
  (pss_cons (ps_set (i := 1) sc_sum_pieces.nd rfl (.inl rfl) (pe_lst pa_nil))
  (pss_cons (ps_for PassesOwn.never rfl (p_tup (K := K) (pv 0)) (g_tup (K := K) (n := 2) rfl (pgs_cons (pg_name (i := 2) sc_sum_pieces.nd rfl (.inl rfl)) (pgs_cons (pg_name (i := 3) sc_sum_pieces.nd rfl (.inl rfl)) pgs_nil)))
    (pss_cons (ps_if (pt_cmpR op_gt (pe_callB (c_len (K := K)) (by rfl) T.len PySem.boot_len (pa_cons (pv 1) pa_nil)) pe_int (nomark _))
      (pss_one (ps_expr (pe_bm PySem.F.plainAttrs_list PySem.F.slot_list_append PySem.F.type_list_append mt_append (pv 1) (pa_cons (pe_ifExp (pt_cmpR op_lt (pv 3) pe_int (nomark _)) pe_str pe_str) pa_nil))))
      (pss_one (ps_if (pt_cmpR op_lt (pv 3) pe_int (nomark _))
        (pss_one (ps_expr (pe_bm PySem.F.plainAttrs_list PySem.F.slot_list_append PySem.F.type_list_append mt_append (pv 1) (pa_cons pe_str pa_nil))))
        pss_nil)))
    (pss_one (ps_expr (pe_bm PySem.F.plainAttrs_list PySem.F.slot_list_append PySem.F.type_list_append mt_append (pv 1) (pa_cons (pe_cal c_product_text hr (by rfl) (pa_cons (pv 2) (pa_cons (pv 3) pa_nil))) pa_nil))))))
  (pss_one (ps_ret (pv 1)))))), ?_⟩
    refine ⟨.ref p, rfl, p, _, rfl, .inr (SqT.of hp), rfl, _, rfl, ite2 (fun z => ?_) (fun z => ?_)⟩
    · have z : ((us.map V.ref).length : Int) = 0 := V.int.inj (of_decide_eq_true z)
      rw [List.length_map, lus] at z
      have r0 : r = [] := List.eq_nil_of_length_eq_zero (by omega)
      refine ⟨by show 1 ≤ sizeLine; decide, fun L eL => q L _ (same_upd eL) ?_⟩
      rw [upd_same]
      unfold pcsT
      rw [if_pos r0]
      rfl
    · have r0 : r ≠ [] := fun k => z (decide_eq_true (congrArg V.int (by rw [List.length_map, lus, k]; rfl)))
      refine ⟨Nat.zero_le _, fun D eD => ?_⟩
      have sD := same_upd (o := .lst []) eD
      refine ⟨.ref p, rfl, p, rfl, ⟨_, SqT.of (sD _ _ hp)⟩, ?_⟩
      refine for_tup (K := K) (a := p) (xs := us.map V.ref) (fun i σ H' => ∃ (y2 y3 : Option V), σ = [some (.ref p), some (.ref D), y2, y3] ∧ H' D = some (.lst ((pcsN r i).map V.str)) ∧ Same H H')
        ⟨none, none, rfl, upd_same, sD⟩ (fun i σ H' _ ⟨_, _, _, _, s⟩ => SqT.of (s _ _ hp)) ?_ ?_
      · rintro i v σ H1 hv ⟨y2, y3, rfl, e1, s1⟩
        obtain ⟨t, et, rfl⟩ := ref_at hv
        obtain ⟨a, ea, b, hb1, hb2⟩ := (hT.same s1).at et
        have hi := (List.getElem?_eq_some_iff.mp ea).1
        obtain ⟨w1, w2, w3⟩ := hw a (List.mem_of_getElem? ea)
        obtain ⟨n1, n2, n3⟩ := pcsN_len hw i (by omega)
        have sn := pcsN_succ r i
        rw [atT_of ea] at sn
        have nb : b ≠ D := fun z => by
          rw [z, e1] at hb2
          cases hb2
        -- the product behind what stands ahead of it
        have fin : ∀ (g : List Str) (H2 : Hp), H2 D = some (.lst ((pcsN r i ++ g).map V.str)) → g = sgnP i a.2 → Same H H2 → ∀ H3 : Hp, Same H2 H3 → H3 D = some (.lst ((pcsN r i ++ g).map V.str)) ∧ ((pcsN r i ++ g).map V.str).length < sizeLine ∧ (upd H3 D (.lst ((pcsN r i ++ g).map V.str ++ [.str (prodT a.1 a.2)]))) D = some (.lst ((pcsN r (i + 1)).map V.str)) ∧ Same H (upd H3 D (.lst ((pcsN r i ++ g).map V.str ++ [.str (prodT a.1 a.2)]))) := by
          intro g H2 e2 eg s2 H3 s3
          have lg := (sgnP_len i a.2).1
          refine ⟨s3 _ _ e2, by rw [List.length_map, List.length_append, eg]; exact small1000 (by omega), ?_, Same.updN (s2.trans s3) eD⟩
          rw [upd_same, sn, eg, List.map_append, List.map_append, List.map_append, List.append_assoc]
          rfl
        have lys : ((pcsN r i).map V.str).length < sizeLine := by rw [List.length_map]; exact small1000 (by omega)
        have one : ∀ x : Str, (upd H1 D (.lst ((pcsN r i).map V.str ++ [.str x]))) D = some (.lst ((pcsN r i ++ [x]).map V.str)) ∧ Same H (upd H1 D (.lst ((pcsN r i).map V.str ++ [.str x]))) ∧ (upd H1 D (.lst ((pcsN r i).map V.str ++ [.str x]))) b = some (.tup (a.1.map V.int)) := by
          intro x
          refine ⟨?_, Same.updN s1 eD, by rw [upd_ne nb]; exact hb2⟩
          rw [upd_same, List.map_append]
          rfl
        refine ⟨t, _, rfl, SqT.of hb1, rfl, _, _, rfl, _, _, rfl, rfl, .ref D, rfl, D, _, rfl, .inl (SqL.of e1), _, _, rfl, rfl, _, rfl, ite2 (fun zl => ?_) (fun zl => ⟨.int a.2, rfl, _, _, rfl, rfl, _, rfl, ite2 (fun zc => ?_) (fun zc => ?_)⟩)⟩
        · have i0 : i ≠ 0 := fun h => by
            rw [h] at zl
            have := of_decide_eq_true zl
            rw [List.length_map, show pcsN r 0 = [] from rfl] at this
            exact absurd this (by decide)
          refine ⟨.ref D, rfl, .inl ⟨rfl, _, SqL.of e1⟩, .int a.2, rfl, _, _, rfl, rfl, _, rfl, ite2 (fun zc => ?_) (fun zc => ?_)⟩
          · obtain ⟨o1, o4, o5⟩ := one " - "
            refine ⟨D, _, _, rfl, rfl, e1, lys, .ref D, rfl, .inl ⟨rfl, _, SqL.of o1⟩, .ref b, rfl, .int a.2, rfl, b, a.1, a.2, rfl, o5, w1, w2, w3, fun H3 s3 => ?_⟩
            obtain ⟨f1, f2, f3, f6⟩ := fin [" - "] _ o1 (by unfold sgnP; rw [if_neg i0, if_pos (of_decide_eq_true zc)]) o4 H3 s3
            exact ⟨D, _, _, rfl, rfl, f1, f2, _, _, rfl, f3, f6⟩
          · obtain ⟨o1, o4, o5⟩ := one " + "
            refine ⟨D, _, _, rfl, rfl, e1, lys, .ref D, rfl, .inl ⟨rfl, _, SqL.of o1⟩, .ref b, rfl, .int a.2, rfl, b, a.1, a.2, rfl, o5, w1, w2, w3, fun H3 s3 => ?_⟩
            obtain ⟨f1, f2, f3, f6⟩ := fin [" + "] _ o1 (by unfold sgnP; rw [if_neg i0, if_neg (fun h => zc (decide_eq_true h))]) o4 H3 s3
            exact ⟨D, _, _, rfl, rfl, f1, f2, _, _, rfl, f3, f6⟩
        · have i0 : i = 0 := Classical.byContradiction fun h => zl (decide_eq_true (by rw [List.length_map]; have := n2 (by omega); omega))
          obtain ⟨o1, o4, o5⟩ := one "-"
          refine ⟨.ref D, rfl, .inl ⟨rfl, _, SqL.of e1⟩, D, _, _, rfl, rfl, e1, lys, .ref D, rfl, .inl ⟨rfl, _, SqL.of o1⟩, .ref b, rfl, .int a.2, rfl, b, a.1, a.2, rfl, o5, w1, w2, w3, fun H3 s3 => ?_⟩
          obtain ⟨f1, f2, f3, f6⟩ := fin ["-"] _ o1 (by unfold sgnP; rw [if_pos i0, if_pos (of_decide_eq_true zc)]) o4 H3 s3
          exact ⟨D, _, _, rfl, rfl, f1, f2, _, _, rfl, f3, f6⟩
        · have i0 : i = 0 := Classical.byContradiction fun h => zl (decide_eq_true (by rw [List.length_map]; have := n2 (by omega); omega))
          refine ⟨.ref D, rfl, .inl ⟨rfl, _, SqL.of e1⟩, .ref b, rfl, .int a.2, rfl, b, a.1, a.2, rfl, hb2, w1, w2, w3, fun H3 s3 => ?_⟩
          obtain ⟨f1, f2, f3, f6⟩ := fin [] H1 (by rw [List.append_nil]; exact e1) (by unfold sgnP; rw [if_pos i0, if_neg (fun h => zc (decide_eq_true h))]) s1 H3 s3
          rw [List.append_nil] at f1 f2 f3 f6
          exact ⟨D, _, _, rfl, rfl, f1, f2, _, _, rfl, f3, f6⟩
      · rintro σ H1 ⟨y2, y3, rfl, e1, s1⟩
        rw [List.length_map, lus] at e1
        refine ⟨.ref D, rfl, q D H1 s1 ?_⟩
        unfold pcsT
        rw [if_neg r0]
        exact e1
abbrev s_str : Stmt := inClass (topS 33) 15
abbrev n_str : List Str := ["self"]
theorem sc_str : FnScope n_str ["self"] (defScope s_str) := ⟨rfl, rfl, rfl, by decide +kernel, rfl, by decide +kernel, by decide +kernel⟩
def spStrM (C : Addr) : Sp := fun vs H Q _ => ∃ (a : Addr) (n : Nat) (r : List Tm), vs = [.ref a] ∧ SumAt C H a n r ∧ Wr r ∧ r.length ≤ 400 ∧ ∀ H' : Hp, Same H H' → Q (.str (sumT r)) H'
theorem ok_strM {f : Addr} {fd : FuncData} (F : Fun K "__str__" "Sum.__str__" s_str f fd) (T : Tx mg) (S : SumC K mg C) (c_sum_pieces : Cal P w K mg base CX0 3 "sum_pieces" ["products"] spPieces) : FnOk P w K mg base CX0 4 f fd ["self"] (spStrM C) := by
  refine F.ok sc_str (fun vs H Q E h => ?_) (fun cdv A outer s H vs Q E hr h => ?_)
  · obtain ⟨a, n, r, rfl, _⟩ := h
    rfl
  · obtain ⟨a, n, r, rfl, ⟨dx, p, us, h1, h2, h3⟩, hw, hl, q⟩ := h
    refine ⟨_, (pss_one (ps_ret (p_join (K := K) pe_str (pe_cal c_sum_pieces hr (by rfl) (pa_cons (pf (K := K) (pv 0)) pa_nil))))), ?_⟩
    refine ⟨⟨_, rfl⟩, .ref a, rfl, a, C, dx, _, .ref p, rfl, h1, S.cls, S.np, rfl, p, us, r, rfl, h2, h3, hw, hl, fun L H1 s1 eL => ?_⟩
    have hlen : (pcsT r).length ≤ 801 ∧ ∀ y ∈ pcsT r, y.length ≤ 500 := by
      unfold pcsT
      split
      · exact ⟨by decide, fun y hy => by rw [List.mem_singleton.mp hy]; decide⟩
      · obtain ⟨n1, _, n3⟩ := pcsN_len hw r.length (Nat.le_refl _)
        exact ⟨by omega, n3⟩
    have hs := sum_le hlen.2
    have hm : (pcsT r).length * 500 ≤ 801 * 500 := Nat.mul_le_mul_right _ hlen.1
    refine ⟨_, L, _, rfl, rfl, .inl (SqL.of eL), ?_, q _ s1⟩
    show _ + (pcsT r).length * 0 ≤ _
    omega
abbrev s_repr : Stmt := inClass (topS 33) 16
abbrev n_repr : List Str := ["self"]
theorem sc_repr : FnScope n_repr ["self"] (defScope s_repr) := ⟨rfl, rfl, rfl, by decide +kernel, rfl, by decide +kernel, by decide +kernel⟩
def reprT (n m : Nat) : Str := Str.empty ++ "Sum(" ++ Str.ofString (toString (n : Int)) ++ " letters, " ++ Str.ofString (toString (m : Int)) ++ " products)"
def spReprM (C : Addr) : Sp := fun vs H Q _ => ∃ (a : Addr) (n : Nat) (r : List Tm), vs = [.ref a] ∧ SumAt C H a n r ∧ n ≤ 1000 ∧ r.length ≤ 1000 ∧ Q (.str (reprT n r.length)) H
theorem tx1000 {n : Nat} (h : n ≤ 1000) : ((n : Int)).natAbs.log2 < 10 ∧ (Str.ofString (toString (n : Int))).length ≤ 11 := by
  have hlog : ((n : Int)).natAbs.log2 < 10 := log_lt (by decide) (by rw [Int.natAbs_natCast]; exact Nat.lt_of_le_of_lt h (by decide))
  refine ⟨hlog, ?_⟩
  rw [PySem.ofString_length]
  exact int_text_length_le (by decide) hlog
theorem ok_reprM {f : Addr} {fd : FuncData} (F : Fun K "__repr__" "Sum.__repr__" s_repr f fd) (T : Tx mg) (S : SumC K mg C) : FnOk P w K mg base CX0 1 f fd ["self"] (spReprM C) := by
  refine F.ok sc_repr (fun vs H Q E h => ?_) (fun cdv A outer s H vs Q E hr h => ?_)
  · obtain ⟨a, n, r, rfl, _⟩ := h
    rfl
  · obtain ⟨a, n, r, rfl, ⟨dx, p, us, h1, h2, h3⟩, hn, hl, q⟩ := h
    refine ⟨_, (pss_one (ps_ret (pe_joined (.cons pe_str (.cons (pe_fmt (pf (K := K) (pv 0))) (.cons pe_str (.cons (pe_fmt (pe_callB (c_len (K := K)) (by rfl) T.len PySem.boot_len (pa_cons (pf (K := K) (pv 0)) pa_nil))) (.cons pe_str .nil)))))))), ?_⟩
    obtain ⟨g1, t1⟩ := tx1000 hn
    obtain ⟨g2, t2⟩ := tx1000 hl
    have lus : ((us.map V.ref).length : Int) = (r.length : Int) := by rw [List.length_map, h3.1]
    have el : ∀ a b : Str, (a ++ b).length = a.length + b.length := fun a b => Str.length_append a b
    have l0 : (Str.empty).length = 0 := rfl
    have l2 : (("Sum(" : Str)).length = 4 := by decide
    have l3 : ((" letters, " : Str)).length = 10 := by decide
    have l4 : ((" products)" : Str)).length = 10 := by decide
    refine ⟨_, rfl, ?_, .ref a, rfl, a, C, dx, _, .int n, rfl, h1, S.cls, S.nw, rfl, .inr ⟨n, rfl, Nat.lt_trans g1 (by decide), _, rfl, ?_, _, rfl, ?_, .ref a, rfl, a, C, dx, _, .ref p, rfl, h1, S.cls, S.np, rfl, p, _, rfl, .inr (SqT.of h2), ?_⟩⟩
    · rw [el, l0, l2]; decide
    · rw [el, el, l0, l2, sizeLine_eq]; omega
    · rw [el, el, el, l0, l2, l3, sizeLine_eq]; omega
    · rw [lus]
      refine .inr ⟨_, rfl, Nat.lt_trans g2 (by decide), _, rfl, ?_, _, rfl, ?_, q⟩
      · rw [el, el, el, el, l0, l2, l3, sizeLine_eq]; omega
      · rw [el, el, el, el, el, l0, l2, l3, l4, sizeLine_eq]; omega
end
end Bw
set_option Elab.async false
set_option linter.all false
set_option maxRecDepth 100000
set_option maxHeartbeats 4000000
namespace Bw
open PySem PySem.Spec PyProof.Rows L2
theorem Falls.nd {r : List Tm} (h : Falls r) : NdB r := by
  unfold NdB List.Nodup
  rw [List.pairwise_map]
  exact h.imp fun {a b} z => Ne.symm (lex_ne z)
theorem Lf_ind_nd {r : List Tm} (nd : NdB r) {p : List Int} {c : Int} (h : (p, c) ∈ r) : Lf r (ind p) = c := by
  induction r with
  | nil => cases h
  | cons a r ih =>
    have nd' := List.nodup_cons.mp nd
    rw [Lf_cons]
    rcases List.mem_cons.mp h with e | h
    · subst e
      rw [Lf_ind_none fun b hb e => nd'.1 (List.mem_map.mpr ⟨b, hb, e⟩)]
      show c * ind p p + 0 = c
      unfold ind
      rw [if_pos rfl]
      omega
    · have ne : a.1 ≠ p := fun e => nd'.1 (List.mem_map.mpr ⟨(p, c), h, e.symm⟩)
      rw [ih nd'.2 h]
      unfold ind
      rw [if_neg ne]
      omega
theorem nd_mem {r : List Tm} (nd : NdB r) (nz : ∀ a ∈ r, a.2 ≠ 0) (p : List Int) (c : Int) : (p, c) ∈ r ↔ c ≠ 0 ∧ Lf r (ind p) = c := by
  constructor
  · intro m
    exact ⟨nz _ m, Lf_ind_nd nd m⟩
  · rintro ⟨hc, e⟩
    by_cases m : ∃ a ∈ r, a.1 = p
    · obtain ⟨a, ha, rfl⟩ := m
      rw [Lf_ind_nd nd (p := a.1) (c := a.2) ha] at e
      rw [← e]
      exact ha
    · rw [Lf_ind_none fun a ha e' => m ⟨a, ha, e'⟩] at e
      exact absurd e.symm hc
theorem nd_nodup {r : List Tm} (nd : NdB r) : r.Nodup := by
  unfold NdB List.Nodup at nd
  rw [List.pairwise_map] at nd
  exact nd.imp fun {a b} z (e : a = b) => z (congrArg Prod.fst e)
theorem Cn.perm {n M : Nat} {ℓ : (List Int → Int) → Int} {r bk : List Tm} (cn : Cn ℓ r) (B : BookOf n M ℓ bk) : r.Perm bk := by
  refine (List.perm_ext_iff_of_nodup (nd_nodup cn.fall.nd) (nd_nodup B.nd)).mpr fun a => ?_
  obtain ⟨p, c⟩ := a
  rw [nd_mem cn.fall.nd cn.nz, nd_mem B.nd B.nz, cn.lf, B.lf]
end Bw
set_option Elab.async false
set_option linter.all false
set_option maxRecDepth 100000
set_option maxHeartbeats 8000000
namespace Bw
open PySem PySem.Spec PyProof.Rows L2
theorem str_empty : (("" : Str)) = Str.empty := rfl
theorem len_zero {x : Str} (h : x.length = 0) : x = "" := by
  cases x with
  | mk c =>
    have : c = #[] := Array.eq_empty_of_size_eq_zero h
    rw [this]
    rfl
theorem join_nil : Txt.join ("" : Str) [] = "" := by
  rw [show Txt.join ("" : Str) [] = Str.join ("" : Str) [] from StrLaws.glued_eq_join _ _]
  rfl
theorem numT_pos (k : Nat) : 0 < (numT (k : Int)).length := by
  unfold numT
  rw [PySem.ofString_length]
  show 0 < (Nat.repr k).length
  unfold Nat.repr
  rw [String.length_ofList]
  exact Nat.length_toDigits_pos
theorem prodT_pos (p : List Int) (c : Int) : 0 < (prodT p c).length := by
  unfold prodT
  split
  · next h => exact Nat.pos_of_ne_zero fun z => h.1 (len_zero z)
  · rw [Str.length_append]
    have := numT_pos c.natAbs
    omega
theorem pcsN_pos {r : List Tm} (h : Wr r) {i : Nat} (i0 : 0 < i) (hi : i ≤ r.length) : 0 < (Txt.join "" (pcsN r i)).length := by
  obtain ⟨k, rfl⟩ : ∃ k, i = k + 1 := ⟨i - 1, by omega⟩
  rw [pcsN_succ, ← List.append_assoc, join_snoc, Str.length_append]
  have := prodT_pos (atT r k).1 (atT r k).2
  omega
theorem letters8_at : ∀ i, i < 8 → (("abcdefgh" : Str)).cps.toList[i]? = some (97 + i) := by decide +kernel
section
variable {P : Program} {w : World} {K : PySem.W.Frag} {mg : Str → Option Value} {base : Heap}
abbrev s_law_written : Stmt := topS 45
abbrev n_law_written : List Str := ["_law_my_width", "_law_book_here", "_law_found", "_law_powers_here", "_law_many", "_law_letters", "_law_k", "_law_size"]
theorem sc_law_written : FnScope n_law_written ["_law_my_width", "_law_book_here"] (defScope s_law_written) := ⟨rfl, rfl, rfl, by decide +kernel, rfl, by decide +kernel, by decide +kernel⟩
def spWritten : Sp := fun vs H Q _ => ∃ (d : Addr) (bk : List Tm) (n M : Nat) (ℓ : (List Int → Int) → Int), vs = [.int n, .ref d] ∧ BkAt H d bk ∧ BookOf n M ℓ bk ∧ bk.length ≤ 400 ∧ n ≤ 8 ∧ M < 2 ^ 200 ∧ (∀ a ∈ bk, ∀ v ∈ a.1, v.natAbs < 2 ^ 14) ∧
  ∀ (r : List Tm) (H' : Hp), Same H H' → Cn ℓ r → r.length = bk.length → Q (.str (sumT r)) H'
theorem ok_written {f : Addr} {fd : FuncData} (F : Fun K "_law_written" "_law_written" s_law_written f fd) (T : Tx mg) (c_law_told : Cal P w K mg base CX0 1 "_law_told" ["_law_book_here"] spTold) : FnOk P w K mg base CX0 2 f fd ["_law_my_width", "_law_book_here"] spWritten := by
  refine F.ok sc_law_written (fun vs H Q E h => ?_) (fun cdv A outer s H vs Q E hr h => ?_)
  · obtain ⟨d, bk, n, M, ℓ, rfl, _⟩ := h
    rfl
  · obtain ⟨d, bk, n, M, ℓ, rfl, eB, B, hl, n8, hM, hpw, q⟩ := h
    refine ⟨_, (pss_cons (ps_set (i := 2) sc_law_written.nd rfl (.inl rfl) pe_str)
  (pss_cons (ps_for PassesOwn.never rfl (p_list (K := K) (pe_cal c_law_told hr (by rfl) (pa_cons (pv 1) pa_nil))) (g_tup (K := K) (n := 2) rfl (pgs_cons (pg_name (i := 3) sc_law_written.nd rfl (.inl rfl)) (pgs_cons (pg_name (i := 4) sc_law_written.nd rfl (.inl rfl)) pgs_nil)))
    (pss_cons (ps_set (i := 5) sc_law_written.nd rfl (.inl rfl) pe_str)
    (pss_cons (ps_for PassesOwn.never rfl (pi_range1 (by rfl) T.range (pa_cons (pv 0) pa_nil)) (pg_name (i := 6) sc_law_written.nd rfl (.inl rfl))
      (pss_one (ps_if (pt_cmpR op_ne (pe_ix (i_tup (K := K)) (pv 3) (pv 6) (fun _ _ => rfl)) pe_int (nomark _))
        (pss_one (ps_set (i := 5) sc_law_written.nd rfl (.inl rfl) (pe_op op_add_str (pe_op op_add_str (pv 5) (pe_ix ix_str pe_str (pv 6) (fun _ _ => rfl))) (pe_ifExp (pt_cmpR op_eq (pe_ix (i_tup (K := K)) (pv 3) (pv 6) (fun _ _ => rfl)) pe_int (nomark _)) pe_str (pe_op op_add_str pe_str (pe_callTy call_str_int (by rfl) T.str (by decide +kernel) (pa_cons (pe_ix (i_tup (K := K)) (pv 3) (pv 6) (fun _ _ => rfl)) pa_nil)))))))
        pss_nil)))
    (C8.pss_cut (ps_set (i := 7) sc_law_written.nd rfl (.inl rfl) (pe_ifExp (PW.pt (pw_or (pt_cmpR op_ne (pe_callB call_abs (by rfl) T.abs (by decide +kernel) (pa_cons (pv 4) pa_nil)) pe_int (nomark _)) (pw_or1 (pt_cmpR op_eq (pv 5) pe_str (nomark _))))) (pe_callTy call_str_int (by rfl) T.str (by decide +kernel) (pa_cons (pe_callB call_abs (by rfl) T.abs (by decide +kernel) (pa_cons (pv 4) pa_nil)) pa_nil)) pe_str))
    (pss_one (ps_if (pt_cmpR op_eq (pv 2) pe_str (nomark _))
      (pss_one (ps_set (i := 2) sc_law_written.nd rfl (.inl rfl) (pe_op op_add_str (pe_op op_add_str (pe_ifExp (pt_cmpR op_lt (pv 4) pe_int (nomark _)) pe_str pe_str) (pv 7)) (pv 5))))
      (pss_one (ps_set (i := 2) sc_law_written.nd rfl (.inl rfl) (pe_op op_add_str (pe_op op_add_str (pe_op op_add_str (pv 2) (pe_ifExp (pt_cmpR op_lt (pv 4) pe_int (nomark _)) pe_str pe_str)) (pv 7)) (pv 5))))))))))
  (pss_one (ps_ret (pe_ifExp (pt_cmpR op_eq (pv 2) pe_str (nomark _)) pe_str (pv 2)))))), ?_⟩
    refine ⟨.ref d, rfl, d, bk, n, M, ℓ, rfl, eB, B, by omega, fun L ts r H1 s1 L0 eL hT cn lr => ?_⟩
    have pm := cn.perm B
    have hw : Wr r := fun a ha => by
      have mb := pm.mem_iff.mp ha
      exact ⟨by rw [(B.sz a mb).1]; exact n8, hpw a mb, Nat.lt_of_le_of_lt (B.sz a mb).2 hM⟩
    refine ⟨L, rfl, ⟨_, SqL.of eL⟩, ?_⟩
    refine for_it (walk_list (K := K) (a := L) (xs := ts.map V.ref)) (fun i σ H' => ∃ (y3 y4 y5 y6 y7 : Option V), σ = [some (.int n), some (.ref d), some (.str (Txt.join "" (pcsN r i))), y3, y4, y5, y6, y7] ∧ Same H1 H') ⟨none, none, none, none, none, by rw [show pcsN r 0 = [] from rfl, join_nil]; rfl, .refl _⟩ (fun i σ H' _ ⟨_, _, _, _, _, _, s⟩ => SqL.of (s _ _ eL)) ?_ ?_
    · rintro i v σ H2 H2' hi ⟨y3, y4, y5, y6, y7, rfl, s2⟩ ⟨rfl, ev⟩
      obtain ⟨t, et, rfl⟩ := ref_at ev
      obtain ⟨a, ea, b, hb1, hb2⟩ := (hT.same s2).at et
      have hix := (List.getElem?_eq_some_iff.mp ea).1
      have ma := List.mem_of_getElem? ea
      obtain ⟨w1, w2, w3⟩ := hw a ma
      have la : a.1.length = n := (B.sz a (pm.mem_iff.mp ma)).1
      refine ⟨t, _, rfl, SqT.of hb1, rfl, _, _, rfl, _, _, rfl, rfl, ?_⟩
      refine ⟨.int n, rfl, n, rfl, by omega, by omega, ?_⟩
      refine for_range (fun k σ H' => ∃ y6 : Option V, σ = [some (.int n), some (.ref d), some (.str (Txt.join "" (pcsN r i))), some (.ref b), some (.int a.2), some (.str (Txt.join "" (letN a.1 k))), y6, y7] ∧ H' = H2') ⟨y6, by rw [show letN a.1 0 = [] from rfl, join_nil]; rfl, rfl⟩ ?_ ?_
      · rintro k σ H3 hk ⟨y6, rfl, rfl⟩
        have hk : k < n := hk
        have e0 : (0 : Int) + (k : Int) = (k : Int) := by omega
        rw [e0]
        have ep : (a.1.map V.int)[k]? = some (V.int (a.1.getD k 0)) := by
          rw [List.getElem?_map, List.getElem?_eq_getElem (show k < a.1.length by omega), List.getD_eq_getElem?_getD, List.getElem?_eq_getElem (show k < a.1.length by omega)]
          rfl
        have hv : (a.1.getD k 0).natAbs < 2 ^ 14 := by
          rw [List.getD_eq_getElem?_getD, List.getElem?_eq_getElem (show k < a.1.length by omega)]
          exact w2 _ (List.getElem_mem _)
        have sn := letN_succ a.1 k
        obtain ⟨ln1, ln2⟩ := letN_len w2 k
        generalize a.1.getD k 0 = v at ep hv sn
        have hs := sum_le ln2
        have hm : (letN a.1 k).length * 20 ≤ 8 * 20 := Nat.mul_le_mul_right _ (by omega)
        have hj := join_len (letN a.1 k)
        have lv := numT_len (z := v) (k := 14) (by decide) hv
        have hlog : v.natAbs.log2 < 1920 := Nat.lt_trans (log_lt (by decide) hv) (by decide)
        have lch : (⟨#[97 + k]⟩ : Str).length = 1 := rfl
        have l2 : (("^" : Str)).length = 1 := by decide
        have l0 : (("" : Str)).length = 0 := rfl
        have el : ∀ a b : Str, (a ++ b).length = a.length + b.length := fun a b => Str.length_append a b
        have hch : atI (("abcdefgh" : Str)).cps.toList (k : Int) = some (97 + k) := by
          exact atI_nat (letters8_at k (by omega))
        refine ⟨.ref b, rfl, .int k, rfl, b, _, k, _, rfl, rfl, SqT.of hb2, atI_nat ep, rfl, _, rfl, ite2 (fun z => ?_) (fun z => ?_)⟩
        · have v0 : v ≠ 0 := fun h => by rw [h] at z; simp at z
          refine ⟨.str (Txt.join "" (letN a.1 k)), rfl, .int k, rfl, _, k, 97 + k, rfl, rfl, by decide, hch, _, _, rfl, rfl, by rw [lch, sizeLine_eq]; omega, ?_⟩
          refine ⟨.ref b, rfl, .int k, rfl, b, _, k, _, rfl, rfl, SqT.of hb2, atI_nat ep, rfl, _, rfl, ite2 (fun z1 => ?_) (fun z1 => ?_)⟩
          · have v1 : v = 1 := V.int.inj (of_decide_eq_true z1)
            refine ⟨_, _, rfl, rfl, by rw [el, lch, l0, sizeLine_eq]; omega, ?_⟩
            refine ⟨some (.int (k : Nat)), ?_, rfl⟩
            rw [sn]
            unfold letP
            rw [if_pos v1, join_snoc, str_empty, Str.append_empty]
            rfl
          · have v1 : v ≠ 1 := fun h => z1 (decide_eq_true (congrArg V.int h))
            refine ⟨.ref b, rfl, .int k, rfl, b, _, k, _, rfl, rfl, SqT.of hb2, atI_nat ep, v, rfl, hlog, _, _, rfl, rfl, by rw [l2, sizeLine_eq]; have : (Str.ofString (toString v)).length ≤ 15 := lv; omega, _, _, rfl, rfl, by rw [el, el, lch, l2, sizeLine_eq]; have : (Str.ofString (toString v)).length ≤ 15 := lv; omega, ?_⟩
            refine ⟨some (.int (k : Nat)), ?_, rfl⟩
            rw [sn]
            unfold letP
            rw [if_neg v1, if_neg v0, join_snoc, Str.empty_append]
            simp only [Str.append_assoc]
            rfl
        · have v0 : v = 0 := Classical.byContradiction fun h => z (by simp [h])
          refine ⟨some (.int (k : Nat)), ?_, rfl⟩
          rw [sn]
          unfold letP
          rw [if_neg (by omega), if_pos v0, List.append_nil]
          rfl
      · rintro σ H3 ⟨y6', rfl, rfl⟩
        have el : ∀ a b : Str, (a ++ b).length = a.length + b.length := fun a b => Str.length_append a b
        have eN : Txt.join "" (letN a.1 ((n : Int)).toNat) = letT a.1 := by
          unfold letT
          rw [la]
          rfl
        have ll := letT_len w1 w2
        have lnum := numT_len (z := (a.2.natAbs : Int)) (k := 200) (by decide) w3
        have hlog : ((a.2.natAbs : Int)).natAbs.log2 < 1920 := Nat.lt_trans (log_lt (k := 200) (by decide) w3) (by decide)
        have hab : (if a.2 < 0 then -a.2 else a.2) = (a.2.natAbs : Int) := by split <;> omega
        have hp1 : numT (1 : Int) = "1" := by decide +kernel
        obtain ⟨n1, n2, n3⟩ := pcsN_len hw i (by omega)
        have hs := sum_le n3
        have hm : (pcsN r i).length * 500 ≤ 801 * 500 := Nat.mul_le_mul_right _ (by omega)
        have hj := join_len (pcsN r i)
        have sn := pcsN_succ r i
        rw [atT_of ea] at sn
        refine ⟨fun σ H' => ∃ sz : Str, σ = [some (.int n), some (.ref d), some (.str (Txt.join "" (pcsN r i))), some (.ref b), some (.int a.2), some (.str (letT a.1)), y6', some (.str sz)] ∧ sz ++ letT a.1 = prodT a.1 a.2 ∧ sz.length ≤ 201 ∧ H' = H3, ?_, ?_⟩
        · refine ⟨.int a.2, rfl, a.2, rfl, rfl, _, rfl, ite2 (fun z => ?_) (fun z => ?_)⟩
          · have h1 : a.2.natAbs ≠ 1 := fun h => by
              rw [hab, h] at z
              simp at z
            refine ⟨.int a.2, rfl, a.2, rfl, ?_⟩
            rw [hab]
            refine ⟨_, rfl, hlog, ?_⟩
            exact ⟨numT (a.2.natAbs : Int), by rw [← eN]; rfl, by unfold prodT; rw [if_neg (fun h => h1 h.2)], lnum, rfl⟩
          · have h1 : a.2.natAbs = 1 := Classical.byContradiction fun h => z (by rw [hab]; have : ((a.2.natAbs : Int)) ≠ 1 := (by omega); rw [decide_eq_false (fun h => this (V.int.inj h))]; rfl)
            refine ⟨_, rfl, rfl, _, rfl, ite2 (fun z1 => ?_) (fun z1 => ?_)⟩
            · have h2 : letT a.1 = "" := by
                have := V.str.inj (of_decide_eq_true z1)
                rw [eN] at this
                exact this
              refine ⟨.int a.2, rfl, a.2, rfl, ?_⟩
              rw [hab]
              refine ⟨_, rfl, hlog, ?_⟩
              exact ⟨numT (a.2.natAbs : Int), by rw [← eN]; rfl, by unfold prodT; rw [if_neg (fun h => h.1 h2)], lnum, rfl⟩
            · have h2 : letT a.1 ≠ "" := fun h => z1 (by rw [eN, h]; exact decide_eq_true rfl)
              exact ⟨"", by rw [← eN]; rfl, by unfold prodT; rw [if_pos ⟨h2, h1⟩, str_empty, Str.empty_append], by decide, rfl⟩
        rintro σ H4 ⟨sz, rfl, ez, lz, rfl⟩
        have jn : ∀ s : Str, Txt.join "" (pcsN r i ++ ([s] ++ [prodT a.1 a.2])) = Txt.join "" (pcsN r i) ++ s ++ sz ++ letT a.1 := fun s => by
          rw [← List.append_assoc, join_snoc, join_snoc, ← ez]
          simp only [Str.append_assoc]
        have ls : ∀ s : Str, s.length ≤ 3 → (Txt.join "" (pcsN r i)).length + s.length ≤ sizeLine ∧ (Txt.join "" (pcsN r i) ++ s).length + sz.length ≤ sizeLine ∧ (Txt.join "" (pcsN r i) ++ s ++ sz).length + (letT a.1).length ≤ sizeLine := fun s h => by
          rw [el, el, el, sizeLine_eq]
          omega
        refine ⟨_, rfl, rfl, _, rfl, ite2 (fun z => ?_) (fun z => ?_)⟩
        · have f0 : Txt.join "" (pcsN r i) = "" := V.str.inj (of_decide_eq_true z)
          have i0 : i = 0 := Classical.byContradiction fun h => by
            have := pcsN_pos hw (show 0 < i by omega) (by omega)
            rw [f0] at this
            exact absurd this (by decide)
          have l1 : (("-" : Str)).length = 1 := by decide
          have l0 : (("" : Str)).length = 0 := rfl
          refine ⟨.int a.2, rfl, _, _, rfl, rfl, _, rfl, ite2 (fun zc => ?_) (fun zc => ?_)⟩
          · refine ⟨.str sz, rfl, _, _, rfl, rfl, by rw [l1, sizeLine_eq]; omega, .str (letT a.1), rfl, _, _, rfl, rfl, by rw [el, l1, sizeLine_eq]; omega, ?_⟩
            refine ⟨some (.ref b), some (.int a.2), some (.str (letT a.1)), y6', some (.str sz), ?_, s2⟩
            have sg : sgnP i a.2 = ([("-" : Str)] : List Str) := by unfold sgnP; rw [if_pos i0, if_pos (of_decide_eq_true zc)]
            rw [sn, sg, jn, f0, str_empty, Str.empty_append]
            rfl
          · refine ⟨.str sz, rfl, _, _, rfl, rfl, by rw [l0, sizeLine_eq]; omega, .str (letT a.1), rfl, _, _, rfl, rfl, by rw [el, l0, sizeLine_eq]; omega, ?_⟩
            refine ⟨some (.ref b), some (.int a.2), some (.str (letT a.1)), y6', some (.str sz), ?_, s2⟩
            have sg : sgnP i a.2 = [] := by unfold sgnP; rw [if_pos i0, if_neg (fun h => zc (decide_eq_true h))]
            rw [sn, sg, List.nil_append, join_snoc, f0, ← ez, str_empty, Str.empty_append, Str.empty_append]
            rfl
        · have i0 : i ≠ 0 := fun h => z (by
            rw [h, show pcsN r 0 = [] from rfl, join_nil]
            exact decide_eq_true rfl)
          refine ⟨_, rfl, .int a.2, rfl, _, _, rfl, rfl, _, rfl, ite2 (fun zc => ?_) (fun zc => ?_)⟩
          · obtain ⟨q1, q2, q3⟩ := ls " - " (by decide)
            refine ⟨_, _, rfl, rfl, q1, .str sz, rfl, _, _, rfl, rfl, q2, .str (letT a.1), rfl, _, _, rfl, rfl, q3, ?_⟩
            refine ⟨some (.ref b), some (.int a.2), some (.str (letT a.1)), y6', some (.str sz), ?_, s2⟩
            have sg : sgnP i a.2 = ([(" - " : Str)] : List Str) := by unfold sgnP; rw [if_neg i0, if_pos (of_decide_eq_true zc)]
            rw [sn, sg, jn]
            rfl
          · obtain ⟨q1, q2, q3⟩ := ls " + " (by decide)
            refine ⟨_, _, rfl, rfl, q1, .str sz, rfl, _, _, rfl, rfl, q2, .str (letT a.1), rfl, _, _, rfl, rfl, q3, ?_⟩
            refine ⟨some (.ref b), some (.int a.2), some (.str (letT a.1)), y6', some (.str sz), ?_, s2⟩
            have sg : sgnP i a.2 = ([(" + " : Str)] : List Str) := by unfold sgnP; rw [if_neg i0, if_neg (fun h => zc (decide_eq_true h))]
            rw [sn, sg, jn]
            rfl
    · rintro σ H2 ⟨y3, y4, y5, y6, y7, rfl, s2⟩
      have lts : (ts.map V.ref).length = r.length := by rw [List.length_map, hT.1]
      have hq := q r H2 (s1.trans s2) cn lr
      rw [lts]
      refine ⟨_, rfl, rfl, _, rfl, ite2 (fun z => ?_) (fun z => ?_)⟩
      · have f0 : Txt.join "" (pcsN r r.length) = "" := V.str.inj (of_decide_eq_true z)
        have r0 : r = [] := List.eq_nil_of_length_eq_zero (Classical.byContradiction fun h => by
          have := pcsN_pos hw (show 0 < r.length by omega) (Nat.le_refl _)
          rw [f0] at this
          exact absurd this (by decide))
        have e0 : sumT r = "0" := by
          unfold sumT pcsT
          rw [if_pos r0, join_one]
        rw [e0] at hq
        exact hq
      · have r0 : r ≠ [] := fun h => z (by
          rw [h, show pcsN ([] : List Tm) ([] : List Tm).length = [] from rfl, join_nil]
          exact decide_eq_true rfl)
        refine ⟨_, rfl, ?_⟩
        unfold sumT pcsT at hq
        rw [if_neg r0] at hq
        exact hq
end
end Bw
set_option Elab.async false
set_option linter.all false
set_option maxRecDepth 100000
set_option maxHeartbeats 4000000
namespace Bw
open PySem PySem.Spec PyProof.Rows L2
/-! ### figures ahead -/
def isFig (c : Nat) : Bool := decide (c ∈ (("0123456789" : Str)).cps.toList)
def lead (x : Str) : Nat := (x.cps.toList.takeWhile isFig).length
theorem tw_at {α : Type} {p : α → Bool} : ∀ {l : List α} {i : Nat} {c : α}, l[i]? = some c → i < (l.takeWhile p).length → p c = true
  | [], i, c, h, _ => by simp at h
  | a :: l, i, c, h, k => by
    rw [List.takeWhile_cons] at k
    split at k
    · next ha =>
      cases i with
      | zero =>
        cases (Option.some.inj h)
        exact ha
      | succ i => exact tw_at (l := l) h (Nat.lt_of_succ_lt_succ k)
    · simp at k
theorem tw_end {α : Type} {p : α → Bool} : ∀ {l : List α} {c : α}, l[(l.takeWhile p).length]? = some c → p c = false
  | [], c, h => by simp at h
  | a :: l, c, h => by
    rw [List.takeWhile_cons] at h
    split at h
    · exact tw_end (l := l) h
    · next ha =>
      cases (Option.some.inj h)
      simpa using ha
theorem lead_le (x : Str) : lead x ≤ x.length := by
  unfold lead
  have := (List.takeWhile_sublist (l := x.cps.toList) isFig).length_le
  rw [Array.length_toList] at this
  exact this
/-- figures from a place on -/
def leadA (x : Str) (k : Nat) : Nat := ((x.cps.toList.drop k).takeWhile isFig).length
theorem leadA_le {x : Str} {k : Nat} (h : k ≤ x.length) : k + leadA x k ≤ x.length := by
  unfold leadA
  have := (List.takeWhile_sublist (l := x.cps.toList.drop k) isFig).length_le
  have h2 : x.cps.toList.length = x.length := Array.length_toList
  rw [List.length_drop, h2] at this
  omega
section
variable {P : Program} {w : World} {K : PySem.W.Frag} {mg : Str → Option Value} {base : Heap}
abbrev s_leading_figures : Stmt := topS 17
abbrev n_leading_figures : List Str := ["text", "at", "end"]
theorem sc_leading_figures : FnScope n_leading_figures ["text", "at"] (defScope s_leading_figures) := ⟨rfl, rfl, rfl, by decide +kernel, rfl, by decide +kernel, by decide +kernel⟩
def spLead : Sp := fun vs H Q _ => ∃ (x : Str) (k : Nat), vs = [.str x, .int k] ∧ x.length ≤ 100000 ∧ k ≤ x.length ∧ Q (.str (cutS x (some (k : Int)) (some ((k + leadA x k : Nat) : Int)))) H
theorem ok_lead {f : Addr} {fd : FuncData} (F : Fun K "leading_figures" "leading_figures" s_leading_figures f fd) (T : Tx mg) : FnOk P w K mg base CX0 1 f fd ["text", "at"] spLead := by
  refine F.ok sc_leading_figures (fun vs H Q E h => ?_) (fun cdv A outer s H vs Q E hr h => ?_)
  · obtain ⟨x, k, rfl, _⟩ := h
    rfl
  · obtain ⟨x, k, rfl, lx, hk, q⟩ := h
    have lz : x.length ≤ sizeLine := by rw [sizeLine_eq]; omega
    refine ⟨_, (pss_cons (ps_set (i := 2) sc_leading_figures.nd rfl (.inl rfl) (pv 1))
  (pss_cons (ps_while PassesOwn.never (PW.pt (pw_and (pt_cmpR op_lt (pv 2) (pe_callB call_len_str (by rfl) T.len PySem.boot_len (pa_cons (pv 0) pa_nil)) (nomark _)) (pw_and1 (pt_cmpR op_in_sign (pe_ix ix_str (pv 0) (pv 2) (fun _ _ => rfl)) (pe_gstr (by rfl) T.FIGURES) (by rfl)))))
    (pss_one (ps_aug (i := 2) sc_leading_figures.nd rfl (.inl rfl) pe_int ip_add)))
  (pss_one (ps_ret (pe_slice sl_str (pv 0) (po_some (pv 1)) (po_some (pv 2))))))), ?_⟩
    refine ⟨.int k, rfl, fun m σ' H' => ∃ e : Nat, e + m = leadA x k ∧ σ' = [some (.str x), some (.int k), some (.int (k + e : Nat))] ∧ H' = H, ⟨leadA x k, 0, by omega, rfl, rfl⟩, ?_⟩
    rintro m σ' H' ⟨e, em, rfl, rfl⟩
    have hle := leadA_le hk
    have ek : ((k + e : Nat) : Int) = (k : Int) + (e : Int) := Int.natCast_add k e
    have pc : ∀ (n m : Nat) (h : n = m), ((n : Nat) : Int) = ((m : Nat) : Int) := fun n m h => by rw [h]
    have lsz : x.cps.size = x.length := rfl
    have dp : (x.cps.toList.drop k)[e]? = x.cps.toList[k + e]? := by rw [List.getElem?_drop]
    refine ⟨.int (k + e : Nat), rfl, .str x, rfl, x, rfl, lz, _, _, rfl, rfl, _, rfl, ite2 (fun h1 => ?_) (fun h1 => ?_)⟩
    · have h1 : k + e < x.length := by
        have := of_decide_eq_true h1
        omega
      have he : x.cps.toList[k + e]? = some x.cps.toList[k + e] := List.getElem?_eq_getElem (by rw [Array.length_toList]; exact h1)
      have hd : (x.cps.toList.drop k)[e]? = some x.cps.toList[k + e] := dp.trans he
      refine ⟨.str x, rfl, .int (k + e : Nat), rfl, x, k + e, _, rfl, rfl, lz, atI_nat he, _, _, rfl, rfl, _, rfl, ite2 (fun h2 => ?_) (fun h2 => ?_)⟩
      · have hm : 0 < m := by
          rcases Nat.eq_zero_or_pos m with z | z
          · exfalso
            have z2 : e = leadA x k := by omega
            subst z2
            have := tw_end hd
            unfold isFig at this
            rw [this] at h2
            exact absurd h2 (by decide)
          · exact z
        refine ⟨fun σ2 H2 => σ2 = [some (.str x), some (.int k), some (.int (((k + e : Nat) : Int) + 1))] ∧ H2 = H', fun σ2 H2 ⟨e1, e2⟩ => ⟨m - 1, by omega, e + 1, by omega, e1, e2⟩, ?_⟩
        exact ⟨.int (k + e : Nat), rfl, _, _, rfl, rfl, rfl, rfl⟩
      · have z : e = leadA x k := by
          rcases Nat.lt_or_ge e (leadA x k) with z | z
          · exfalso
            have := tw_at hd z
            unfold isFig at this
            exact h2 this
          · omega
        subst z
        exact ⟨.str x, rfl, .int k, rfl, k, rfl, .int _, rfl, _, rfl, x, rfl, lz, q⟩
    · have z : e = leadA x k := by
        have h1 : ¬ (((k + e : Nat) : Int) < (x.length : Int)) := fun z => h1 (decide_eq_true z)
        omega
      subst z
      refine ite2 (fun z => absurd z (by decide)) (fun _ => ?_)
      exact ⟨.str x, rfl, .int k, rfl, k, rfl, .int _, rfl, _, rfl, x, rfl, lz, q⟩
end
end Bw
set_option Elab.async false
set_option linter.all false
set_option maxRecDepth 100000
set_option maxHeartbeats 4000000
namespace Bw
open PySem PySem.Spec PyProof.Rows L2 PySem.NumText
/-! ### a number read -/
theorem fig_bounds : ∀ c : Nat, isFig c = true → 48 ≤ c ∧ c ≤ 57 := by
  intro c h
  have h := of_decide_eq_true h
  have e : (("0123456789" : Str)).cps.toList = [48, 49, 50, 51, 52, 53, 54, 55, 56, 57] := by decide +kernel
  rw [e] at h
  simp only [List.mem_cons, List.not_mem_nil, or_false] at h
  omega
theorem tw_all {α : Type} {p : α → Bool} : ∀ {l : List α}, (l.takeWhile p).length = l.length → ∀ c ∈ l, p c = true
  | [], _, c, h => by cases h
  | a :: l, h, c, hc => by
    rw [List.takeWhile_cons] at h
    split at h
    · next ha =>
      rcases List.mem_cons.mp hc with rfl | hc
      · exact ha
      · exact tw_all (l := l) (Nat.succ.inj h) c hc
    · simp at h
theorem cut_len (x : Str) : (cutS x (some 0) (some (lead x : Int))).cps.toList.length = lead x := by
  unfold cutS
  rw [show HT.sIx x.length 0 (some 0) = min 0 x.length from HT.sIx_nat _ 0 0, show HT.sIx x.length x.length (some (lead x : Int)) = min (lead x) x.length from HT.sIx_nat _ _ _]
  have h := lead_le x
  have hl : x.cps.toList.length = x.length := Array.length_toList
  rw [Nat.zero_min, Nat.min_eq_left h, List.drop_zero, Nat.sub_zero, List.toList_toArray, List.length_take, hl]
  exact Nat.min_eq_left h
theorem all_figs {x : Str} (h : cutS x (some 0) (some (lead x : Int)) = x) : ∀ c ∈ x.cps.toList, isFig c = true := by
  have e := cut_len x
  rw [h] at e
  exact tw_all e.symm
theorem starts {x : Str} (h : Txt.startswith x "-" = true) : ∃ cs, x.cps.toList = 45 :: cs := by
  obtain ⟨⟨l⟩⟩ := x
  cases l with
  | nil => exact absurd h (by decide)
  | cons c cs =>
    refine ⟨cs, ?_⟩
    show c :: cs = 45 :: cs
    unfold Txt.startswith at h
    rw [Bool.and_eq_true] at h
    have h2 := h.2
    unfold Builtin.Str.subAt at h2
    have h3 := eq_of_beq h2
    have h4 := congrArg Array.toList h3
    rw [Array.toList_extract] at h4
    have h5 : [c] = [45] := h4
    injection h5 with h6
    rw [h6]
theorem cut1 {x : Str} {cs : List Nat} (h : x.cps.toList = 45 :: cs) : (cutS x (some 1) none).cps.toList = cs := by
  unfold cutS
  have hl : x.cps.toList.length = x.length := Array.length_toList
  have hn : x.length = cs.length + 1 := by
    rw [← hl, h]
    rfl
  rw [show HT.sIx x.length 0 (some 1) = min 1 x.length from HT.sIx_nat _ 0 1, HT.sIx_none, hn, Nat.min_eq_left (by omega), List.toList_toArray, h]
  show cs.take (cs.length + 1 - 1) = cs
  rw [Nat.add_sub_cancel, List.take_length]
theorem dv_lt : ∀ (cs : List Nat) (a : Nat), (∀ c ∈ cs, 48 ≤ c ∧ c ≤ 57) → cs.foldl (fun acc c => acc * 10 + (c - 48)) a < (a + 1) * 10 ^ cs.length
  | [], a, _ => by simp
  | c :: cs, a, h => by
    have hc := h c (List.mem_cons_self ..)
    have ih := dv_lt cs (a * 10 + (c - 48)) fun d hd => h d (List.mem_cons_of_mem _ hd)
    rw [List.foldl_cons, List.length_cons, Nat.pow_succ]
    refine Nat.lt_of_lt_of_le ih ?_
    rw [Nat.mul_comm (10 ^ cs.length) 10, ← Nat.mul_assoc]
    exact Nat.mul_le_mul_right _ (by omega)
def figs (x : Str) : Str := if Txt.startswith x "-" = true then cutS x (some 1) none else x
def numOk (x : Str) (m : Nat) : Prop := cutS (figs x) (some 0) (some (lead (figs x) : Int)) = figs x ∧ 1 ≤ (figs x).length ∧ (figs x).length ≤ m
theorem num_of {x : Str} {m : Nat} (hm : m ≤ 30) (h : numOk x m) : ∃ n : Int, intText? x = some n ∧ n.natAbs < 10 ^ m ∧ x.length ≤ m + 1 := by
  obtain ⟨h1, h2, h3⟩ := h
  have ha := all_figs h1
  have hl : ∀ y : Str, y.cps.toList.length = y.length := fun y => Array.length_toList
  have dv : ∀ cs : List Nat, (∀ c ∈ cs, 48 ≤ c ∧ c ≤ 57) → cs.length ≤ m → digitsVal cs < 10 ^ m := fun cs hd hc => by
    have := dv_lt cs 0 hd
    have h10 : 10 ^ cs.length ≤ 10 ^ m := Nat.pow_le_pow_right (by decide) hc
    unfold digitsVal
    omega
  by_cases hs : Txt.startswith x "-" = true
  · obtain ⟨cs, hx⟩ := starts hs
    have e : (figs x).cps.toList = cs := by
      unfold figs
      rw [if_pos hs]
      exact cut1 hx
    have lf := hl (figs x)
    rw [e] at lf ha
    have hd : ∀ c ∈ cs, 48 ≤ c ∧ c ≤ 57 := fun c hc => fig_bounds c (ha c hc)
    have lx := hl x
    rw [hx, List.length_cons] at lx
    have := dv cs hd (by omega)
    exact ⟨_, intText_neg hx hd (fun z => by rw [z] at lf; simp at lf; omega) (by omega), by omega, by omega⟩
  · have e : figs x = x := by
      unfold figs
      rw [if_neg hs]
    rw [e] at ha h2 h3
    have hd : ∀ c ∈ x.cps.toList, 48 ≤ c ∧ c ≤ 57 := fun c hc => fig_bounds c (ha c hc)
    have lx := hl x
    have := dv x.cps.toList hd (by omega)
    exact ⟨_, intText_digits hd (fun z => by rw [z] at lx; simp at lx; omega) (by omega), by omega, by omega⟩
end Bw
set_option Elab.async false
set_option linter.all false
set_option maxRecDepth 100000
set_option maxHeartbeats 4000000
namespace Bw
open PySem PySem.Spec PyProof.Rows L2
instance (x : Str) (m : Nat) : Decidable (numOk x m) := by
  unfold numOk
  infer_instance
/-- the number whose text it is -/
def readN (x : Str) (m : Nat) : Option Int := if numOk x m then (intText? x).bind fun n => if numT n = x then some n else none else none
def optI : Option Int → V
  | some n => .int n
  | none => .non
theorem readN_text {x : Str} {m : Nat} {n : Int} (hm : m ≤ 30) (h : readN x m = some n) : numT n = x ∧ n.natAbs < 10 ^ m := by
  unfold readN at h
  split at h
  · next hk =>
    obtain ⟨v, h1, h2, _⟩ := num_of hm hk
    rw [h1] at h
    have h : (if numT v = x then some v else none) = some n := h
    split at h
    · next e =>
      cases (Option.some.inj h)
      exact ⟨e, h2⟩
    · cases h
  · cases h
section
variable {P : Program} {w : World} {K : PySem.W.Frag} {mg : Str → Option Value} {base : Heap}
abbrev s_read_number : Stmt := topS 18
abbrev n_read_number : List Str := ["text", "most", "figures", "number"]
theorem sc_read_number : FnScope n_read_number ["text", "most"] (defScope s_read_number) := ⟨rfl, rfl, rfl, by decide +kernel, rfl, by decide +kernel, by decide +kernel⟩
def spReadN : Sp := fun vs H Q _ => ∃ (x : Str) (m : Nat), vs = [.str x, .int m] ∧ m ≤ 30 ∧ x.length ≤ 10000 ∧ Q (optI (readN x m)) H
theorem cut1_le (x : Str) : (cutS x (some 1) none).length ≤ x.length := by
  have hl : (cutS x (some 1) none).cps.toList.length = (cutS x (some 1) none).length := Array.length_toList
  have hx : x.cps.toList.length = x.length := Array.length_toList
  rw [← hl]
  unfold cutS
  rw [List.toList_toArray, List.length_take, List.length_drop]
  omega
theorem ok_readnum {f : Addr} {fd : FuncData} (F : Fun K "read_number" "read_number" s_read_number f fd) (T : Tx mg) (c_lead : Cal P w K mg base CX0 1 "leading_figures" ["text", "at"] spLead) : FnOk P w K mg base CX0 2 f fd ["text", "most"] spReadN := by
  refine F.ok sc_read_number (fun vs H Q E h => ?_) (fun cdv A outer s H vs Q E hr h => ?_)
  · obtain ⟨x, m, rfl, _⟩ := h
    rfl
  · obtain ⟨x, m, rfl, hm, lx, q⟩ := h
    refine ⟨_, (C8.pss_cut (ps_set (i := 2) sc_read_number.nd rfl (.inl rfl) (pe_ifExp (pt_val (pe_m1 PySem.F.slot_str_startswith PySem.F.type_str_startswith mt_startswith (pv 0) pe_str)) (pe_slice sl_str (pv 0) (po_some pe_int) po_none) (pv 0)))
  (pss_cons (ps_if (PW.pt (pw_or (pt_cmpR op_ne (pe_cal c_lead hr (by rfl) (pa_cons (pv 2) (pa_cons pe_int pa_nil))) (pv 2) (nomark _)) (pw_or1 (pt_not (pt_chain op_le op_le pe_int (pe_callB call_len_str (by rfl) T.len PySem.boot_len (pa_cons (pv 2) pa_nil)) (pv 1))))))
    (pss_one (ps_ret pe_non))
    pss_nil)
  (pss_cons (ps_set (i := 3) sc_read_number.nd rfl (.inl rfl) (pe_callTy call_int_str (by rfl) T.int (by decide +kernel) (pa_cons (pv 0) pa_nil)))
  (pss_one (ps_ret (pe_ifExp (pt_cmpR op_eq (pe_callTy call_str_int (by rfl) T.str (by decide +kernel) (pa_cons (pv 3) pa_nil)) (pv 0) (nomark _)) (pv 3) pe_non)))))), ?_⟩
    have lz : x.length ≤ sizeLine := by rw [sizeLine_eq]; omega
    have hno : ¬ numOk x m → Q .non H := fun hn => by
      unfold readN at q
      rw [if_neg hn] at q
      exact q
    have ly : (figs x).length ≤ 10000 := by
      unfold figs
      split
      · exact Nat.le_trans (cut1_le x) lx
      · exact lx
    have lzy : (figs x).length ≤ sizeLine := by rw [sizeLine_eq]; omega
    refine ⟨fun σ H' => σ = [some (.str x), some (.int m), some (.str (figs x)), none] ∧ H' = H, ?_, ?_⟩
    · refine ⟨.str x, rfl, ⟨_, rfl⟩, x, "-", rfl, rfl, _, rfl, ite2 (fun hs => ?_) (fun hs => ?_)⟩
      · refine ⟨.str x, rfl, 1, rfl, x, rfl, lz, ?_, rfl⟩
        unfold figs
        rw [if_pos hs]
        rfl
      · refine ⟨.str x, rfl, ?_, rfl⟩
        unfold figs
        rw [if_neg hs]
        rfl
    rintro σ H' ⟨rfl, rfl⟩
    refine ⟨.str (figs x), rfl, figs x, 0, rfl, by omega, Nat.zero_le _, ?_⟩
    rw [show ((0 + leadA (figs x) 0 : Nat) : Int) = (lead (figs x) : Int) by rw [Nat.zero_add]; rfl, show (((0 : Nat) : Int)) = 0 from rfl]
    refine ⟨.str (figs x), rfl, rfl, _, rfl, ite2 (fun h1 => ?_) (fun h1 => ?_)⟩
    · refine hno fun z => ?_
      rw [z.1, decide_eq_true rfl] at h1
      exact absurd h1 (by decide)
    have h1 : cutS (figs x) (some 0) (some (lead (figs x) : Int)) = figs x := by
      by_cases z : V.str (cutS (figs x) (some 0) (some (lead (figs x) : Int))) = V.str (figs x)
      · injection z
      · rw [decide_eq_false z] at h1
        exact absurd rfl h1
    refine ⟨.str (figs x), rfl, figs x, rfl, lzy, _, _, rfl, rfl, _, rfl, ite2 (fun h2 => ?_) (fun h2 => ?_)⟩
    · have h2 : 1 ≤ (figs x).length := by
        have := of_decide_eq_true h2
        omega
      refine ⟨.int m, rfl, _, _, rfl, rfl, _, rfl, ite2 (fun h3 => ?_) (fun h3 => ?_)⟩
      · refine hno fun z => ?_
        have z3 : decide (((figs x).length : Int) ≤ m) = true := decide_eq_true (by have := z.2.2; omega)
        rw [z3] at h3
        exact absurd h3 (by decide)
      · have h3 : (figs x).length ≤ m := by
          by_cases z : ((figs x).length : Int) ≤ m
          · omega
          · rw [decide_eq_false z] at h3
            exact absurd rfl h3
        have hk : numOk x m := ⟨h1, h2, h3⟩
        obtain ⟨n, e1, e2, e3⟩ := num_of hm hk
        have q : Q (optI (if numT n = x then some n else none)) H' := by
          unfold readN at q
          rw [if_pos hk, e1] at q
          exact q
        refine ⟨.str x, rfl, x, n, rfl, e1, by omega, .int n, rfl, n, rfl, Nat.lt_trans (log_lt (k := 120) (by decide) (Nat.lt_of_lt_of_le e2 (Nat.le_trans (Nat.pow_le_pow_right (by decide) hm) (by decide)))) (by decide), .str x, rfl, rfl, _, rfl, ite2 (fun h4 => ?_) (fun h4 => ?_)⟩
        · have e : numT n = x := by
            have := of_decide_eq_true h4
            injection this
          rw [if_pos e] at q
          exact ⟨.int n, rfl, q⟩
        · have e : ¬ numT n = x := fun e => h4 (decide_eq_true (by show V.str (numT n) = _; rw [e]))
          rw [if_neg e] at q
          exact q
    · refine ⟨false, rfl, ite2 (fun _ => ?_) (fun z => absurd rfl z)⟩
      refine hno fun z => ?_
      exact h2 (decide_eq_true (by have := z.2.1; omega))
end
end Bw
set_option Elab.async false
set_option linter.all false
set_option maxRecDepth 100000
set_option maxHeartbeats 4000000
namespace Bw
open PySem PySem.Spec PyProof.Rows L2
/-- where a power ends -/
def begP (x : Str) (k : Nat) : Nat := if Txt.startswith3 x "-" ((k + 1 : Nat) : Int) = true then k + 2 else k + 1
def endP (x : Str) (k : Nat) : Nat := if Txt.startswith3 x "^" (k : Int) = true then begP x k + leadA x (begP x k) else k
theorem starts3_le {x y : Str} {k : Nat} (hk : k ≤ x.length) (h : Txt.startswith3 x y (k : Int) = true) : k + y.length ≤ x.length := by
  unfold Txt.startswith3 at h
  rw [Bool.and_eq_true] at h
  have h1 := of_decide_eq_true h.1
  have e : PySem.fromIndex x.length (k : Int) = k := by
    unfold PySem.fromIndex
    split
    · omega
    · omega
  rw [e] at h1
  exact h1
theorem cutS_len {x : Str} {a n : Nat} (h : a + n ≤ x.length) : (cutS x (some (a : Int)) (some ((a + n : Nat) : Int))).length = n := by
  have hl : (cutS x (some (a : Int)) (some ((a + n : Nat) : Int))).cps.toList.length = (cutS x (some (a : Int)) (some ((a + n : Nat) : Int))).length := Array.length_toList
  have hx : x.cps.toList.length = x.length := Array.length_toList
  rw [← hl]
  unfold cutS
  rw [List.toList_toArray, List.length_take, List.length_drop]
  rw [HT.sIx_nat, HT.sIx_nat, hx]
  omega
section
variable {P : Program} {w : World} {K : PySem.W.Frag} {mg : Str → Option Value} {base : Heap}
abbrev s_power_end : Stmt := topS 26
abbrev n_power_end : List Str := ["text", "at", "begin"]
theorem sc_power_end : FnScope n_power_end ["text", "at"] (defScope s_power_end) := ⟨rfl, rfl, rfl, by decide +kernel, rfl, by decide +kernel, by decide +kernel⟩
def spEndP : Sp := fun vs H Q _ => ∃ (x : Str) (k : Nat), vs = [.str x, .int k] ∧ x.length ≤ 100000 ∧ k ≤ x.length ∧ (endP x k ≤ x.length → Q (.int (endP x k : Nat)) H)
theorem ok_powerend {f : Addr} {fd : FuncData} (F : Fun K "power_end" "power_end" s_power_end f fd) (T : Tx mg) (c_leading_figures : Cal P w K mg base CX0 1 "leading_figures" ["text", "at"] spLead) : FnOk P w K mg base CX0 2 f fd ["text", "at"] spEndP := by
  refine F.ok sc_power_end (fun vs H Q E h => ?_) (fun cdv A outer s H vs Q E hr h => ?_)
  · obtain ⟨x, k, rfl, _⟩ := h
    rfl
  · obtain ⟨x, k, rfl, lx, hk, q⟩ := h
    have lz : x.length ≤ sizeLine := by rw [sizeLine_eq]; omega
    refine ⟨_, (pss_cons (ps_if (pt_not (pt_val (p_bm (K := K) PySem.F.plainAttrs_str PySem.F.slot_str_startswith PySem.F.type_str_startswith mt_startswith3 (pv 0) (pa_cons pe_str (pa_cons (pv 1) pa_nil)))))
    (pss_one (ps_ret (pv 1)))
    pss_nil)
  (C8.pss_cut (ps_set (i := 2) sc_power_end.nd rfl (.inl rfl) (pe_ifExp (pt_val (p_bm (K := K) PySem.F.plainAttrs_str PySem.F.slot_str_startswith PySem.F.type_str_startswith mt_startswith3 (pv 0) (pa_cons pe_str (pa_cons (pe_op op_add (pv 1) pe_int) pa_nil)))) (pe_op op_add (pv 1) pe_int) (pe_op op_add (pv 1) pe_int)))
  (pss_one (ps_ret (pe_op op_add (pv 2) (pe_callB call_len_str (by rfl) T.len PySem.boot_len (pa_cons (pe_cal c_leading_figures hr (by rfl) (pa_cons (pv 0) (pa_cons (pv 2) pa_nil))) pa_nil))))))), ?_⟩
    refine ⟨.str x, rfl, rfl, .int k, rfl, x, "^", k, rfl, rfl, ?_⟩
    cases hs : Txt.startswith3 x "^" (k : Int) with
    | false =>
      refine ⟨false, rfl, iteT ?_⟩
      have : endP x k = k := by unfold endP; rw [hs]; rfl
      rw [this] at q
      exact ⟨_, rfl, q hk⟩
    | true =>
      refine ⟨true, rfl, iteF ?_⟩
      have h1 := starts3_le hk hs
      have h1 : k + 1 ≤ x.length := h1
      have ee : endP x k = begP x k + leadA x (begP x k) := by unfold endP; rw [hs]; rfl
      have hb : begP x k ≤ x.length := by
        unfold begP
        split
        · next h => exact starts3_le h1 h
        · exact h1
      refine ⟨fun σ H' => σ = [some (.str x), some (.int k), some (.int (begP x k : Nat))] ∧ H' = H, ?_, ?_⟩
      · refine ⟨.str x, rfl, rfl, .int k, rfl, _, _, rfl, rfl, x, "-", (k : Int) + 1, rfl, rfl, ?_⟩
        cases hm : Txt.startswith3 x "-" ((k : Int) + 1) with
        | true =>
          refine ⟨true, rfl, iteT ?_⟩
          refine ⟨.int k, rfl, _, _, rfl, rfl, ?_⟩
          have : begP x k = k + 2 := by unfold begP; rw [show (((k + 1 : Nat) : Int)) = (k : Int) + 1 from rfl, hm]; rfl
          rw [this]
          exact ⟨rfl, rfl⟩
        | false =>
          refine ⟨false, rfl, iteF ?_⟩
          refine ⟨.int k, rfl, _, _, rfl, rfl, ?_⟩
          have : begP x k = k + 1 := by unfold begP; rw [show (((k + 1 : Nat) : Int)) = (k : Int) + 1 from rfl, hm]; rfl
          rw [this]
          exact ⟨rfl, rfl⟩
      · rintro σ H' ⟨rfl, rfl⟩
        have le := leadA_le hb
        refine ⟨_, rfl, _, rfl, _, rfl, x, begP x k, rfl, lx, hb, ?_⟩
        refine ⟨_, rfl, ?_, _, _, rfl, rfl, ?_⟩
        · rw [cutS_len le, sizeLine_eq]
          omega
        · rw [ee] at q
          rw [cutS_len le]
          exact q le
end
end Bw
set_option Elab.async false
set_option linter.all false
set_option maxRecDepth 100000
set_option maxHeartbeats 8000000
namespace Bw
open PySem PySem.Spec PyProof.Rows L2
theorem endP_ge {x : Str} {k : Nat} (hk : k ≤ x.length) : k ≤ endP x k ∧ endP x k ≤ x.length := by
  unfold endP
  split
  · next h =>
    have h1 : k + 1 ≤ x.length := starts3_le hk h
    have hb : k + 1 ≤ begP x k ∧ begP x k ≤ x.length := by
      unfold begP
      split
      · next h2 => exact ⟨by omega, starts3_le (k := k + 1) h1 h2⟩
      · exact ⟨Nat.le_refl _, h1⟩
    have := leadA_le hb.2
    omega
  · exact ⟨Nat.le_refl _, hk⟩
theorem cutS_le (x : Str) (a b : Option Int) : (cutS x a b).length ≤ x.length := by
  have hl : (cutS x a b).cps.toList.length = (cutS x a b).length := Array.length_toList
  have hx : x.cps.toList.length = x.length := Array.length_toList
  rw [← hl]
  unfold cutS
  rw [List.toList_toArray, List.length_take, List.length_drop]
  omega
def findL (c : Nat) : Int := Txt.find "abcdefghijklmnopqrstuvwxyz" ⟨#[c]⟩
/-- one power read -/
def pwL (x : Str) (k : Nat) : Option Int := if endP x (k + 1) = k + 1 then some 1 else readN (cutS x (some ((k + 2 : Nat) : Int)) (some (endP x (k + 1) : Int))) 4
def rdL (x : Str) (w : Nat) : Nat → Nat → List Int → Option (List Int)
  | 0, _, ps => some ps
  | f + 1, k, ps => match x.cps.toList[k]? with
    | none => some ps
    | some c => match pwL x k with
      | none => none
      | some v => if 0 ≤ findL c ∧ findL c < w then rdL x w f (endP x (k + 1)) (ps.set (findL c).toNat v) else none
section
variable {P : Program} {w : World} {K : PySem.W.Frag} {mg : Str → Option Value} {base : Heap}
abbrev s_read_letters : Stmt := topS 27
abbrev n_read_letters : List Str := ["text", "width", "powers", "at", "number", "end", "power"]
theorem sc_read_letters : FnScope n_read_letters ["text", "width"] (defScope s_read_letters) := ⟨rfl, rfl, rfl, by decide +kernel, rfl, by decide +kernel, by decide +kernel⟩
def spRdL : Sp := fun vs H Q _ => ∃ (x : Str) (n : Nat), vs = [.str x, .int n] ∧ x.length ≤ 10000 ∧ n ≤ 26 ∧ (rdL x n (x.length + 1) 0 (List.replicate n 0) = none → ∀ H', Same H H' → Q .non H') ∧ (∀ ps, rdL x n (x.length + 1) 0 (List.replicate n 0) = some ps → ∀ (p : Addr) (H' : Hp), Same H H' → H p = none → H' p = some (.tup (ps.map V.int)) → Q (.ref p) H')
theorem ok_readletters {f : Addr} {fd : FuncData} (F : Fun K "read_letters" "read_letters" s_read_letters f fd) (T : Tx mg) (c_power_end : Cal P w K mg base CX0 2 "power_end" ["text", "at"] spEndP) (c_read_number : Cal P w K mg base CX0 2 "read_number" ["text", "most"] spReadN) : FnOk P w K mg base CX0 3 f fd ["text", "width"] spRdL := by
  refine F.ok sc_read_letters (fun vs H Q E h => ?_) (fun cdv A outer s H vs Q E hr h => ?_)
  · obtain ⟨x, n, rfl, _⟩ := h
    rfl
  · obtain ⟨x, n, rfl, lx, n26, q0, q1⟩ := h
    have lz : x.length ≤ sizeLine := by rw [sizeLine_eq]; omega
    refine ⟨_, (pss_cons (ps_set (i := 2) sc_read_letters.nd rfl (.inl rfl) (pe_op op_rep (pe_lst (pa_cons pe_int pa_nil)) (pv 1)))
  (pss_cons (ps_set (i := 3) sc_read_letters.nd rfl (.inl rfl) pe_int)
  (pss_cons (ps_while PassesOwn.never (pt_cmpR op_lt (pv 3) (pe_callB call_len_str (by rfl) T.len PySem.boot_len (pa_cons (pv 0) pa_nil)) (nomark _))
    (pss_cons (ps_set (i := 4) sc_read_letters.nd rfl (.inl rfl) (p_bm (K := K) PySem.F.plainAttrs_str PySem.F.slot_str_find PySem.F.type_str_find mt_find (pe_gstr (by rfl) T.LETTERS) (pa_cons (pe_ix ix_str (pv 0) (pv 3) (fun _ _ => rfl)) pa_nil)))
    (pss_cons (ps_set (i := 5) sc_read_letters.nd rfl (.inl rfl) (pe_cal c_power_end hr (by rfl) (pa_cons (pv 0) (pa_cons (pe_op op_add (pv 3) pe_int) pa_nil))))
    (C8.pss_cut (ps_set (i := 6) sc_read_letters.nd rfl (.inl rfl) (pe_ifExp (pt_cmpR op_eq (pv 5) (pe_op op_add (pv 3) pe_int) (nomark _)) pe_int (pe_cal c_read_number hr (by rfl) (pa_cons (pe_slice sl_str (pv 0) (po_some (pe_op op_add (pv 3) pe_int)) (po_some (pv 5))) (pa_cons (pe_gint (by rfl) T.POWER_FIGURES) pa_nil)))))
    (pss_cons (ps_if (PW.pt (pw_or (pt_not (pt_chain op_le op_lt pe_int (pv 4) (pv 1))) (pw_or1 (pt_cmpR op_isN (pv 6) pe_non (nomark _)))))
      (pss_one (ps_ret pe_non))
      pss_nil)
    (pss_cons (ps_asg (pv 6) (pg_sub (pv 2) (pv 4) set_list))
    (pss_one (ps_set (i := 3) sc_read_letters.nd rfl (.inl rfl) (pv 5)))))))))
  (pss_one (ps_ret (pe_callTy (c_tup (K := K)) (by rfl) T.tuple (by decide +kernel) (pa_cons (pv 2) pa_nil))))))), ?_⟩
    refine ⟨by show 1 ≤ sizeLine; decide, fun R0 eR0 => ?_⟩
    have s0 := same_upd (o := .lst [V.int 0]) eR0
    refine ⟨.int n, rfl, R0, n, _, rfl, rfl, upd_same, by omega, by omega, by rw [List.length_singleton, Nat.one_mul]; exact Nat.le_of_lt (small1000 (by omega)), fun R eR => ?_⟩
    have eR2 : (upd (upd H R0 (.lst [V.int 0])) R (.lst (List.replicate (n : Int).toNat [V.int 0]).flatten)) R = some (.lst ((List.replicate n (0 : Int)).map V.int)) := by
      rw [upd_same, List.flatten_replicate_singleton, List.map_replicate]
      rfl
    have sR := s0.trans (same_upd (o := .lst (List.replicate (n : Int).toNat [V.int 0]).flatten) eR)
    have R00 : H R = none := s0.free eR
    generalize upd (upd H R0 (.lst [V.int 0])) R (.lst (List.replicate (n : Int).toNat [V.int 0]).flatten) = H1 at eR2 sR
    refine ⟨fun m σ H' => ∃ (k fl : Nat) (ps : List Int) (y4 y5 y6 : Option V), m + k = x.length ∧ σ = [some (.str x), some (.int n), some (.ref R), some (.int k), y4, y5, y6] ∧ H' R = some (.lst (ps.map V.int)) ∧ ps.length = n ∧ x.length - k < fl ∧ rdL x n fl k ps = rdL x n (x.length + 1) 0 (List.replicate n 0) ∧ Same H H', ⟨x.length, 0, x.length + 1, List.replicate n 0, none, none, none, by omega, rfl, eR2, List.length_replicate, by omega, rfl, sR⟩, ?_⟩
    rintro m σ H2 ⟨k, fl, ps, y4, y5, y6, mk, rfl, e2, lps, lf, er, s2⟩
    obtain ⟨f', rfl⟩ : ∃ f', fl = f' + 1 := ⟨fl - 1, by omega⟩
    refine ⟨.int k, rfl, .str x, rfl, x, rfl, lz, _, _, rfl, rfl, _, rfl, ite2 (fun h1 => ?_) (fun h1 => ?_)⟩
    · have hk : k < x.length := by
        have := of_decide_eq_true h1
        omega
      have he : x.cps.toList[k]? = some x.cps.toList[k] := List.getElem?_eq_getElem (by rw [Array.length_toList]; exact hk)
      generalize x.cps.toList[k] = c at he
      have hg := endP_ge (x := x) (k := k + 1) hk
      refine ⟨fun σ' H' => ∃ (k fl : Nat) (ps : List Int) (y4 y5 y6 : Option V), k > x.length - m ∧ k ≤ x.length ∧ σ' = [some (.str x), some (.int n), some (.ref R), some (.int k), y4, y5, y6] ∧ H' R = some (.lst (ps.map V.int)) ∧ ps.length = n ∧ x.length - k < fl ∧ rdL x n fl k ps = rdL x n (x.length + 1) 0 (List.replicate n 0) ∧ Same H H', fun σ' H' ⟨k', fl', ps', z4, z5, z6, g1, g2, g3⟩ => ⟨x.length - k', by omega, k', fl', ps', z4, z5, z6, by omega, g3⟩, ?_⟩
      refine ⟨rfl, .str x, rfl, .int k, rfl, x, k, c, rfl, rfl, lz, atI_nat he, _, _, rfl, rfl, ?_⟩
      refine ⟨.str x, rfl, .int k, rfl, _, _, rfl, rfl, x, k + 1, rfl, by omega, hk, fun he2 => ?_⟩
      -- the power
      refine ⟨fun σ' H' => σ' = [some (.str x), some (.int n), some (.ref R), some (.int k), some (.int (findL c)), some (.int (endP x (k + 1) : Nat)), some (optI (pwL x k))] ∧ H' = H2, ?_, ?_⟩
      · refine ⟨.int (endP x (k + 1) : Nat), rfl, .int k, rfl, _, _, rfl, rfl, rfl, _, rfl, ite2 (fun z => ?_) (fun z => ?_)⟩
        · have z : endP x (k + 1) = k + 1 := by
            have := V.int.inj (of_decide_eq_true z)
            omega
          have : pwL x k = some 1 := by unfold pwL; rw [if_pos z]
          rw [this]
          exact ⟨rfl, rfl⟩
        · have z : endP x (k + 1) ≠ k + 1 := fun h => z (decide_eq_true (congrArg V.int (by rw [h]; rfl)))
          have ep : pwL x k = readN (cutS x (some ((k + 2 : Nat) : Int)) (some (endP x (k + 1) : Int))) 4 := by unfold pwL; rw [if_neg z]
          refine ⟨.str x, rfl, .int k, rfl, _, _, rfl, rfl, (k : Int) + 2, rfl, .int (endP x (k + 1) : Nat), rfl, _, rfl, x, rfl, lz, ?_⟩
          refine ⟨_, 4, rfl, by decide, Nat.le_trans (cutS_le _ _ _) lx, ?_⟩
          rw [ep]
          exact ⟨rfl, rfl⟩
      · rintro σ' H' ⟨rfl, rfl⟩
        have step : rdL x n (f' + 1) k ps = match pwL x k with
            | none => none
            | some v => if 0 ≤ findL c ∧ findL c < n then rdL x n f' (endP x (k + 1)) (ps.set (findL c).toNat v) else none := by
          show (match x.cps.toList[k]? with
            | none => some ps
            | some c => match pwL x k with
              | none => none
              | some v => if 0 ≤ findL c ∧ findL c < n then rdL x n f' (endP x (k + 1)) (ps.set (findL c).toNat v) else none) = _
          rw [he]
        have bad : (pwL x k = none ∨ ¬ (0 ≤ findL c ∧ findL c < n)) → Q .non H' := fun hb => by
          refine q0 ?_ H' s2
          rw [← er, step]
          cases hp : pwL x k with
          | none => rfl
          | some v =>
            rcases hb with hb | hb
            · rw [hp] at hb
              cases hb
            · show (if _ then _ else none) = none
              rw [if_neg hb]
        refine ⟨.int (findL c), rfl, _, _, rfl, rfl, _, rfl, ite2 (fun h2 => ?_) (fun h2 => ?_)⟩
        · have h2 : 0 ≤ findL c := of_decide_eq_true h2
          refine ⟨.int n, rfl, _, _, rfl, rfl, _, rfl, ite2 (fun h3 => ?_) (fun h3 => ?_)⟩
          · refine bad (.inr fun z => ?_)
            rw [decide_eq_true z.2] at h3
            exact absurd h3 (by decide)
          · have h3 : findL c < n := by
              by_cases z : findL c < n
              · exact z
              · rw [decide_eq_false z] at h3
                exact absurd rfl h3
            cases hp : pwL x k with
            | none =>
              refine ⟨_, rfl, rfl, _, rfl, iteT ?_⟩
              exact bad (.inl hp)
            | some v =>
              refine ⟨_, rfl, rfl, _, rfl, iteF ?_⟩
              have hj : ixN (ps.map V.int).length (findL c) = some (findL c).toNat := by
                rw [List.length_map, lps]
                unfold ixN
                rw [if_pos h2, if_pos h3]
              refine ⟨_, rfl, .ref R, rfl, .int (findL c), rfl, R, _, findL c, (findL c).toNat, rfl, rfl, e2, hj, ?_⟩
              refine ⟨_, rfl, endP x (k + 1), f', ps.set (findL c).toNat v, _, _, _, by omega, hg.2, rfl, ?_, by rw [List.length_set, lps], by omega, ?_, Same.updN s2 R00⟩
              · rw [upd_same, List.map_set]
                rfl
              · rw [← er, step, hp]
                show _ = if _ then _ else _
                rw [if_pos ⟨h2, h3⟩]
        · refine ⟨false, rfl, ite2 (fun _ => ?_) (fun z => absurd rfl z)⟩
          exact bad (.inr fun z => h2 (decide_eq_true z.1))
    · have hk : k = x.length := Classical.byContradiction fun h => h1 (decide_eq_true (by omega))
      refine ⟨.ref R, rfl, R, _, rfl, .inl ⟨SqL.of e2, fun p ep => ?_⟩⟩
      have en : x.cps.toList[k]? = none := List.getElem?_eq_none (by rw [Array.length_toList]; show x.length ≤ k; omega)
      have er2 : rdL x n (f' + 1) k ps = some ps := by
        show (match x.cps.toList[k]? with
          | none => some ps
          | some c => match pwL x k with
            | none => none
            | some v => if 0 ≤ findL c ∧ findL c < n then rdL x n f' (endP x (k + 1)) (ps.set (findL c).toNat v) else none) = _
        rw [en]
      exact q1 ps (er.symm.trans er2) p _ (s2.trans (same_upd ep)) (s2.free ep) upd_same
end
end Bw
set_option Elab.async false
set_option linter.all false
set_option maxRecDepth 100000
set_option maxHeartbeats 8000000
namespace Bw
open PySem PySem.Spec PyProof.Rows L2
def figT (x : Str) : Str := cutS x (some 0) (some (lead x : Int))
def tailT (x : Str) : Str := cutS x (some (lead x : Int)) none
theorem figT_cps (x : Str) : (figT x).cps.toList = x.cps.toList.takeWhile isFig := by
  unfold figT cutS
  rw [show HT.sIx x.length 0 (some 0) = min 0 x.length from HT.sIx_nat _ 0 0, show HT.sIx x.length x.length (some (lead x : Int)) = min (lead x) x.length from HT.sIx_nat _ _ _]
  have h := lead_le x
  rw [Nat.zero_min, Nat.min_eq_left h, List.drop_zero, Nat.sub_zero, List.toList_toArray]
  exact (List.prefix_iff_eq_take.mp (List.takeWhile_prefix isFig)).symm
theorem figT_len (x : Str) : (figT x).length = lead x := by
  have h : (figT x).cps.toList.length = (figT x).length := Array.length_toList
  rw [← h, figT_cps]
  rfl
theorem figT_num {x : Str} (h0 : figT x ≠ "") (h : lead x ≤ 30) : ∃ n : Int, intText? (figT x) = some n := by
  refine ⟨_, intText_digits (fun c hc => ?_) (fun z => h0 (len_zero ?_)) (by rw [figT_len]; omega)⟩
  · rw [figT_cps] at hc
    exact fig_bounds c (List.all_eq_true.mp List.all_takeWhile c hc)
  · have h : (figT x).cps.toList.length = (figT x).length := Array.length_toList
    rw [← h, z]
    rfl
def rdP (x : Str) (w : Nat) : Option (List Int × Int) := match rdL (tailT x) w ((tailT x).length + 1) 0 (List.replicate w 0) with
  | none => none
  | some ps => if lead x > 30 then none else some (ps, if figT x = "" then 1 else (intText? (figT x)).getD 0)
section
variable {P : Program} {w : World} {K : PySem.W.Frag} {mg : Str → Option Value} {base : Heap}
abbrev s_read_product : Stmt := topS 28
abbrev n_read_product : List Str := ["text", "width", "figures", "powers"]
theorem sc_read_product : FnScope n_read_product ["text", "width"] (defScope s_read_product) := ⟨rfl, rfl, rfl, by decide +kernel, rfl, by decide +kernel, by decide +kernel⟩
def spRdP : Sp := fun vs H Q _ => ∃ (x : Str) (n : Nat), vs = [.str x, .int n] ∧ x.length ≤ 10000 ∧ n ≤ 26 ∧ (rdP x n = none → ∀ H', Same H H' → Q .non H') ∧ (∀ ps c, rdP x n = some (ps, c) → ∀ (p t : Addr) (H' : Hp), Same H H' → H t = none → H' p = some (.tup (ps.map V.int)) → H' t = some (.tup [.ref p, .int c]) → Q (.ref t) H')
theorem ok_readproduct {f : Addr} {fd : FuncData} (F : Fun K "read_product" "read_product" s_read_product f fd) (T : Tx mg) (c_leading_figures : Cal P w K mg base CX0 1 "leading_figures" ["text", "at"] spLead) (c_read_letters : Cal P w K mg base CX0 3 "read_letters" ["text", "width"] spRdL) : FnOk P w K mg base CX0 4 f fd ["text", "width"] spRdP := by
  refine F.ok sc_read_product (fun vs H Q E h => ?_) (fun cdv A outer s H vs Q E hr h => ?_)
  · obtain ⟨x, n, rfl, _⟩ := h
    rfl
  · obtain ⟨x, n, rfl, lx, n26, q0, q1⟩ := h
    have lz : x.length ≤ sizeLine := by rw [sizeLine_eq]; omega
    refine ⟨_, (pss_cons (ps_set (i := 2) sc_read_product.nd rfl (.inl rfl) (pe_cal c_leading_figures (hr.mono (by decide)) (by rfl) (pa_cons (pv 0) (pa_cons pe_int pa_nil))))
  (pss_cons (ps_set (i := 3) sc_read_product.nd rfl (.inl rfl) (pe_cal c_read_letters hr (by rfl) (pa_cons (pe_slice sl_str (pv 0) (po_some (pe_callB call_len_str (by rfl) T.len PySem.boot_len (pa_cons (pv 2) pa_nil))) po_none) (pa_cons (pv 1) pa_nil))))
  (pss_cons (ps_if (PW.pt (pw_or (pt_cmpR op_isN (pv 3) pe_non (nomark _)) (pw_or1 (pt_cmpR op_gt (pe_callB call_len_str (by rfl) T.len PySem.boot_len (pa_cons (pv 2) pa_nil)) (pe_gint (by rfl) T.COUNT_FIGURES) (nomark _)))))
    (pss_one (ps_ret pe_non))
    pss_nil)
  (pss_one (ps_ret (pe_tup (pa_cons (pv 3) (pa_cons (pe_ifExp (pt_cmpR op_eq (pv 2) pe_str (nomark _)) pe_int (pe_callTy call_int_str (by rfl) T.int (by decide +kernel) (pa_cons (pv 2) pa_nil))) pa_nil)))))))), ?_⟩
    refine ⟨.str x, rfl, x, 0, rfl, by omega, Nat.zero_le _, ?_⟩
    rw [show ((0 + leadA x 0 : Nat) : Int) = (lead x : Int) by rw [Nat.zero_add]; rfl, show (((0 : Nat) : Int)) = 0 from rfl]
    have fl := figT_len x
    have lle := lead_le x
    refine ⟨.str x, rfl, .str (figT x), rfl, figT x, rfl, by rw [fl, sizeLine_eq]; omega, ?_⟩
    rw [fl]
    refine ⟨(lead x : Int), rfl, x, rfl, lz, ?_⟩
    have lt := cutS_le x (some (lead x : Int)) none
    refine ⟨.int n, rfl, tailT x, n, rfl, Nat.le_trans lt lx, n26, fun hn H1 s1 => ?_, fun ps hs p H1 s1 p0 ep => ?_⟩
    · refine ⟨_, rfl, rfl, _, rfl, iteT ?_⟩
      exact q0 (by unfold rdP; rw [hn]) H1 s1
    · refine ⟨_, rfl, rfl, _, rfl, iteF ?_⟩
      refine ⟨.str (figT x), rfl, figT x, rfl, by rw [fl, sizeLine_eq]; omega, _, _, rfl, rfl, _, rfl, ite2 (fun z => ?_) (fun z => ?_)⟩
      · have z : lead x > 30 := by
          have := of_decide_eq_true z
          rw [fl] at this
          omega
        exact q0 (by unfold rdP; rw [hs]; show (if _ then _ else _) = _; rw [if_pos z]) H1 s1
      · have z : ¬ lead x > 30 := fun h => z (decide_eq_true (by rw [fl]; omega))
        have fin : ∀ c : Int, c = (if figT x = "" then 1 else (intText? (figT x)).getD 0) → rdP x n = some (ps, c) := fun c hc => by
          unfold rdP
          rw [hs]
          show (if _ then _ else _) = _
          rw [if_neg z, hc]
        refine ⟨_, rfl, .str (figT x), rfl, rfl, _, rfl, ite2 (fun z2 => ?_) (fun z2 => ?_)⟩
        · have z2 : figT x = "" := V.str.inj (of_decide_eq_true z2)
          refine ⟨by show 2 ≤ sizeLine; decide, fun t et => ?_⟩
          have st := same_upd (o := .tup [V.ref p, .int 1]) et
          exact q1 ps 1 (fin 1 (by rw [if_pos z2])) p t _ (s1.trans st) (s1.free et) (st _ _ ep) upd_same
        · have z2 : figT x ≠ "" := fun h => z2 (decide_eq_true (congrArg V.str h))
          obtain ⟨c, hc⟩ := figT_num z2 (by omega)
          refine ⟨.str (figT x), rfl, _, c, rfl, hc, by rw [fl]; omega, by show 2 ≤ sizeLine; decide, fun t et => ?_⟩
          have st := same_upd (o := .tup [V.ref p, .int c]) et
          exact q1 ps c (fin c (by rw [if_neg z2, hc]; rfl)) p t _ (s1.trans st) (s1.free et) (st _ _ ep) upd_same
end
end Bw
set_option Elab.async false
set_option linter.all false
set_option maxRecDepth 100000
namespace Bw
open PySem PySem.Spec PyProof.Rows L2
/-! ### name *= e, name //= e of great ints -/
section
variable {X : Cx}
theorem iop_mulW : OpR X (inplaceOp .Mult) (rI CMulW fun i j => .int (i * j)) := opI fun _ _ _ _ _ _ _ hc q => imul_int q hc.ok
theorem iop_fdivW : OpR X (inplaceOp .FloorDiv) (rI CDivW fun i j => .int (i / j)) := opI fun i j _ _ _ _ _ hc q => by
  have h1 : (0 : Int) < j := hc.1
  exact ifloordiv_int (by omega) (by rw [Int.fdiv_eq_ediv_of_nonneg i (by omega)]; exact q) (.inl (PyProof.noPylong_of_log2 hc.2))
theorem ip_mulW : PIp X .Mult (rI CMulW fun i j => .int (i * j)) := fun pins s σ H x y v u Q I a b q => iop_mulW pins s σ H x y v u Q I a b q
theorem ip_fdivW : PIp X .FloorDiv (rI CDivW fun i j => .int (i / j)) := fun pins s σ H x y v u Q I a b q => iop_fdivW pins s σ H x y v u Q I a b q
end
end Bw
set_option Elab.async false
set_option linter.all false
set_option maxRecDepth 100000
set_option maxHeartbeats 4000000
/-! ### xs[a::c], the figures constants, the step above 0 -/
namespace Bw
open PySem PySem.Spec PyProof.Rows L2
def stepIx (a c : Int) (n : Nat) : List Nat := sliceRange (sliceBounds (some a) none (some c) n).1 (sliceBounds (some a) none (some c) n).2.1 (sliceBounds (some a) none (some c) n).2.2
def stepL {α : Type} (a c : Int) (xs : List α) : List α := (stepIx a c xs.length).filterMap (xs[·]?)
theorem vals_get {xs : List V} {us : List Value} (r : Vals xs us) : ∀ i : Nat, (xs[i]? = none ∧ us[i]? = none) ∨ ∃ x u, xs[i]? = some x ∧ us[i]? = some u ∧ RelV x u := by
  induction r with
  | nil => exact fun i => .inl ⟨rfl, rfl⟩
  | cons p q ih =>
    intro i
    cases i with
    | zero => exact .inr ⟨_, _, rfl, rfl, p⟩
    | succ i => simpa using ih i
theorem vals_pick {xs : List V} {us : List Value} (r : Vals xs us) : ∀ ix : List Nat, Vals (ix.filterMap (xs[·]?)) (ix.filterMap (us[·]?))
  | [] => .nil
  | i :: ix => by
    have ih := vals_pick r ix
    rcases vals_get r i with ⟨h1, h2⟩ | ⟨x, u, h1, h2, h3⟩
    · rw [List.filterMap_cons_none h1, List.filterMap_cons_none h2]
      exact ih
    · rw [List.filterMap_cons_some h1, List.filterMap_cons_some h2]
      exact .cons h3 ih
theorem stepL_pick (a c : Int) (its : List Value) : slicePick its.toArray (some a) none (some c) = (stepL a c its).toArray := by
  unfold slicePick stepL stepIx
  simp only [List.size_toArray, List.getElem?_toArray]
theorem stepL_vals {a c : Int} {xs : List V} {us : List Value} (r : Vals xs us) : Vals (stepL a c xs) (stepL a c us) := by
  unfold stepL
  rw [r.length]
  exact vals_pick r _
theorem stepL_len {a c : Int} {xs : List V} {us : List Value} (r : Vals xs us) : (stepL a c xs).length ≤ xs.length := by
  have h := slicePick_size_le us.toArray (some a) none (some c)
  rw [stepL_pick, List.size_toArray, List.size_toArray, ← (stepL_vals (a := a) (c := c) r).length, ← r.length] at h
  exact h
def tStepL (K : PySem.W.Frag) (a c : Int) (te : TE) : TE := fun σ H Q => te σ H fun x H1 => ∃ l xs, x = .ref l ∧ SqL K H1 l xs ∧ ∀ p, H1 p = none → Q (.ref p) (upd H1 p (.lst (stepL a c xs)))
section
variable {X : Cx}
theorem pe_stepL {e : Expr} {te : TE} {a c : Int} {k k' : Nat} {p1 p2 p3 pos : Pos} (hc : c ≠ 0) (he : PE X e te) : PE X (.Subscript e (.Slice (some (.Constant (.int a) k p1)) none (some (.Constant (.int c) k' p2)) p3) pos) (tStepL X.K a c te) := by
  refine ⟨fun pins s σ H Q I h => ?_⟩
  refine Subscript_ (thn (he.run pins s σ H _ I h) fun v s1 ⟨x, H1, I1, r1, q1⟩ => ?_)
  obtain ⟨l, xs, ex, hx, q⟩ := q1
  subst ex
  cases r1
  have hst : PO X (some (.Constant (.int c) k' p2)) (tPart (tC (.int c))) := po_some pe_int
  have hlo : PO X (some (.Constant (.int a) k p1)) (tPart (tC (.int a))) := po_some pe_int
  refine wpAny_Slice (thn (hlo.run pins s1 σ H1 (fun o H2 => o = some a ∧ H2 = H1) I1 ⟨a, rfl, rfl, rfl⟩) fun vl s2 ⟨o1, H2, I2, pl, el, e2⟩ => ?_)
  subst el e2
  refine thn (po_none.run pins s2 σ H2 (fun o H3 => o = none ∧ H3 = H2) I2 ⟨rfl, rfl⟩) fun vu s3 ⟨u, H3, I3, pu, eu, e3⟩ => ?_
  subst eu e3
  refine thn (hst.run pins s3 σ H3 (fun o H4 => o = some c ∧ H4 = H3) I3 ⟨c, rfl, rfl, rfl⟩) fun vs s4 ⟨o, H4, I4, ps, eo, e4⟩ => ?_
  subst eo e4
  have I5 : Inv X pins σ H4 { s4 with heap := s4.heap.push { cls := .type "slice", data := .fields #[vl, vu, vs] } } := I4.kept (t' := s4.toks) fun b ob q => Heap.get?_push_of_some _ q
  obtain ⟨its, r, ht, hz⟩ := I5.list hx
  have hlen := r.length
  show wpAny (model X.prog X.w) X.A (subscriptTail e (.Slice (some (.Constant (.int a) k p1)) none (some (.Constant (.int c) k' p2)) p3) (.ref l) (.ref s4.heap.objs.size)) (EP X pins σ Q) X.xe { s4 with heap := s4.heap.push { cls := .type "slice", data := .fields #[vl, vu, vs] } }
  refine tail_any (ops := [.ref l, .ref s4.heap.objs.size]) ht.isList.typeIs (PySem.slot_list_getitem.lookup) ?_ (by with_unfolding_all rfl)
  refine wpAny_getItem_list_slice ht.isList (Heap.IsSliceOf.new _ vl vu vs) pl pu ps (by simpa using hc) ?_ (by rw [List.size_toArray]; omega)
  rw [stepL_pick]
  refine ⟨.ref _, _, I5.laid (t' := s4.toks) (o := .lst (stepL a c xs)) (fun b ob q => Heap.get?_push_of_some _ q) (Nat.le_refl _) ?_, rfl, q _ (I5.hok.fresh (Nat.le_refl _))⟩
  exact ⟨Nat.le_trans (stepL_len r) hz, _, 0, stepL_vals r, Heap.get?_push_size _ rfl⟩
end
end Bw
set_option Elab.async false
set_option linter.all false
set_option maxRecDepth 100000
set_option maxHeartbeats 8000000
namespace Bw
open PySem PySem.Spec PyProof.Rows L2
/-- every second, and the pairs side by side -/
def evens {α : Type} : List α → List α
  | [] => []
  | [a] => [a]
  | a :: _ :: r => a :: evens r
def odds {α : Type} : List α → List α
  | [] => []
  | [_] => []
  | _ :: b :: r => b :: odds r
def pairsOf {α : Type} : List α → List (α × α)
  | [] => []
  | [_] => []
  | a :: b :: r => (a, b) :: pairsOf r
theorem zip_pairs {α : Type} : ∀ r : List α, (evens r).zip (odds r) = pairsOf r
  | [] => by first | rfl | simp [evens, odds]
  | [_] => rfl
  | a :: b :: r => by
    show (a, b) :: (evens r).zip (odds r) = (a, b) :: pairsOf r
    rw [zip_pairs r]
theorem evens_ix {α : Type} : ∀ r : List α, (List.range ((r.length + 1) / 2)).filterMap (fun k => r[2 * k]?) = evens r
  | [] => by first | rfl | simp [evens, odds]
  | [a] => by simp [evens, List.range_succ]
  | a :: b :: r => by
    rw [show ((a :: b :: r).length + 1) / 2 = (r.length + 1) / 2 + 1 from by simp only [List.length_cons]; omega, List.range_succ_eq_map, List.filterMap_cons_some (b := a) (by rfl), List.filterMap_map]
    show _ = a :: evens r
    rw [← evens_ix r]
    congr 1
theorem odds_ix {α : Type} : ∀ r : List α, (List.range (r.length / 2)).filterMap (fun k => r[2 * k + 1]?) = odds r
  | [] => by first | rfl | simp [evens, odds]
  | [a] => by simp [odds]
  | a :: b :: r => by
    rw [show (a :: b :: r).length / 2 = r.length / 2 + 1 from by simp only [List.length_cons]; omega, List.range_succ_eq_map, List.filterMap_cons_some (b := b) (by rfl), List.filterMap_map]
    show _ = b :: odds r
    rw [← odds_ix r]
    congr 1
theorem stepIx_12 (n : Nat) : stepIx 1 2 (n + 1) = (List.range ((n + 1) / 2)).map fun k => 2 * k + 1 := by
  unfold stepIx sliceBounds sliceRange
  simp only [Option.getD_some, show ((1 : Int) < 0) = False from eq_false (by decide), show ((2 : Int) > 0) = True from eq_true (by decide), if_true, if_false]
  rw [show max (0 : Int) (min 1 ((n + 1 : Nat) : Int)) = 1 by omega]
  by_cases h : (1 : Int) < ((n + 1 : Nat) : Int)
  · rw [if_pos h, show ((((n + 1 : Nat) : Int) - 1 + 2 - 1) / 2).toNat = (n + 1) / 2 by omega]
    exact List.map_congr_left fun k _ => by omega
  · rw [if_neg h, show (n + 1) / 2 = 0 by omega]
    rfl
theorem stepIx_22 (n : Nat) : stepIx 2 2 (n + 1) = (List.range (n / 2)).map fun k => 2 * k + 1 + 1 := by
  unfold stepIx sliceBounds sliceRange
  simp only [Option.getD_some, show ((2 : Int) < 0) = False from eq_false (by decide), show ((2 : Int) > 0) = True from eq_true (by decide), if_true, if_false]
  by_cases h : n + 1 > 2
  · rw [show max (0 : Int) (min 2 ((n + 1 : Nat) : Int)) = 2 by omega, if_pos (by omega), show ((((n + 1 : Nat) : Int) - 2 + 2 - 1) / 2).toNat = n / 2 by omega]
    exact List.map_congr_left fun k _ => by omega
  · rw [if_neg (by omega), show n / 2 = 0 by omega]
    rfl
theorem stepL_12 {α : Type} (a : α) (r : List α) : stepL 1 2 (a :: r) = evens r := by
  unfold stepL
  rw [List.length_cons, stepIx_12, List.filterMap_map, ← evens_ix r]
  congr 1
theorem stepL_22 {α : Type} (a : α) (r : List α) : stepL 2 2 (a :: r) = odds r := by
  unfold stepL
  rw [List.length_cons, stepIx_22, List.filterMap_map, ← odds_ix r]
  congr 1
theorem evens_map {α β : Type} (f : α → β) : ∀ r : List α, evens (r.map f) = (evens r).map f
  | [] => by first | rfl | simp [evens, odds]
  | [_] => rfl
  | a :: b :: r => congrArg (f a :: ·) (evens_map f r)
theorem odds_map {α β : Type} (f : α → β) : ∀ r : List α, odds (r.map f) = (odds r).map f
  | [] => by first | rfl | simp [evens, odds]
  | [_] => rfl
  | a :: b :: r => congrArg (f b :: ·) (odds_map f r)
theorem evens_len {α : Type} : ∀ r : List α, (evens r).length ≤ r.length
  | [] => Nat.le_refl _
  | [_] => Nat.le_refl _
  | a :: b :: r => by
    show (evens r).length + 1 ≤ r.length + 1 + 1
    have := evens_len r
    omega
theorem odds_len {α : Type} : ∀ r : List α, (odds r).length ≤ r.length
  | [] => Nat.le_refl _
  | [_] => Nat.zero_le _
  | a :: b :: r => by
    show (odds r).length + 1 ≤ r.length + 1 + 1
    have := odds_len r
    omega
end Bw
set_option Elab.async false
set_option linter.all false
set_option maxRecDepth 100000
set_option maxHeartbeats 8000000
namespace Bw
open PySem PySem.Spec PyProof.Rows L2
def SgAt (H : Hp) (t : Addr) (a : Int × Str) : Prop := H t = some (.tup [.int a.1, .str a.2])
def SgsAt (H : Hp) (ts : List Addr) (l : List (Int × Str)) : Prop := ts.length = l.length ∧ ∀ (i : Nat) (a : Int × Str), l[i]? = some a → ∃ t, ts[i]? = some t ∧ SgAt H t a
theorem SgsAt.keep {H H' : Hp} {ts : List Addr} {l : List (Int × Str)} (s : ∀ b xs, H b = some (.tup xs) → H' b = some (.tup xs)) (h : SgsAt H ts l) : SgsAt H' ts l := ⟨h.1, fun i a e => by
  obtain ⟨t, e1, e2⟩ := h.2 i a e
  exact ⟨t, e1, s _ _ e2⟩⟩
theorem SgsAt.snoc {H : Hp} {ts : List Addr} {l : List (Int × Str)} {t : Addr} {a : Int × Str} (h : SgsAt H ts l) (ht : SgAt H t a) : SgsAt H (ts ++ [t]) (l ++ [a]) := by
  refine ⟨by rw [List.length_append, List.length_append, h.1]; rfl, fun i b e => ?_⟩
  by_cases hi : i < l.length
  · rw [List.getElem?_append_left hi] at e
    obtain ⟨t', e1, e2⟩ := h.2 i b e
    exact ⟨t', by rw [List.getElem?_append_left (by rw [h.1]; exact hi)]; exact e1, e2⟩
  · rw [List.getElem?_append_right (by omega)] at e
    have z : i - l.length = 0 := by
      have := (List.getElem?_eq_some_iff.mp e).1
      simp only [List.length_singleton] at this
      omega
    rw [z] at e
    cases e
    exact ⟨t, by rw [List.getElem?_append_right (by rw [h.1]; omega), h.1, z]; rfl, ht⟩
def sgM (x : Str) : Int := if Txt.startswith x "-" = true then -1 else 1
def sgB (x : Str) : Str := if Txt.startswith x "-" = true then cutS x (some 1) none else x
def sgOk (p : Str × Str) : Bool := decide (p.1 = "+") || decide (p.1 = "-")
def sgV (p : Str × Str) : Int × Str := (if p.1 = "-" then -1 else 1, p.2)
/-- the products of a text and their signs -/
def sgL (x : Str) (most : Nat) : Option (List (Int × Str)) :=
  match Txt.split (sgB x) " " with
  | [] => none
  | p :: r => if r.length % 2 = 0 ∧ r.length + 1 < 2 * most ∧ (pairsOf r).all sgOk = true then some ((sgM x, p) :: (pairsOf r).map sgV) else none
theorem at0 (p : Str) (r : List Str) : atI ((p :: r).map V.str) 0 = some (V.str p) := by
  simp [atI, ixN]
theorem pairs_at {r : List Str} {i : Nat} {a b : Str} (h1 : (evens r)[i]? = some a) (h2 : (odds r)[i]? = some b) : (pairsOf r)[i]? = some (a, b) := by
  rw [← zip_pairs]
  exact List.getElem?_zip_eq_some.mpr ⟨h1, h2⟩
theorem pairs_len (r : List Str) : (pairsOf r).length = min (evens r).length (odds r).length := by
  rw [← zip_pairs, List.length_zip]
section
variable {P : Program} {w : World} {K : PySem.W.Frag} {mg : Str → Option Value} {base : Heap}
abbrev s_signed_pieces : Stmt := topS 29
abbrev n_signed_pieces : List Str := ["text", "most", "first", "pieces", "signed", "sign", "piece"]
theorem sc_signed_pieces : FnScope n_signed_pieces ["text", "most"] (defScope s_signed_pieces) := ⟨rfl, rfl, rfl, by decide +kernel, rfl, by decide +kernel, by decide +kernel⟩
def spSgn : Sp := fun vs H Q _ => ∃ (x : Str) (most : Nat), vs = [.str x, .int most] ∧ x.length ≤ 10000 ∧ 0 < most ∧ most ≤ 1000 ∧ (sgL x most = none → ∀ H', Same H H' → Q .non H') ∧ (∀ l, sgL x most = some l → ∀ (D : Addr) (ts : List Addr) (H' : Hp), Same H H' → H D = none → H' D = some (.lst (ts.map V.ref)) → SgsAt H' ts l → Q (.ref D) H')
theorem ok_signedpieces {f : Addr} {fd : FuncData} (F : Fun K "signed_pieces" "signed_pieces" s_signed_pieces f fd) (T : Tx mg) : FnOk P w K mg base CX0 1 f fd ["text", "most"] spSgn := by
  refine F.ok sc_signed_pieces (fun vs H Q E h => ?_) (fun cdv A outer s H vs Q E hr h => ?_)
  · obtain ⟨x, n, rfl, _⟩ := h
    rfl
  · obtain ⟨x, most, rfl, lx, m0, m1, q0, q1⟩ := h
    have lz : x.length ≤ sizeLine := by rw [sizeLine_eq]; omega
    refine ⟨_, (pss_cons (ps_set (i := 2) sc_signed_pieces.nd rfl (.inl rfl) (pe_ifExp (pt_truth (p_bm (K := K) PySem.F.plainAttrs_str PySem.F.slot_str_startswith PySem.F.type_str_startswith mt_startswith (pv 0) (pa_cons pe_str pa_nil)) (by intro _; rfl)) (pe_un un_neg pe_int) pe_int))
  (pss_cons (ps_set (i := 3) sc_signed_pieces.nd rfl (.inl rfl) (pe_split (pe_ifExp (pt_cmpR op_eq (pv 2) (pe_un un_neg pe_int) (nomark _)) (pe_slice sl_str (pv 0) (po_some pe_int) po_none) (pv 0)) pe_str))
  (pss_cons (ps_if (PW.pt (pw_or (pt_cmpR op_eq (pe_op op_mod (pe_callB (c_len (K := K)) (by rfl) T.len PySem.boot_len (pa_cons (pv 3) pa_nil)) pe_int) pe_int (nomark _)) (pw_or1 (pt_cmpR op_ge (pe_callB (c_len (K := K)) (by rfl) T.len PySem.boot_len (pa_cons (pv 3) pa_nil)) (pe_op op_mul pe_int (pv 1)) (nomark _)))))
    (pss_one (ps_ret pe_non))
    pss_nil)
  (pss_cons (ps_set (i := 4) sc_signed_pieces.nd rfl (.inl rfl) (pe_lst (pa_cons (pe_tup (pa_cons (pv 2) (pa_cons (pe_ix ix_list (pv 3) pe_int (fun _ _ => rfl)) pa_nil))) pa_nil)))
  (pss_cons (ps_for PassesOwn.never rfl (p_zipA (K := K) (by rfl) T.zip (pa_cons (pe_stepL (a := 1) (c := 2) (by decide) (pv 3)) (pa_cons (pe_stepL (a := 2) (c := 2) (by decide) (pv 3)) pa_nil))) (g_tup (K := K) (n := 2) rfl (pgs_cons (pg_name (i := 5) sc_signed_pieces.nd rfl (.inl rfl)) (pgs_cons (pg_name (i := 6) sc_signed_pieces.nd rfl (.inl rfl)) pgs_nil)))
    (pss_cons (ps_if (PW.pt (pw_and (pt_cmpR op_ne (pv 5) pe_str (nomark _)) (pw_and1 (pt_cmpR op_ne (pv 5) pe_str (nomark _)))))
      (pss_one (ps_ret pe_non))
      pss_nil)
    (pss_one (ps_expr (pe_bm PySem.F.plainAttrs_list PySem.F.slot_list_append PySem.F.type_list_append mt_append (pv 4) (pa_cons (pe_tup (pa_cons (pe_ifExp (pt_cmpR op_eq (pv 5) pe_str (nomark _)) (pe_un un_neg pe_int) pe_int) (pa_cons (pv 6) pa_nil))) pa_nil))))))
  (pss_one (ps_ret (pv 4)))))))), ?_⟩
    refine ⟨.str x, rfl, rfl, x, _, rfl, rfl, _, rfl, ite2 (fun z => ?_) (fun z => ?_)⟩
    case' refine_2.refine_1 =>
      have hm : sgM x = -1 := if_pos z
      have hb : sgB x = cutS x (some 1) none := if_pos z
      refine ⟨1, rfl, .int (-1), rfl, 1, rfl, rfl, _, rfl, iteT ?_⟩
      refine ⟨.str x, rfl, 1, rfl, x, rfl, lz, ?_⟩
      rw [← hb]
      have bl : (sgB x).length ≤ x.length := by rw [hb]; exact cutS_le _ _ _
      refine ⟨⟨_, rfl⟩, _, _, rfl, rfl, by decide +kernel, by rw [sizeLine_eq]; omega, fun L eL => ?_⟩
      clear z hb
    case' refine_2.refine_2 =>
      have hm : sgM x = 1 := if_neg z
      have hb : sgB x = x := if_neg z
      refine ⟨.int 1, rfl, 1, rfl, rfl, _, rfl, iteF ?_⟩
      refine ⟨.str x, rfl, ?_⟩
      have bl : (sgB x).length ≤ x.length := by rw [hb]; exact Nat.le_refl _
      rw [show V.str x = V.str (sgB x) from congrArg V.str hb.symm]
      refine ⟨⟨_, rfl⟩, _, _, rfl, rfl, by decide +kernel, by rw [sizeLine_eq]; omega, fun L eL => ?_⟩
      clear z hb
    all_goals
      have sL := same_upd (o := .lst ((Txt.split (sgB x) " ").map V.str)) eL
      have hL : sgL x most = (match Txt.split (sgB x) " " with
        | [] => none
        | p :: r => if r.length % 2 = 0 ∧ r.length + 1 < 2 * most ∧ (pairsOf r).all sgOk = true then some ((sgM x, p) :: (pairsOf r).map sgV) else none) := rfl
      generalize Txt.split (sgB x) " " = xs at sL hL ⊢
      refine ⟨.ref L, rfl, L, _, rfl, .inl (SqL.of upd_same), _, 2, rfl, rfl, by show (0 : Int) < 2; decide, rfl, _, rfl, ite2 (fun z => ?_) (fun z => ⟨.ref L, rfl, L, _, rfl, .inl (SqL.of upd_same), .int most, rfl, 2, most, rfl, rfl, .inl ⟨by decide, by decide⟩, _, _, rfl, rfl, _, rfl, ite2 (fun z2 => ?_) (fun z2 => ?_)⟩)⟩
      all_goals
        have ln : (xs.map V.str).length = xs.length := List.length_map _
        have hN : (xs.length % 2 = 0 ∨ 2 * most ≤ xs.length) → sgL x most = none := by
          intro h
          rw [hL]
          clear hL z sL
          cases xs with
          | nil => rfl
          | cons p r => exact if_neg fun c => by rw [List.length_cons] at h; omega
      · refine q0 (hN (.inl ?_)) _ sL
        have z := V.int.inj (of_decide_eq_true z)
        rw [ln] at z
        omega
      · refine q0 (hN (.inr ?_)) _ sL
        have z2 := of_decide_eq_true z2
        rw [ln] at z2
        omega
      · have o1 : xs.length % 2 ≠ 0 := fun h => z (decide_eq_true (congrArg V.int (by show (((xs.map V.str).length : Nat) : Int) % 2 = 0; rw [ln]; omega)))
        have o2 : xs.length < 2 * most := Nat.lt_of_not_le fun h => z2 (decide_eq_true (by rw [ln]; omega))
        clear z z2 hN ln
        obtain ⟨p, r, rfl⟩ : ∃ p r, xs = p :: r := by
          cases xs with
          | nil => exact absurd rfl o1
          | cons p r => exact ⟨p, r, rfl⟩
        rw [List.length_cons] at o1 o2
        refine ⟨_, rfl, .ref L, rfl, L, _, 0, .str p, rfl, rfl, SqL.of upd_same, at0 _ _, by show 2 ≤ sizeLine; decide, fun t et => ⟨by show 1 ≤ sizeLine; decide, fun D eD => ?_⟩⟩
        have st := same_upd (o := .tup [.int (sgM x), .str p]) et
        rw [hm] at st
        have sD := same_upd (o := .lst [.ref t]) eD
        have eD0 : H D = none := (sL.trans st).free eD
        have e12 : stepL 1 2 ((p :: r).map V.str) = (evens r).map V.str := by rw [List.map_cons, stepL_12, evens_map]
        have e22 : stepL 2 2 ((p :: r).map V.str) = (odds r).map V.str := by rw [List.map_cons, stepL_22, odds_map]
        refine ⟨.ref L, rfl, L, _, rfl, SqL.of (sD _ _ (st _ _ upd_same)), fun a ea => ?_⟩
        have sa := same_upd (o := .lst (stepL 1 2 ((p :: r).map V.str))) ea
        refine ⟨.ref L, rfl, L, _, rfl, SqL.of (sa _ _ (sD _ _ (st _ _ upd_same))), fun b eb => ?_⟩
        have sb := same_upd (o := .lst (stepL 2 2 ((p :: r).map V.str))) eb
        have ha := sb _ _ (upd_same (H := _) (a := a) (o := .lst (stepL 1 2 ((p :: r).map V.str))))
        replace ha := ha.trans (congrArg (fun l => some (HO.lst l)) e12)
        have nDa : D ≠ a := ne_of_none upd_same ea
        have nDb : D ≠ b := ne_of_none (sa _ _ upd_same) eb
        have s0 := (((sL.trans st).trans sD).trans sa).trans sb
        refine Exists.intro a (Exists.intro b (Exists.intro ((evens r).map V.str) (Exists.intro ((odds r).map V.str) (And.intro rfl (Or.inl (And.intro (SqL.of ha) (And.intro ?_ ?_)))))))
        · rw [← e22]
          exact SqL.of upd_same
        refine for_it (walk_zip (K := K) (a := a) (b := b) (xs := (evens r).map V.str) (ys := (odds r).map V.str) (n := (pairsOf r).length) (by rw [List.length_map, List.length_map, pairs_len])) (fun i σ H' => ∃ (w0 w1 w2 w3 y5 y6 : Option V) (ts : List Addr), σ = [w0, w1, w2, w3, some (.ref D), y5, y6] ∧ H' D = some (.lst (ts.map V.ref)) ∧ SgsAt H' ts ((sgM x, p) :: ((pairsOf r).take i).map sgV) ∧ Same H H' ∧ H' a = some (.lst ((evens r).map V.str)) ∧ H' b = some (.lst ((odds r).map V.str)) ∧ ((pairsOf r).take i).all sgOk = true)
          ⟨_, _, _, _, _, _, [t], rfl, sb _ _ (sa _ _ upd_same), ?_, s0, ha, by rw [← e22]; exact upd_same, rfl⟩ (fun i σ H' _ ⟨_, _, _, _, _, _, _, _, _, _, _, a1, b1, _⟩ => ⟨SqL.of a1, SqL.of b1⟩) ?_ ?_
        · refine ⟨rfl, fun j c e => ?_⟩
          cases j with
          | succ j => simp at e
          | zero =>
            cases e
            refine ⟨t, rfl, sb _ _ (sa _ _ (sD _ _ ?_))⟩
            rw [hm]
            exact upd_same
        · rintro i x' σ H1 H1' hi ⟨w0, w1, w2, w3, y5, y6, ts, rfl, e1, hS, s1, a1, b1, ok1⟩ ⟨t', v, u, rfl, et', rfl, hv, hu⟩
          replace hv : ((evens r).map V.str)[i]? = some v := hv
          replace hu : ((odds r).map V.str)[i]? = some u := hu
          rw [List.getElem?_map] at hv hu
          obtain ⟨sg, hsg, rfl⟩ := Option.map_eq_some_iff.mp hv
          obtain ⟨pc, hpc, rfl⟩ := Option.map_eq_some_iff.mp hu
          have hp := pairs_at hsg hpc
          have st' := same_upd (o := .tup [.str sg, .str pc]) et'
          have tk : (pairsOf r).take (i + 1) = (pairsOf r).take i ++ [(sg, pc)] := by rw [List.take_succ, hp]; rfl
          refine ⟨t', _, rfl, SqT.of upd_same, rfl, _, _, rfl, _, _, rfl, rfl, ?_⟩
          have lts : (ts.map V.ref).length < sizeLine := by
            rw [List.length_map, hS.1, List.length_cons, List.length_map, List.length_take, sizeLine_eq]
            have := pairs_len r
            have := evens_len r
            omega
          have bad : sgOk (sg, pc) = false → sgL x most = none := fun hb => by
            rw [hL]
            refine if_neg fun c => ?_
            have := List.all_eq_true.mp c.2.2 _ (List.mem_of_getElem? hp)
            rw [hb] at this
            cases this
          have fin : ∀ (w : Int) (T : Addr), w = (sgV (sg, pc)).1 → sgOk (sg, pc) = true → (upd H1 t' (.tup [.str sg, .str pc])) T = none →
              ∀ H2, H2 = upd (upd (upd H1 t' (.tup [.str sg, .str pc])) T (.tup [.int w, .str pc])) D (.lst (ts.map V.ref ++ [.ref T])) →
              H2 D = some (.lst ((ts ++ [T]).map V.ref)) ∧ SgsAt H2 (ts ++ [T]) ((sgM x, p) :: ((pairsOf r).take (i + 1)).map sgV) ∧ Same H H2 ∧ H2 a = some (.lst ((evens r).map V.str)) ∧ H2 b = some (.lst ((odds r).map V.str)) ∧ ((pairsOf r).take (i + 1)).all sgOk = true := by
            rintro w T rfl hok eT H2 rfl
            have sT := same_upd (o := .tup [.int (sgV (sg, pc)).1, .str pc]) eT
            have eDT := sT _ _ (st' _ _ e1)
            refine ⟨by rw [upd_same, List.map_append]; rfl, ?_, Same.updN ((s1.trans st').trans sT) eD0, by rw [upd_ne (Ne.symm nDa)]; exact sT _ _ (st' _ _ a1), by rw [upd_ne (Ne.symm nDb)]; exact sT _ _ (st' _ _ b1), ?_⟩
            · rw [tk, List.map_append, ← List.cons_append]
              have kp : ∀ c xs, (upd (upd H1 t' (.tup [.str sg, .str pc])) T (.tup [.int (sgV (sg, pc)).1, .str pc])) c = some (.tup xs) → (upd (upd (upd H1 t' (.tup [.str sg, .str pc])) T (.tup [.int (sgV (sg, pc)).1, .str pc])) D (.lst (ts.map V.ref ++ [.ref T]))) c = some (.tup xs) := fun c xs e => by
                rw [upd_ne fun h => ?_]
                · exact e
                · rw [h, eDT] at e
                  cases e
              exact ((hS.keep fun c xs e => sT _ _ (st' _ _ e)).keep kp).snoc (kp _ _ upd_same)
            · rw [tk, List.all_append, ok1]
              show (true && (sgOk (sg, pc) && true)) = true
              rw [hok]
              rfl
          refine ⟨.str sg, rfl, rfl, _, rfl, ite2 (fun z1 => ?_) (fun z1 => ?_)⟩
          · have k1 : sg ≠ "+" := fun h => by
              rw [h] at z1
              simp at z1
            refine ⟨.str sg, rfl, rfl, _, rfl, ite2 (fun z2 => ?_) (fun z2 => ?_)⟩
            · have k2 : sg ≠ "-" := fun h => by
                rw [h] at z2
                simp at z2
              exact q0 (bad (by simp [sgOk, k1, k2])) _ (s1.trans st')
            · have k2 : sg = "-" := Classical.byContradiction fun h => z2 (by simp [h])
              refine ⟨.ref D, rfl, .inl ⟨rfl, _, SqL.of (st' _ _ e1)⟩, .str sg, rfl, rfl, _, rfl, ite2 (fun z3 => ?_) (fun z3 => absurd (decide_eq_true (congrArg V.str k2)) z3)⟩
              refine ⟨1, rfl, .str pc, rfl, by show 2 ≤ sizeLine; decide, fun T eT => ?_⟩
              refine ⟨D, _, _, rfl, rfl, same_upd eT _ _ (st' _ _ e1), lts, ?_⟩
              obtain ⟨f1, f2, f3, f4, f5, f6⟩ := fin (-1) T (by rw [k2]; rfl) (by rw [k2]; rfl) eT _ rfl
              exact ⟨_, _, _, _, _, _, ts ++ [T], rfl, f1, f2, f3, f4, f5, f6⟩
          · have k1 : sg = "+" := Classical.byContradiction fun h => z1 (by simp [h])
            refine ⟨.ref D, rfl, .inl ⟨rfl, _, SqL.of (st' _ _ e1)⟩, .str sg, rfl, rfl, _, rfl, ite2 (fun z3 => ?_) (fun z3 => ?_)⟩
            · have z3 : sg = "-" := V.str.inj (of_decide_eq_true z3)
              rw [k1] at z3
              exact absurd z3 (by decide +kernel)
            refine ⟨.str pc, rfl, by show 2 ≤ sizeLine; decide, fun T eT => ?_⟩
            refine ⟨D, _, _, rfl, rfl, same_upd eT _ _ (st' _ _ e1), lts, ?_⟩
            obtain ⟨f1, f2, f3, f4, f5, f6⟩ := fin 1 T (by rw [k1]; rfl) (by rw [k1]; rfl) eT _ rfl
            exact ⟨_, _, _, _, _, _, ts ++ [T], rfl, f1, f2, f3, f4, f5, f6⟩
        · rintro σ H1 ⟨w0, w1, w2, w3, y5, y6, ts, rfl, e1, hS, s1, a1, b1, ok1⟩
          rw [List.take_length] at hS ok1
          refine ⟨.ref D, rfl, q1 _ ?_ D ts H1 s1 eD0 e1 hS⟩
          rw [hL]
          exact if_pos ⟨by omega, o2, ok1⟩
end
end Bw
set_option Elab.async false
set_option linter.all false
set_option maxRecDepth 100000
set_option maxHeartbeats 8000000
namespace Bw
open PySem PySem.Spec PyProof.Rows L2 TL
theorem spl_le (S : List Nat) : ∀ (l : List Nat) (k : Nat) (acc : List Nat), ∀ q ∈ spl S k acc l, q.length ≤ acc.length + l.length
  | [], k, acc, q, h => by
    rw [spl_nil] at h
    rw [List.mem_singleton.mp h]
    exact Nat.le_add_right _ _
  | c :: r, 0, acc, q, h => by
    rw [List.length_cons]
    rw [show spl S 0 acc (c :: r) = (if pre S (c :: r) = true then acc :: spl S (S.length - 1) [] r else spl S 0 (acc ++ [c]) r) from rfl] at h
    split at h
    · rcases List.mem_cons.mp h with rfl | h
      · omega
      · have := spl_le S r _ _ q h
        rw [List.length_nil] at this
        omega
    · have := spl_le S r _ _ q h
      rw [List.length_append, List.length_singleton] at this
      omega
  | c :: r, k + 1, acc, q, h => by
    rw [List.length_cons]
    have := spl_le S r k acc q h
    omega
theorem split_le {x y q : Str} (hy : tl y ≠ []) (hk : y.cps.all (· < 256) = true) (h : q ∈ Txt.split x y) : q.length ≤ x.length := by
  have e := spl_le (tl y) (tl x) 0 [] (tl q) (by rw [← split_spl x y hy (kind_ok hk)]; exact List.mem_map_of_mem h)
  have h1 : (tl q).length = q.length := Array.length_toList
  have h2 : (tl x).length = x.length := Array.length_toList
  rw [h1, h2, List.length_nil] at e
  omega
theorem pairsOf_mem {α : Type} : ∀ {r : List α} {a b : α}, (a, b) ∈ pairsOf r → b ∈ r
  | [], _, _, h => nomatch h
  | [_], _, _, h => nomatch h
  | x :: y :: r, a, b, h => by
    rcases List.mem_cons.mp h with h | h
    · rw [(Prod.mk.inj h).2]
      exact .tail _ (.head _)
    · exact .tail _ (.tail _ (pairsOf_mem h))
theorem sgB_le (x : Str) : (sgB x).length ≤ x.length := by
  unfold sgB
  split
  · exact cutS_le _ _ _
  · exact Nat.le_refl _
/-- what signed_pieces gives: signs of 1 and -1, texts no longer than the text -/
theorem sgL_ok {x : Str} {most : Nat} {l : List (Int × Str)} (h : sgL x most = some l) : l.length ≤ most ∧ ∀ a ∈ l, (a.1 = 1 ∨ a.1 = -1) ∧ a.2.length ≤ x.length := by
  unfold sgL at h
  have hs : ∀ q ∈ Txt.split (sgB x) " ", q.length ≤ x.length := fun q hq => Nat.le_trans (split_le (by decide +kernel) (by decide +kernel) hq) (sgB_le x)
  generalize Txt.split (sgB x) " " = xs at h hs
  cases xs with
  | nil => cases h
  | cons p r =>
    dsimp only at h
    split at h
    · next c =>
      cases h
      refine ⟨?_, fun a ha => ?_⟩
      · rw [List.length_cons, List.length_map, pairs_len]
        have h1 : ∀ r : List Str, 2 * (odds r).length ≤ r.length := by
          intro r
          induction r using odds.induct with
          | case1 => exact Nat.le_refl _
          | case2 => exact Nat.zero_le _
          | case3 a b r ih =>
            show 2 * ((odds r).length + 1) ≤ r.length + 1 + 1
            omega
        have := h1 r
        omega
      · rcases List.mem_cons.mp ha with rfl | ha
        · refine ⟨?_, hs _ (.head _)⟩
          unfold sgM
          split
          · exact .inr rfl
          · exact .inl rfl
        · obtain ⟨⟨u, v⟩, hu, rfl⟩ := List.mem_map.mp ha
          refine ⟨?_, hs _ (.tail _ (pairsOf_mem hu))⟩
          unfold sgV
          dsimp only
          split
          · exact .inr rfl
          · exact .inl rfl
    · cases h
end Bw
set_option Elab.async false
set_option linter.all false
set_option maxRecDepth 100000
set_option maxHeartbeats 8000000
namespace Bw
open PySem PySem.Spec PyProof.Rows L2
def rpOk (n : Nat) (a : Int × Str) : Bool := (rdP a.2 n).isSome
def rpV (n : Nat) (a : Int × Str) : Tm := match rdP a.2 n with
  | some (ps, c) => (ps, a.1 * c)
  | none => ([], 0)
/-- the products read from a text -/
def rpL (x : Str) (n most : Nat) : Option (List Tm) := match sgL x most with
  | none => none
  | some l => if l.all (rpOk n) = true then some (l.map (rpV n)) else none
section
variable {P : Program} {w : World} {K : PySem.W.Frag} {mg : Str → Option Value} {base : Heap}
abbrev s_read_products : Stmt := topS 30
abbrev n_read_products : List Str := ["text", "width", "most", "signed", "read", "sign", "piece", "product", "powers", "count"]
theorem sc_read_products : FnScope n_read_products ["text", "width", "most"] (defScope s_read_products) := ⟨rfl, rfl, rfl, by decide +kernel, rfl, by decide +kernel, by decide +kernel⟩
def spRps : Sp := fun vs H Q _ => ∃ (x : Str) (n most : Nat), vs = [.str x, .int n, .int most] ∧ x.length ≤ 10000 ∧ n ≤ 26 ∧ 0 < most ∧ most ≤ 1000 ∧ (rpL x n most = none → ∀ H', Same H H' → Q .non H') ∧ (∀ r, rpL x n most = some r → ∀ (D : Addr) (ts : List Addr) (H' : Hp), Same H H' → H D = none → H' D = some (.lst (ts.map V.ref)) → TermsAt H' ts r → Q (.ref D) H')
theorem ok_readproducts {f : Addr} {fd : FuncData} (F : Fun K "read_products" "read_products" s_read_products f fd) (T : Tx mg) (c_signed_pieces : Cal P w K mg base CX0 1 "signed_pieces" ["text", "most"] spSgn) (c_read_product : Cal P w K mg base CX0 4 "read_product" ["text", "width"] spRdP) : FnOk P w K mg base CX0 5 f fd ["text", "width", "most"] spRps := by
  refine F.ok sc_read_products (fun vs H Q E h => ?_) (fun cdv A outer s H vs Q E hr h => ?_)
  · obtain ⟨x, n, m, rfl, _⟩ := h
    rfl
  · obtain ⟨x, n, most, rfl, lx, n26, m0, m1, q0, q1⟩ := h
    refine ⟨_, (pss_cons (ps_set (i := 3) sc_read_products.nd rfl (.inl rfl) (pe_cal c_signed_pieces (hr.mono (by decide)) (by rfl) (pa_cons (pv 0) (pa_cons (pv 2) pa_nil))))
  (pss_cons (ps_if (pt_cmpR op_isN (pv 3) pe_non (nomark _))
    (pss_one (ps_ret pe_non))
    pss_nil)
  (pss_cons (ps_set (i := 4) sc_read_products.nd rfl (.inl rfl) (pe_lst pa_nil))
  (pss_cons (ps_for PassesOwn.never rfl (p_list (K := K) (pv 3)) (g_tup (K := K) (n := 2) rfl (pgs_cons (pg_name (i := 5) sc_read_products.nd rfl (.inl rfl)) (pgs_cons (pg_name (i := 6) sc_read_products.nd rfl (.inl rfl)) pgs_nil)))
    (pss_cons (ps_set (i := 7) sc_read_products.nd rfl (.inl rfl) (pe_cal c_read_product (hr.mono (by decide)) (by rfl) (pa_cons (pv 6) (pa_cons (pv 1) pa_nil))))
    (pss_cons (ps_if (pt_cmpR op_isN (pv 7) pe_non (nomark _))
      (pss_one (ps_ret pe_non))
      pss_nil)
    (pss_cons (ps_asg (pv 7) (g_tup (K := K) (n := 2) rfl (pgs_cons (pg_name (i := 8) sc_read_products.nd rfl (.inl rfl)) (pgs_cons (pg_name (i := 9) sc_read_products.nd rfl (.inl rfl)) pgs_nil))))
    (pss_one (ps_expr (pe_bm PySem.F.plainAttrs_list PySem.F.slot_list_append PySem.F.type_list_append mt_append (pv 4) (pa_cons (pe_tup (pa_cons (pv 8) (pa_cons (pe_op op_mul (pv 5) (pv 9)) pa_nil))) pa_nil))))))))
  (pss_one (ps_ret (pv 4))))))), ?_⟩
    refine ⟨.str x, rfl, .int most, rfl, x, most, rfl, lx, m0, m1, fun hn H1 s1 => ?_, fun l hl S us H1 s1 S0 eS hU => ?_⟩
    · refine ⟨_, rfl, rfl, _, rfl, iteT ?_⟩
      exact q0 (by unfold rpL; rw [hn]) H1 s1
    · refine ⟨_, rfl, rfl, _, rfl, iteF ?_⟩
      have hR : rpL x n most = if l.all (rpOk n) = true then some (l.map (rpV n)) else none := by unfold rpL; rw [hl]
      obtain ⟨ll, hok⟩ := sgL_ok hl
      refine ⟨Nat.zero_le _, fun D eD => ?_⟩
      have sD := same_upd (o := .lst []) eD
      have eD0 : H D = none := s1.free eD
      refine ⟨.ref S, rfl, S, rfl, ⟨_, SqL.of (sD _ _ eS)⟩, ?_⟩
      refine for_list (K := K) (a := S) (xs := us.map V.ref) (fun i σ H' => ∃ (y5 y6 y7 y8 y9 : Option V) (ts : List Addr), σ = [some (.str x), some (.int n), some (.int most), some (.ref S), some (.ref D), y5, y6, y7, y8, y9] ∧ H' D = some (.lst (ts.map V.ref)) ∧ TermsAt H' ts ((l.take i).map (rpV n)) ∧ Same H1 H' ∧ (l.take i).all (rpOk n) = true)
        ⟨none, none, none, none, none, [], rfl, upd_same, .nil, sD, rfl⟩ (fun i σ H' _ ⟨_, _, _, _, _, _, _, _, _, s, _⟩ => SqL.of (s _ _ eS)) ?_ ?_
      · rintro i x' σ H2 hx ⟨y5, y6, y7, y8, y9, ts, rfl, e1, hT, s2, ok1⟩
        rw [List.getElem?_map] at hx
        obtain ⟨t, et, rfl⟩ := Option.map_eq_some_iff.mp hx
        have hi : i < l.length := by
          have := (List.getElem?_eq_some_iff.mp et).1
          rw [hU.1] at this
          exact this
        have ea := List.getElem?_eq_getElem hi
        generalize l[i] = a at ea
        obtain ⟨t2, et2, eA⟩ := hU.2 i a ea
        have : t2 = t := Option.some.inj (et2.symm.trans et)
        subst this
        obtain ⟨ha1, ha2⟩ := hok a (List.mem_of_getElem? ea)
        obtain ⟨sg, pc⟩ := a
        have tk : l.take (i + 1) = l.take i ++ [(sg, pc)] := by rw [List.take_succ, ea]; rfl
        refine ⟨t2, _, rfl, SqT.of (s2 _ _ eA), rfl, _, _, rfl, _, _, rfl, rfl, ?_⟩
        refine ⟨.str pc, rfl, .int n, rfl, pc, n, rfl, Nat.le_trans ha2 lx, n26, fun hn H3 s3 => ?_, fun ps c hs p t3 H3 s3 t0 ep et3 => ?_⟩
        · refine ⟨_, rfl, rfl, _, rfl, iteT ?_⟩
          refine q0 ?_ _ ((s1.trans s2).trans s3)
          rw [hR]
          refine if_neg fun c => ?_
          have := List.all_eq_true.mp c _ (List.mem_of_getElem? ea)
          unfold rpOk at this
          rw [hn] at this
          cases this
        · refine ⟨_, rfl, rfl, _, rfl, iteF ?_⟩
          have lts : (ts.map V.ref).length < sizeLine := by
            rw [List.length_map, hT.1, List.length_map, List.length_take, sizeLine_eq]
            omega
          refine ⟨.ref t3, rfl, t3, _, rfl, SqT.of et3, rfl, _, _, rfl, _, _, rfl, rfl, ?_⟩
          refine ⟨.ref D, rfl, .inl ⟨rfl, _, SqL.of (s3 _ _ e1)⟩, .ref p, rfl, .int sg, rfl, .int c, rfl, sg, c, rfl, rfl, .inl (by rcases ha1 with h | h <;> (dsimp only at h; subst h; decide)), by show 2 ≤ sizeLine; decide, fun U eU => ?_⟩
          have sU := same_upd (o := .tup [.ref p, .int (sg * c)]) eU
          have eDU := sU _ _ (s3 _ _ e1)
          refine ⟨D, _, _, rfl, rfl, eDU, lts, ?_⟩
          refine ⟨_, _, _, _, _, ts ++ [U], rfl, by rw [upd_same, List.map_append]; rfl, ?_, Same.updN ((s2.trans s3).trans sU) eD, ?_⟩
          · rw [tk, List.map_append]
            refine (((hT.same s3).same sU).snoc ?_).put eDU
            refine ⟨p, ?_, ?_⟩
            · rw [upd_same]
              show _ = some (HO.tup [V.ref p, V.int (rpV n (sg, pc)).2])
              rw [show rpV n (sg, pc) = (ps, sg * c) by unfold rpV; rw [hs]]
            · rw [show rpV n (sg, pc) = (ps, sg * c) by unfold rpV; rw [hs]]
              exact sU _ _ ep
          · rw [tk, List.all_append, ok1]
            show (true && (rpOk n (sg, pc) && true)) = true
            rw [show rpOk n (sg, pc) = true by unfold rpOk; rw [hs]; rfl]
            rfl
      · rintro σ H2 ⟨y5, y6, y7, y8, y9, ts, rfl, e1, hT, s2, ok1⟩
        rw [List.length_map, hU.1, List.take_length] at hT ok1
        refine ⟨.ref D, rfl, q1 _ ?_ D ts H2 (s1.trans s2) eD0 e1 hT⟩
        rw [hR, if_pos ok1]
end
end Bw
set_option Elab.async false
set_option linter.all false
set_option maxRecDepth 100000
set_option maxHeartbeats 8000000
namespace Bw
open PySem PySem.Spec PyProof.Rows L2 TL
/-! ### texts as lists of signs: what is written is read back -/
theorem isFig_iff (c : Nat) : isFig c = true ↔ 48 ≤ c ∧ c ≤ 57 := by
  refine ⟨fig_bounds c, fun h => ?_⟩
  have e : (("0123456789" : Str)).cps.toList = [48, 49, 50, 51, 52, 53, 54, 55, 56, 57] := by decide +kernel
  unfold isFig
  rw [e]
  refine decide_eq_true ?_
  simp only [List.mem_cons, List.not_mem_nil, or_false]
  omega
theorem numL_fig (n : Nat) : ∀ c ∈ numL n, isFig c = true := fun c hc => (isFig_iff c).mpr (numL_digits n c hc)
theorem tl_numT (n : Nat) : tl (numT (n : Int)) = numL n := tl_num n
theorem tl_numN {v : Int} (h : v < 0) : tl (numT v) = 45 :: numL v.natAbs := by
  obtain ⟨m, rfl⟩ : ∃ m : Nat, v = -((m + 1 : Nat) : Int) := ⟨v.natAbs - 1, by omega⟩
  have e : (-((m + 1 : Nat) : Int)).natAbs = m + 1 := by omega
  rw [e]
  have h1 := tl_num (m + 1)
  rw [tl_ofString] at h1
  unfold numT
  rw [tl_ofString]
  have h2 : toString (-((m + 1 : Nat) : Int)) = "-" ++ toString ((m + 1 : Nat) : Int) := rfl
  rw [h2, String.toList_append, List.map_append, h1]
  rfl
theorem tl_numP {v : Int} (h : 0 ≤ v) : tl (numT v) = numL v.natAbs := by
  obtain ⟨m, rfl⟩ : ∃ m : Nat, v = (m : Int) := ⟨v.natAbs, by omega⟩
  exact tl_num m
/-! ### the tests at a place -/
theorem s3_eq {x y : Str} (hy : tl y ≠ []) {k : Nat} (hk : k ≤ x.length) : Txt.startswith3 x y (k : Int) = pre (tl y) ((tl x).drop k) := by
  have e : PySem.fromIndex x.length (k : Int) = k := by
    unfold PySem.fromIndex
    split
    · omega
    · omega
  have h := at_iff (x := x) hy k
  unfold Txt.startswith3
  rw [e]
  refine Bool.eq_iff_iff.mpr ?_
  rw [← h, Bool.and_eq_true, decide_eq_true_iff]
  exact Iff.rfl
theorem s1_eq (x : Str) : Txt.startswith x "-" = pre [45] (tl x) := by
  have h := at_iff (x := x) (y := "-") (by decide +kernel) 0
  rw [List.drop_zero] at h
  unfold Txt.startswith
  refine Bool.eq_iff_iff.mpr ?_
  rw [show ([45] : List Nat) = tl ("-" : Str) by decide +kernel, ← h, Bool.and_eq_true, decide_eq_true_iff]
  show _ ↔ 0 + _ ≤ _ ∧ _
  rw [Nat.zero_add]
theorem pre1 (c : Nat) (l : List Nat) : pre [c] l = true ↔ ∃ r, l = c :: r := by
  cases l with
  | nil => exact ⟨fun h => (by cases h), fun ⟨r, h⟩ => nomatch h⟩
  | cons a r =>
    constructor
    · intro h
      have h : [a] = [c] := eq_of_beq h
      injection h with h
      exact ⟨r, by rw [h]⟩
    · rintro ⟨r', h⟩
      injection h with h
      subst h
      show ([a] == [a]) = true
      exact beq_self_eq_true _
theorem pre1_no {c : Nat} {l : List Nat} (h : ∀ a r, l = a :: r → a ≠ c) : pre [c] l = false := by
  cases e : pre [c] l with
  | false => rfl
  | true =>
    obtain ⟨r, hr⟩ := (pre1 c l).mp e
    exact absurd rfl (h _ _ hr)
/-- what stands ahead of a text is no figure -/
def NoFig (l : List Nat) : Prop := ∀ a r, l = a :: r → isFig a = false
theorem tw_app {D L : List Nat} (hD : ∀ c ∈ D, isFig c = true) (hL : NoFig L) : (D ++ L).takeWhile isFig = D := by
  induction D with
  | nil =>
    cases L with
    | nil => rfl
    | cons a r =>
      show (a :: r).takeWhile isFig = []
      rw [List.takeWhile_cons, hL a r rfl]
      rfl
  | cons d D ih =>
    rw [List.cons_append, List.takeWhile_cons, hD d (.head _), if_pos rfl, ih fun c hc => hD c (.tail _ hc)]
theorem tl_cut (x : Str) {a n : Nat} (h : a + n ≤ x.length) : tl (cutS x (some (a : Int)) (some ((a + n : Nat) : Int))) = ((tl x).drop a).take n := by
  unfold cutS
  rw [HT.sIx_nat, HT.sIx_nat]
  show (((tl x).drop _).take _) = _
  rw [Nat.min_eq_left (show a ≤ x.length by omega)]
  congr 1
  omega
theorem tl_cutEnd (x : Str) {a : Nat} (h : a ≤ x.length) : tl (cutS x (some (a : Int)) none) = (tl x).drop a := by
  unfold cutS
  rw [HT.sIx_nat, HT.sIx_none]
  show (((tl x).drop _).take _) = _
  rw [Nat.min_eq_left h]
  refine List.take_of_length_le ?_
  rw [List.length_drop, ← len_tl]
  exact Nat.le_refl _
/-! ### a number read back -/
theorem figs_num (v : Int) : tl (figs (numT v)) = numL v.natAbs := by
  unfold figs
  rw [s1_eq]
  by_cases h : v < 0
  · rw [tl_numN h, if_pos ((pre1 45 _).mpr ⟨_, rfl⟩)]
    exact cut1 (tl_numN h)
  · rw [if_neg]
    · exact tl_numP (by omega)
    · rw [tl_numP (by omega)]
      intro c
      obtain ⟨r, hr⟩ := (pre1 45 _).mp c
      have := numL_digits v.natAbs 45 (by rw [hr]; exact .head _)
      omega
theorem lead_all {x : Str} (h : ∀ c ∈ tl x, isFig c = true) : lead x = x.length := by
  unfold lead
  have := tw_app (D := tl x) (L := []) h (fun a r e => nomatch e)
  rw [List.append_nil] at this
  rw [this, ← len_tl]
theorem readN_num {v : Int} {m : Nat} (m0 : 0 < m) (hm : m ≤ 30) (h : v.natAbs < 10 ^ m) : readN (numT v) m = some v := by
  have hf := figs_num v
  have hl := numL_len m0 h
  have hn : 0 < (numL v.natAbs).length := List.length_pos_iff.mpr (numL_ne _)
  have lf : (figs (numT v)).length = (numL v.natAbs).length := by rw [len_tl, hf]
  have hk : numOk (numT v) m := by
    refine ⟨?_, by omega, by omega⟩
    refine ext_tl ?_
    have := lead_all (x := figs (numT v)) (by rw [hf]; exact numL_fig _)
    rw [this]
    have e := tl_cut (figs (numT v)) (a := 0) (n := (figs (numT v)).length) (by omega)
    rw [Nat.zero_add] at e
    refine e.trans ?_
    rw [List.drop_zero]
    exact List.take_of_length_le (by rw [← len_tl]; exact Nat.le_refl _)
  have hi : intText? (numT v) = some v := by
    by_cases hv : v < 0
    · rw [intText_neg (tl_numN hv) (numL_digits _) (numL_ne _) (by rw [len_tl, tl_numN hv, List.length_cons]; omega), numL_val]
      congr 1
      omega
    · have e : (numT v).cps.toList = numL v.natAbs := tl_numP (show 0 ≤ v by omega)
      rw [intText_digits (by rw [e]; exact numL_digits _) (by rw [e]; exact numL_ne _) (by rw [len_tl, show tl (numT v) = numL v.natAbs from e]; omega), e, numL_val]
      congr 1
      omega
  unfold readN
  rw [if_pos hk, hi]
  show (if numT v = numT v then some v else none) = some v
  rw [if_pos rfl]
/-! ### the letters of a product, as signs -/
def pwS (i : Nat) (v : Int) : List Nat := if v = 1 then [97 + i] else if v = 0 then [] else (97 + i) :: 94 :: tl (numT v)
def Lq : List Int → Nat → List Nat
  | [], _ => []
  | v :: q, i => pwS i v ++ Lq q (i + 1)
theorem Lq_snoc : ∀ (q : List Int) (v : Int) (i : Nat), Lq (q ++ [v]) i = Lq q i ++ pwS (i + q.length) v
  | [], v, i => by
    show pwS i v ++ [] = [] ++ _
    rw [List.append_nil]
    rfl
  | u :: q, v, i => by
    show pwS i u ++ Lq (q ++ [v]) (i + 1) = (pwS i u ++ Lq q (i + 1)) ++ _
    rw [Lq_snoc q v (i + 1), List.append_assoc, List.length_cons, show i + 1 + q.length = i + (q.length + 1) by omega]
theorem tl_join0 (ys : List Str) (y : Str) : tl (Txt.join ("" : Str) (ys ++ [y])) = tl (Txt.join ("" : Str) ys) ++ tl y := by
  rw [join_snoc, tl_append]
theorem tl_letP (i : Nat) (v : Int) (ys : List Str) : tl (Txt.join ("" : Str) (ys ++ letP (97 + i) v)) = tl (Txt.join ("" : Str) ys) ++ pwS i v := by
  unfold letP pwS
  split
  · rw [tl_join0]
  · split
    · rw [List.append_nil, List.append_nil]
    · rw [tl_join0, tl_append, tl_append, tl_append]
      rfl
theorem tl_letN (p : List Int) : ∀ j, j ≤ p.length → tl (Txt.join ("" : Str) (letN p j)) = Lq (p.take j) 0
  | 0, _ => by
    rw [List.take_zero]
    show tl (Txt.join ("" : Str) []) = []
    rw [join_nil]
    rfl
  | j + 1, h => by
    have e : p[j]? = some p[j] := List.getElem?_eq_getElem (by omega)
    rw [letN_succ, tl_letP, tl_letN p j (by omega), List.take_succ, e, List.getD_eq_getElem?_getD, e]
    show _ = Lq (p.take j ++ [p[j]]) 0
    rw [Lq_snoc, List.length_take, Nat.min_eq_left (by omega), Nat.zero_add]
    rfl
theorem tl_letT (p : List Int) : tl (letT p) = Lq p 0 := by
  unfold letT
  rw [tl_letN p _ (Nat.le_refl _), List.take_length]
theorem Lq_head : ∀ (q : List Int) (i : Nat), ∀ a r, Lq q i = a :: r → 97 ≤ a ∧ a < 97 + i + q.length
  | [], i, a, r, h => nomatch h
  | v :: q, i, a, r, h => by
    rw [show Lq (v :: q) i = pwS i v ++ Lq q (i + 1) from rfl] at h
    unfold pwS at h
    rw [List.length_cons]
    split at h
    · injection h with h
      omega
    · split at h
      · have := Lq_head q (i + 1) a r h
        omega
      · injection h with h
        omega
theorem Lq_noFig (q : List Int) (i : Nat) : NoFig (Lq q i) := fun a r h => by
  cases e : isFig a with
  | false => rfl
  | true =>
    have := fig_bounds a e
    have := (Lq_head q i a r h).1
    omega
theorem numT_signs {v : Int} {c : Nat} (h : c ∈ tl (numT v)) : c = 45 ∨ (48 ≤ c ∧ c ≤ 57) := by
  by_cases hv : v < 0
  · rw [tl_numN hv] at h
    rcases List.mem_cons.mp h with h | h
    · exact .inl h
    · exact .inr (numL_digits _ c h)
  · rw [tl_numP (by omega)] at h
    exact .inr (numL_digits _ c h)
theorem Lq_free : ∀ (q : List Int) (i : Nat), (32 : Nat) ∉ Lq q i
  | [], i, h => nomatch h
  | v :: q, i, h => by
    rcases List.mem_append.mp (show (32 : Nat) ∈ pwS i v ++ Lq q (i + 1) from h) with h | h
    · unfold pwS at h
      split at h
      · have := List.mem_singleton.mp h
        omega
      · split at h
        · cases h
        · rcases List.mem_cons.mp h with h | h
          · omega
          · rcases List.mem_cons.mp h with h | h
            · omega
            · have := numT_signs h
              omega
    · exact Lq_free q (i + 1) h
/-! ### one power, where it stands -/
theorem find26 : ∀ i, i < 26 → findL (97 + i) = i := by decide +kernel
theorem end_one {x : Str} {k : Nat} {c : Nat} {r : List Nat} (h : (tl x).drop k = c :: r) (hr : ∀ a s, r = a :: s → a ≠ 94) : endP x (k + 1) = k + 1 := by
  have hk : k < x.length := by
    rw [len_tl]
    have := congrArg List.length h
    rw [List.length_drop, List.length_cons] at this
    omega
  have e : (tl x).drop (k + 1) = r := by
    rw [← List.drop_drop, h]
    rfl
  unfold endP
  rw [s3_eq (by decide +kernel) (by omega), show tl ("^" : Str) = [94] by decide +kernel, e, pre1_no hr]
  rfl
theorem end_num {x : Str} {k : Nat} {c : Nat} {v : Int} {L : List Nat} (h : (tl x).drop k = c :: 94 :: (tl (numT v) ++ L)) (hL : NoFig L) : endP x (k + 1) = k + 2 + (numT v).length := by
  have hk : k + 2 + ((numT v).length + L.length) = x.length := by
    rw [len_tl x, len_tl (numT v)]
    have := congrArg List.length h
    rw [List.length_drop, List.length_cons, List.length_cons, List.length_append] at this
    omega
  have e1 : (tl x).drop (k + 1) = 94 :: (tl (numT v) ++ L) := by
    rw [← List.drop_drop, h]
    rfl
  have e2 : (tl x).drop (k + 1 + 1) = tl (numT v) ++ L := by
    rw [← List.drop_drop, e1]
    rfl
  unfold endP
  rw [s3_eq (by decide +kernel) (by omega), show tl ("^" : Str) = [94] by decide +kernel, e1, if_pos ((pre1 94 _).mpr ⟨_, rfl⟩)]
  unfold begP
  rw [s3_eq (by decide +kernel) (by omega), show tl ("-" : Str) = [45] by decide +kernel, e2]
  unfold leadA
  by_cases hv : v < 0
  · have el := len_tl (numT v)
    rw [tl_numN hv, List.length_cons] at el
    rw [tl_numN hv, List.cons_append, if_pos ((pre1 45 _).mpr ⟨_, rfl⟩)]
    have e3 : (tl x).drop (k + 1 + 2) = numL v.natAbs ++ L := by
      rw [show k + 1 + 2 = k + 1 + 1 + 1 by omega, ← List.drop_drop, e2, tl_numN hv]
      rfl
    rw [show x.cps.toList.drop (k + 1 + 2) = numL v.natAbs ++ L from e3, tw_app (numL_fig _) hL]
    omega
  · have el := len_tl (numT v)
    have et := tl_numP (show 0 ≤ v by omega)
    rw [et] at el
    have hno : ¬ pre [45] (tl (numT v) ++ L) = true := by
      rw [et]
      intro c
      obtain ⟨r, hr⟩ := (pre1 45 _).mp c
      cases en : numL v.natAbs with
      | nil => exact numL_ne _ en
      | cons a s =>
        rw [en] at hr
        injection hr with hr
        have := numL_digits v.natAbs a (by rw [en]; exact .head _)
        omega
    rw [if_neg hno]
    rw [show x.cps.toList.drop (k + 1 + 1) = numL v.natAbs ++ L from e2.trans (by rw [et]), tw_app (numL_fig _) hL]
    omega
end Bw
set_option Elab.async false
set_option linter.all false
set_option maxRecDepth 100000
set_option maxHeartbeats 8000000
namespace Bw
open PySem PySem.Spec PyProof.Rows L2 TL
theorem Lq_step1 {q : List Int} {i : Nat} : ∀ a s, Lq q i = a :: s → a ≠ 94 := fun a s h => by
  have := (Lq_head q i a s h).1
  omega
theorem set_next (done : List Int) (m : Nat) (v : Int) : (done ++ List.replicate (m + 1) (0 : Int)).set done.length v = done ++ [v] ++ List.replicate m 0 := by
  rw [List.set_append, if_neg (Nat.lt_irrefl _), Nat.sub_self, List.replicate_succ, List.set_cons_zero, List.append_assoc]
  rfl
/-- the letters of a product, read behind what is read already -/
theorem rdL_run {x : Str} {w : Nat} (w26 : w ≤ 26) : ∀ (q done : List Int) (k f : Nat), (∀ v ∈ q, v.natAbs < 10 ^ 4) → done.length + q.length = w → (tl x).drop k = Lq q done.length → (tl x).length - k < f → rdL x w f k (done ++ List.replicate q.length 0) = some (done ++ q)
  | [], done, k, f, hv, hw, hd, hf => by
    cases f with
    | zero => omega
    | succ f =>
      have e : x.cps.toList[k]? = none := by
        refine List.getElem?_eq_none ?_
        have := congrArg List.length hd
        rw [List.length_drop] at this
        have h0 : (Lq [] done.length).length = 0 := rfl
        show (tl x).length ≤ k
        omega
      unfold rdL
      rw [e]
      rfl
  | v :: q, done, k, f, hv, hw, hd, hf => by
    have ih := fun k' f' => rdL_run (x := x) w26 q (done ++ [v]) k' f' (fun u hu => hv u (.tail _ hu)) (by rw [List.length_append, List.length_singleton]; rw [List.length_cons] at hw; omega)
    rw [show (done ++ [v]).length = done.length + 1 by rw [List.length_append]; rfl, show done ++ [v] ++ q = done ++ v :: q by rw [List.append_assoc]; rfl] at ih
    rw [show Lq (v :: q) done.length = pwS done.length v ++ Lq q (done.length + 1) from rfl] at hd
    rw [List.length_cons] at hw
    have hv4 := hv v (.head _)
    by_cases v0 : v = 0
    · subst v0
      rw [show pwS done.length 0 = [] from rfl, List.nil_append] at hd
      have := ih k f hd hf
      rw [show done ++ List.replicate (0 :: q).length (0 : Int) = done ++ [0] ++ List.replicate q.length 0 by rw [List.length_cons, List.replicate_succ, List.append_assoc]; rfl]
      exact this
    · obtain ⟨L, hL⟩ : ∃ L, pwS done.length v ++ Lq q (done.length + 1) = (97 + done.length) :: L := by
        unfold pwS
        split
        · exact ⟨_, rfl⟩
        · exact ⟨_, by first | rfl | (rw [if_neg v0]; rfl)⟩
      have hk : k < (tl x).length := by
        have := congrArg List.length hd
        rw [List.length_drop, hL, List.length_cons] at this
        omega
      obtain ⟨f', rfl⟩ : ∃ f', f = f' + 1 := ⟨f - 1, by omega⟩
      have ek : x.cps.toList[k]? = some (97 + done.length) := by
        have h := congrArg (fun l => l[0]?) hd
        rw [List.getElem?_drop, Nat.add_zero, hL] at h
        exact h
      have hw2 : done.length < w := by omega
      have step : ∀ u e, pwL x k = some u → endP x (k + 1) = e → rdL x w (f' + 1) k (done ++ List.replicate (v :: q).length 0) = rdL x w f' e (done ++ [u] ++ List.replicate q.length 0) := fun u e h1 h2 => by
        rw [show rdL x w (f' + 1) k (done ++ List.replicate (v :: q).length 0) = match x.cps.toList[k]? with
            | none => some (done ++ List.replicate (v :: q).length 0)
            | some c => match pwL x k with
              | none => none
              | some v' => if 0 ≤ findL c ∧ findL c < w then rdL x w f' (endP x (k + 1)) ((done ++ List.replicate (v :: q).length 0).set (findL c).toNat v') else none from rfl]
        rw [ek, h1]
        show (if 0 ≤ findL (97 + done.length) ∧ findL (97 + done.length) < w then rdL x w f' (endP x (k + 1)) ((done ++ List.replicate (v :: q).length 0).set (findL (97 + done.length)).toNat u) else none) = _
        rw [find26 _ (by omega), if_pos ⟨by omega, by omega⟩, h2, Int.toNat_natCast, List.length_cons, set_next]
      by_cases v1 : v = 1
      · subst v1
        rw [show pwS done.length 1 = [97 + done.length] from rfl] at hd
        have hd : (tl x).drop k = (97 + done.length) :: Lq q (done.length + 1) := hd
        have he := end_one hd Lq_step1
        have hp : pwL x k = some 1 := by unfold pwL; rw [if_pos he]
        rw [step 1 _ hp he]
        refine ih (k + 1) f' ?_ (by omega)
        rw [← List.drop_drop, hd]
        rfl
      · have e0 : pwS done.length v = (97 + done.length) :: 94 :: tl (numT v) := by
          unfold pwS
          rw [if_neg v1, if_neg v0]
        rw [e0] at hd
        have hd : (tl x).drop k = (97 + done.length) :: 94 :: (tl (numT v) ++ Lq q (done.length + 1)) := hd
        have he := end_num hd (Lq_noFig _ _)
        have hlen : k + 2 + (numT v).length + (Lq q (done.length + 1)).length = x.length := by
          have := congrArg List.length hd
          rw [List.length_drop, List.length_cons, List.length_cons, List.length_append, ← len_tl, ← len_tl] at this
          rw [← len_tl] at hk
          omega
        have e2 : (tl x).drop (k + 2) = tl (numT v) ++ Lq q (done.length + 1) := by
          rw [← List.drop_drop, hd]
          rfl
        have hc : cutS x (some ((k + 2 : Nat) : Int)) (some (endP x (k + 1) : Int)) = numT v := by
          refine ext_tl ?_
          rw [he, tl_cut x (by omega), e2, len_tl (numT v)]
          exact List.take_left
        have hp : pwL x k = some v := by
          unfold pwL
          rw [if_neg (by rw [he]; omega), hc]
          exact readN_num (by decide) (by decide) hv4
        rw [step v _ hp he]
        refine ih _ f' ?_ ?_
        · rw [← List.drop_drop, e2, len_tl (numT v)]
          exact List.drop_left
        · rw [← len_tl] at hf ⊢
          omega
theorem rdL_back {x : Str} {p : List Int} (h26 : p.length ≤ 26) (hv : ∀ v ∈ p, v.natAbs < 10 ^ 4) (hx : tl x = Lq p 0) : rdL x p.length (x.length + 1) 0 (List.replicate p.length 0) = some p := by
  have := rdL_run (x := x) h26 p [] 0 (x.length + 1) hv (by simp) (by rw [List.drop_zero]; exact hx) (by rw [← len_tl]; omega)
  rw [List.nil_append, List.nil_append] at this
  exact this
/-! ### a product read back -/
theorem lead_app {x : Str} {D L : List Nat} (hx : tl x = D ++ L) (hD : ∀ c ∈ D, isFig c = true) (hL : NoFig L) : lead x = D.length ∧ tl (figT x) = D ∧ tl (tailT x) = L := by
  have h1 : lead x = D.length := by
    unfold lead
    rw [show x.cps.toList = D ++ L from hx, tw_app hD hL]
  refine ⟨h1, ?_, ?_⟩
  · rw [show tl (figT x) = (tl x).takeWhile isFig from figT_cps x, hx, tw_app hD hL]
  · unfold tailT
    rw [tl_cutEnd x (lead_le x), h1, hx]
    exact List.drop_left
theorem tl_empty {x : Str} (h : tl x = []) : x = "" := len_zero (by rw [len_tl, h]; rfl)
theorem rdP_back {p : List Int} {c : Int} (h26 : p.length ≤ 26) (hv : ∀ v ∈ p, v.natAbs < 10 ^ 4) (hc : c.natAbs < 10 ^ 30) : rdP (prodT p c) p.length = some (p, (c.natAbs : Int)) := by
  have key : ∀ (x : Str) (D : List Nat), tl x = D ++ Lq p 0 → (∀ a ∈ D, isFig a = true) → D.length ≤ 30 → rdP x p.length = some (p, if figT x = "" then 1 else (intText? (figT x)).getD 0) ∧ tl (figT x) = D := fun x D hx hD hl => by
    obtain ⟨h1, h2, h3⟩ := lead_app hx hD (Lq_noFig p 0)
    refine ⟨?_, h2⟩
    unfold rdP
    rw [rdL_back h26 hv h3]
    show (if lead x > 30 then none else _) = _
    rw [if_neg (by omega)]
  unfold prodT
  split
  · next h =>
    obtain ⟨k1, k2⟩ := key (letT p) [] (tl_letT p) (fun a ha => nomatch ha) (Nat.zero_le _)
    rw [k1, if_pos (tl_empty k2), h.2]
    rfl
  · next h =>
    have hl := numL_len (n := c.natAbs) (k := 30) (by decide) hc
    obtain ⟨k1, k2⟩ := key (numT (c.natAbs : Int) ++ letT p) (numL c.natAbs) (by rw [tl_append, tl_letT, tl_numT]) (numL_fig _) hl
    have e : figT (numT (c.natAbs : Int) ++ letT p) = numT (c.natAbs : Int) := ext_tl (k2.trans (tl_numT _).symm)
    rw [k1, e, if_neg, show intText? (numT (c.natAbs : Int)) = some (c.natAbs : Int) from int_num (by omega)]
    · rfl
    · intro z
      have := numT_pos c.natAbs
      rw [z] at this
      exact absurd this (by decide)
/-! ### a sum's text, cut at its blanks -/
def sgT (c : Int) : Str := if c < 0 then "-" else "+"
/-- the pieces between the blanks -/
def piT (a : Tm) (r : List Tm) : List Str := prodT a.1 a.2 :: r.flatMap fun b => [sgT b.2, prodT b.1 b.2]
theorem joinL_snoc (S : List Nat) : ∀ (ps : List (List Nat)) (a : List Nat), ps ≠ [] → joinL S (ps ++ [a]) = joinL S ps ++ (S ++ a)
  | [], _, h => absurd rfl h
  | [p], a, _ => rfl
  | p :: q :: r, a, _ => by
    show p ++ (S ++ joinL S (q :: r ++ [a])) = (p ++ (S ++ joinL S (q :: r))) ++ (S ++ a)
    rw [joinL_snoc S (q :: r) a (by simp)]
    simp only [List.append_assoc]
theorem join_snoc1 (ys : List Str) (y : Str) (h : ys ≠ []) : tl (Txt.join (" " : Str) (ys ++ [y])) = tl (Txt.join (" " : Str) ys) ++ (32 :: tl y) := by
  rw [join_eq, join_eq, tl_join, tl_join, List.map_append, List.map_singleton, joinL_snoc _ _ _ (by simpa using h)]
  rfl
theorem piT_snoc (a : Tm) (r : List Tm) (b : Tm) : piT a (r ++ [b]) = piT a r ++ [sgT b.2] ++ [prodT b.1 b.2] := by
  unfold piT
  rw [List.flatMap_append, List.cons_append, List.cons_append]
  simp only [List.flatMap_cons, List.flatMap_nil, List.append_nil, List.append_assoc]
  rfl
def sg0 (a : Tm) : List Nat := if a.2 < 0 then [45] else []
theorem tl_pcs (a : Tm) (r : List Tm) : ∀ j, j ≤ r.length → tl (Txt.join ("" : Str) (pcsN (a :: r) (j + 1))) = sg0 a ++ tl (Txt.join (" " : Str) (piT a (r.take j)))
  | 0, _ => by
    rw [pcsN_succ, List.take_zero]
    show tl (Txt.join ("" : Str) ([] ++ (sgnP 0 a.2 ++ [prodT a.1 a.2]))) = sg0 a ++ tl (prodT a.1 a.2)
    rw [List.nil_append, tl_join0]
    unfold sgnP sg0
    rw [if_pos rfl]
    split
    · rw [join_one]
      rfl
    · rw [join_nil]
      rfl
  | j + 1, h => by
    have e : r[j]? = some r[j] := List.getElem?_eq_getElem (by omega)
    have ea : atT (a :: r) (j + 1) = r[j] := atT_of e
    rw [pcsN_succ, ea, List.take_succ, e]
    show _ = sg0 a ++ tl (Txt.join (" " : Str) (piT a (r.take j ++ [r[j]])))
    rw [piT_snoc, join_snoc1 _ _ (by simp [piT]), join_snoc1 _ _ (by simp [piT]), ← List.append_assoc, tl_join0]
    generalize r[j] = b
    unfold sgnP sgT
    rw [if_neg (by omega)]
    split
    · rw [tl_join0, tl_pcs a r j (by omega), show tl (" - " : Str) = [32, 45, 32] by decide +kernel, show tl ("-" : Str) = [45] by decide +kernel]
      simp [List.append_assoc]
    · rw [tl_join0, tl_pcs a r j (by omega), show tl (" + " : Str) = [32, 43, 32] by decide +kernel, show tl ("+" : Str) = [43] by decide +kernel]
      simp [List.append_assoc]
theorem tl_sumT (a : Tm) (r : List Tm) : tl (sumT (a :: r)) = sg0 a ++ tl (Txt.join (" " : Str) (piT a r)) := by
  have := tl_pcs a r r.length (Nat.le_refl _)
  rw [List.take_length] at this
  exact this
theorem tl_prodT (p : List Int) (c : Int) : ∃ D : List Nat, (∀ a ∈ D, isFig a = true) ∧ tl (prodT p c) = D ++ Lq p 0 := by
  unfold prodT
  split
  · exact ⟨[], (fun a ha => nomatch ha), tl_letT p⟩
  · exact ⟨numL c.natAbs, numL_fig _, by rw [tl_append, tl_letT, tl_numT]⟩
theorem prodT_free (p : List Int) (c : Int) : (32 : Nat) ∉ tl (prodT p c) := fun h => by
  obtain ⟨D, hD, e⟩ := tl_prodT p c
  rw [e] at h
  rcases List.mem_append.mp h with h | h
  · have := fig_bounds _ (hD _ h)
    omega
  · exact Lq_free p 0 h
theorem prodT_head (p : List Int) (c : Int) : ∀ a r, tl (prodT p c) = a :: r → a ≠ 45 := fun a r h => by
  obtain ⟨D, hD, e⟩ := tl_prodT p c
  rw [e] at h
  cases D with
  | nil =>
    have := (Lq_head p 0 a r h).1
    omega
  | cons d D =>
    injection h with h
    have := fig_bounds _ (hD d (.head _))
    omega
theorem join_head (a : Tm) (r : List Tm) : ∀ c s, tl (Txt.join (" " : Str) (piT a r)) = c :: s → c ≠ 45 := fun c s h => by
  rw [join_eq, tl_join] at h
  unfold piT at h
  rw [List.map_cons] at h
  have hp : 0 < (tl (prodT a.1 a.2)).length := by
    rw [← len_tl]
    exact prodT_pos _ _
  cases e : tl (prodT a.1 a.2) with
  | nil => rw [e] at hp; exact absurd hp (by decide)
  | cons d t =>
    rw [e] at h
    have := prodT_head _ _ d t e
    cases em : (r.flatMap fun b => [sgT b.2, prodT b.1 b.2]).map tl with
    | nil =>
      rw [em] at h
      injection h with h
      omega
    | cons u v =>
      rw [em] at h
      have h : (d :: t) ++ _ = c :: s := h
      rw [List.cons_append] at h
      injection h with h
      omega
theorem sg_text (a : Tm) (r : List Tm) : sgM (sumT (a :: r)) = (if a.2 < 0 then -1 else 1) ∧ sgB (sumT (a :: r)) = Txt.join (" " : Str) (piT a r) := by
  have e := tl_sumT a r
  unfold sg0 at e
  unfold sgM sgB
  rw [s1_eq]
  by_cases h : a.2 < 0
  · rw [if_pos h] at e
    rw [e, if_pos h, List.singleton_append, if_pos ((pre1 45 _).mpr ⟨_, rfl⟩), if_pos ((pre1 45 _).mpr ⟨_, rfl⟩)]
    exact ⟨rfl, ext_tl (cut1 e)⟩
  · rw [if_neg h, List.nil_append] at e
    rw [e, if_neg h, pre1_no (join_head a r)]
    exact ⟨rfl, ext_tl e⟩
theorem pairs_flat (f g : Tm → Str) : ∀ r : List Tm, pairsOf (r.flatMap fun b => [f b, g b]) = r.map fun b => (f b, g b)
  | [] => rfl
  | b :: r => by
    rw [List.flatMap_cons, List.map_cons, ← pairs_flat f g r]
    rfl
theorem flat_len (f g : Tm → Str) : ∀ r : List Tm, (r.flatMap fun b => [f b, g b]).length = 2 * r.length
  | [] => rfl
  | b :: r => by
    rw [List.flatMap_cons, List.length_append, flat_len f g r, List.length_cons (a := b)]
    show 2 + _ = _
    omega
theorem sgT_ne : ("+" : Str) ≠ "-" := by decide +kernel
theorem sgL_text (a : Tm) (r : List Tm) {most : Nat} (h : r.length < most) : sgL (sumT (a :: r)) most = some ((a :: r).map fun b => (if b.2 < 0 then -1 else 1, prodT b.1 b.2)) := by
  obtain ⟨e1, e2⟩ := sg_text a r
  unfold sgL
  rw [e1, e2, split_join (s := 32) (S := []) (by decide +kernel) (by decide +kernel) (by simp [piT])]
  · show (if (r.flatMap fun b => [sgT b.2, prodT b.1 b.2]).length % 2 = 0 ∧ (r.flatMap fun b => [sgT b.2, prodT b.1 b.2]).length + 1 < 2 * most ∧ (pairsOf (r.flatMap fun b => [sgT b.2, prodT b.1 b.2])).all sgOk = true then some (((if a.2 < 0 then -1 else 1), prodT a.1 a.2) :: (pairsOf (r.flatMap fun b => [sgT b.2, prodT b.1 b.2])).map sgV) else none) = _
    rw [flat_len, pairs_flat, if_pos, List.map_map]
    · congr 1
      rw [List.map_cons]
      congr 1
      refine List.map_congr_left fun b _ => ?_
      show ((if sgT b.2 = "-" then (-1 : Int) else 1), prodT b.1 b.2) = _
      unfold sgT
      by_cases hb : b.2 < 0
      · rw [if_pos hb, if_pos hb, if_pos rfl]
      · rw [if_neg hb, if_neg hb, if_neg sgT_ne]
    · refine ⟨by omega, by omega, List.all_eq_true.mpr fun q hq => ?_⟩
      obtain ⟨b, _, rfl⟩ := List.mem_map.mp hq
      unfold sgOk sgT
      split
      · rfl
      · rfl
  · intro p hp
    rcases List.mem_cons.mp hp with rfl | hp
    · exact prodT_free _ _
    · obtain ⟨b, _, hb⟩ := List.mem_flatMap.mp hp
      rcases List.mem_cons.mp hb with rfl | hb
      · unfold sgT
        split <;> decide +kernel
      · rw [List.mem_singleton.mp hb]
        exact prodT_free _ _
/-- what may be read -/
def Rd (n : Nat) (r : List Tm) : Prop := ∀ a ∈ r, a.1.length = n ∧ (∀ v ∈ a.1, v.natAbs < 10 ^ 4) ∧ a.2.natAbs < 10 ^ 30
theorem rpL_text {n : Nat} (n26 : n ≤ 26) {r : List Tm} (hr : Rd n r) (hne : r ≠ []) {most : Nat} (h : r.length ≤ most) : rpL (sumT r) n most = some r := by
  cases r with
  | nil => exact absurd rfl hne
  | cons a r =>
    have one : ∀ b ∈ a :: r, rdP (prodT b.1 b.2) n = some (b.1, (b.2.natAbs : Int)) := fun b hb => by
      obtain ⟨h1, h2, h3⟩ := hr b hb
      rw [← h1]
      exact rdP_back (by omega) h2 h3
    unfold rpL
    rw [sgL_text a r h]
    show (if (((a :: r).map fun b => (if b.2 < 0 then (-1 : Int) else 1, prodT b.1 b.2)).all (rpOk n)) = true then some (((a :: r).map fun b => (if b.2 < 0 then (-1 : Int) else 1, prodT b.1 b.2)).map (rpV n)) else none) = _
    rw [if_pos, List.map_map]
    · congr 1
      have : ∀ b ∈ a :: r, (rpV n ∘ fun b : Tm => ((if b.2 < 0 then (-1 : Int) else 1), prodT b.1 b.2)) b = id b := fun b hb => by
        show rpV n ((if b.2 < 0 then (-1 : Int) else 1), prodT b.1 b.2) = b
        unfold rpV
        dsimp only
        rw [one b hb]
        show (b.1, (if b.2 < 0 then (-1 : Int) else 1) * (b.2.natAbs : Int)) = b
        obtain ⟨p, c⟩ := b
        show (p, (if c < 0 then (-1 : Int) else 1) * (c.natAbs : Int)) = (p, c)
        congr 1
        split <;> omega
      rw [List.map_congr_left this, List.map_id]
    · refine List.all_eq_true.mpr fun q hq => ?_
      obtain ⟨b, hb, rfl⟩ := List.mem_map.mp hq
      unfold rpOk
      dsimp only
      rw [one b hb]
      rfl
end Bw
set_option Elab.async false
set_option linter.all false
set_option maxRecDepth 100000
set_option maxHeartbeats 4000000
namespace Bw
open PySem PySem.Spec PyProof.Rows L2
section
variable {P : Program} {w : World} {K : PySem.W.Frag} {mg : Str → Option Value} {base : Heap}
abbrev s_bud_init : Stmt := inClass (topS 2) 0
theorem sc_bud_init : FnScope ["self", "word"] ["self", "word"] (defScope s_bud_init) := ⟨rfl, rfl, rfl, by decide +kernel, rfl, by decide +kernel, by decide +kernel⟩
def vV (K : PySem.W.Frag) : Prop := PySem.W.findCls K (.type "ValueError") (.type "type") "__init__" = some (.val (.builtin "ValueError.__init__"))
def spBudInit (K : PySem.W.Frag) : Sp := fun vs H Q _ => ∃ (a C : Addr) (x : V), vs = [.ref a, x] ∧ OexC K C ∧ PySem.W.findIn K (.ref C) "word" = some none ∧ H a = some (exo a C none) ∧ ∀ dx, H dx = none → dx ≠ a → Q .non (upd (upd H dx (exd dx [("word", x)])) a (exo a C (some dx)))
theorem ok_budinit {f : Addr} {fd : FuncData} {k : Nat} (F : Fun K "__init__" "BudError.__init__" s_bud_init f fd) (T : Tx mg) (v : vV K) : FnOk P w K mg base CX0 (k + 1) f fd ["self", "word"] (spBudInit K) := by
  refine F.ok sc_bud_init (fun vs H Q E h => ?_) (fun cdv A outer s H vs Q E hr h => ?_)
  · obtain ⟨a, C, x, rfl, _⟩ := h
    rfl
  · obtain ⟨a, C, x, rfl, O, nw, ha, q⟩ := h
    refine ⟨_, pss_cons (ps_expr (pe_veinit (by rfl) T.ValueError v (pa_cons (pv 0) (pa_cons (pv 1) pa_nil)))) (pss_one (ps_ost (pv 0) (pv 1))), ?_⟩
    refine ⟨.ref a, rfl, x, rfl, a, C, [x], rfl, by show 1 ≤ 1000; decide, O, ha, ?_⟩
    exact ⟨x, rfl, .ref a, rfl, a, C, rfl, O, nw, .inl ⟨ha, q⟩⟩
abbrev s_text_init : Stmt := inClass (topS 5) 0
theorem sc_text_init : FnScope ["self", "at"] ["self", "at"] (defScope s_text_init) := ⟨rfl, rfl, rfl, by decide +kernel, rfl, by decide +kernel, by decide +kernel⟩
theorem ok_textinit {f fB CB : Addr} {fd fdB : FuncData} {k : Nat} (F : Fun K "__init__" "BadText.__init__" s_text_init f fd) (T : Tx mg) (TB : ClsFn K mg "BudError" "__init__" CB fB) (FB : FnOk P w K mg base CX0 k fB fdB ["self", "word"] (spBudInit K)) (bB : Binds K fdB ["self", "word"] []) : FnOk P w K mg base CX0 (k + 1) f fd ["self", "at"] (spErrInit1 K "bad text" "at") := by
  refine F.ok sc_text_init (fun vs H Q E h => ?_) (fun cdv A outer s H vs Q E hr h => ?_)
  · obtain ⟨a, C, x, rfl, _⟩ := h
    rfl
  · obtain ⟨a, C, x, rfl, O, nw, nm, ha, q⟩ := h
    refine ⟨_, pss_cons (ps_expr (pe_cfun TB FB hr (by rfl) bB pass0 (pa_cons (pv 0) (pa_cons pe_str pa_nil)))) (pss_one (ps_ost (pv 0) (pv 1))), ?_⟩
    refine ⟨.ref a, rfl, a, C, _, rfl, O, nw, ha, fun dx ed nd => ?_⟩
    refine ⟨x, rfl, .ref a, rfl, a, C, rfl, O, nm, .inr ⟨dx, [("word", .str "bad text")], upd_same, ?_, by show 1 ≤ 900; decide, ?_⟩⟩
    · rw [upd_ne nd, upd_same]
    · refine q dx _ ed nd ?_ upd_same fun b n1 n2 => ?_
      · rw [upd_ne (Ne.symm nd), upd_same]
      · rw [upd_ne n2, upd_ne n1, upd_ne n2]
end
end Bw
set_option Elab.async false
set_option linter.all false
set_option maxRecDepth 100000
set_option maxHeartbeats 8000000
namespace Bw
open PySem PySem.Spec PyProof.Rows L2 TL
/-! ### what is read -/
theorem pwL_ok {x : Str} {k : Nat} {v : Int} (h : pwL x k = some v) : v.natAbs < 10 ^ 4 := by
  unfold pwL at h
  split at h
  · cases h
    decide
  · exact (readN_text (by decide) h).2
theorem rdL_ok {x : Str} {w : Nat} : ∀ (f k : Nat) (ps r : List Int), rdL x w f k ps = some r → ps.length = w → (∀ v ∈ ps, v.natAbs < 10 ^ 4) → r.length = w ∧ ∀ v ∈ r, v.natAbs < 10 ^ 4
  | 0, k, ps, r, h, hl, hv => by
    cases h
    exact ⟨hl, hv⟩
  | f + 1, k, ps, r, h, hl, hv => by
    unfold rdL at h
    split at h
    · cases h
      exact ⟨hl, hv⟩
    · split at h
      · cases h
      · next v hp =>
        split at h
        · refine rdL_ok f _ _ r h (by rw [List.length_set]; exact hl) fun u hu => ?_
          rcases List.mem_or_eq_of_mem_set hu with hu | hu
          · exact hv u hu
          · rw [hu]
            exact pwL_ok hp
        · cases h
theorem rdP_ok {x : Str} {w : Nat} {ps : List Int} {c : Int} (h : rdP x w = some (ps, c)) : ps.length = w ∧ (∀ v ∈ ps, v.natAbs < 10 ^ 4) ∧ c.natAbs < 10 ^ 30 := by
  unfold rdP at h
  split at h
  · cases h
  · next r hr =>
    split at h
    · cases h
    · next hl =>
      injection h with h
      injection h with h1 h2
      subst h1
      obtain ⟨a1, a2⟩ := rdL_ok _ _ _ _ hr List.length_replicate (fun v hv => by
        rw [List.eq_of_mem_replicate hv]
        decide)
      refine ⟨a1, a2, ?_⟩
      rw [← h2]
      split
      · decide
      · next hne =>
        have hf : ∀ c ∈ tl (figT x), 48 ≤ c ∧ c ≤ 57 := fun c hc => by
          rw [show tl (figT x) = x.cps.toList.takeWhile isFig from figT_cps x] at hc
          exact fig_bounds c (List.all_eq_true.mp List.all_takeWhile c hc)
        have ln := figT_len x
        rw [intText_digits hf (fun z => hne (tl_empty z)) (by omega)]
        show ((NumText.digitsVal (tl (figT x)) : Nat) : Int).natAbs < 10 ^ 30
        have h1 := dv_lt (tl (figT x)) 0 hf
        have h2 : (10 : Nat) ^ (tl (figT x)).length ≤ 10 ^ 30 := Nat.pow_le_pow_right (by decide) (by rw [← len_tl]; omega)
        have h3 : NumText.digitsVal (tl (figT x)) < (0 + 1) * 10 ^ (tl (figT x)).length := h1
        rw [Int.natAbs_natCast]
        omega
theorem rpL_ok {x : Str} {n most : Nat} {ts : List Tm} (h : rpL x n most = some ts) : Rd n ts ∧ ts.length ≤ most := by
  unfold rpL at h
  split at h
  · cases h
  · next l hl =>
    split at h
    · next ha =>
      cases h
      obtain ⟨s1, s2⟩ := sgL_ok hl
      refine ⟨fun a hm => ?_, by rw [List.length_map]; exact s1⟩
      obtain ⟨b, hb, rfl⟩ := List.mem_map.mp hm
      have ok := List.all_eq_true.mp ha b hb
      unfold rpOk at ok
      obtain ⟨⟨ps, c⟩, hp⟩ := Option.isSome_iff_exists.mp ok
      obtain ⟨k1, k2, k3⟩ := rdP_ok hp
      have e : rpV n b = (ps, b.1 * c) := by
        unfold rpV
        rw [hp]
      rw [e]
      refine ⟨k1, k2, ?_⟩
      show (b.1 * c).natAbs < 10 ^ 30
      rw [Int.natAbs_mul]
      rcases (s2 b hb).1 with h | h <;> rw [h] <;> simpa using k3
    · cases h
/-- a row of products that is a sum as it may be read -/
structure Good (n : Nat) (r : List Tm) : Prop where
  rd : Rd n r
  fall : Falls r
  nz : ∀ a ∈ r, a.2 ≠ 0
  len : r.length ≤ 400
theorem Good.cn {n : Nat} {r : List Tm} (G : Good n r) : Cn (Lf r) r := ⟨G.fall, G.nz, fun _ => rfl⟩
theorem sumT_nil : sumT [] = "0" := by
  unfold sumT pcsT
  rw [if_pos rfl]
  exact join_one _
theorem zero_read : ∀ n, n ≤ 8 → rpL "0" n 400 = some [(List.replicate n 0, 0)] := by decide +kernel
theorem Good.zero {n : Nat} {r : List Tm} (G : Good n r) (n8 : n ≤ 8) (h : sumT r = "0") : r = [] := by
  by_cases hne : r = []
  · exact hne
  · have h1 := rpL_text (by omega) G.rd hne G.len
    rw [h, zero_read n n8] at h1
    have := G.nz (List.replicate n 0, 0) (by rw [← Option.some.inj h1]; exact .head _)
    exact absurd rfl this
theorem Good.inj {n : Nat} {r s : List Tm} (G : Good n r) (G' : Good n s) (n8 : n ≤ 8) (h : sumT r = sumT s) : r = s := by
  by_cases hr : r = []
  · subst hr
    rw [sumT_nil] at h
    exact (G'.zero n8 h.symm).symm
  · by_cases hs : s = []
    · subst hs
      rw [sumT_nil] at h
      exact G.zero n8 h
    · have h1 := rpL_text (by omega) G.rd hr G.len
      rw [h, rpL_text (by omega) G'.rd hs G'.len] at h1
      exact (Option.some.inj h1).symm
theorem Cn.from {ts r : List Tm} (cn : Cn (Lf ts) r) : ∀ a ∈ r, ∃ b ∈ ts, b.1 = a.1 := fun a ha => by
  refine Classical.byContradiction fun z => ?_
  have h1 : Lf r (ind a.1) = a.2 := Lf_ind_nd cn.fall.nd (p := a.1) (c := a.2) ha
  rw [cn.lf, Lf_ind_none fun b hb e => z ⟨b, hb, e⟩] at h1
  exact cn.nz a ha h1.symm
theorem Rd.wr {n M : Nat} {ts r : List Tm} (hr : Rd n ts) (n8 : n ≤ 8) (cn : Cn (Lf ts) r) (hz : Sized n M r) (hM : M < 2 ^ 200) : Wr r := fun a ha => by
  obtain ⟨b, hb, e⟩ := cn.from a ha
  obtain ⟨b1, b2, _⟩ := hr b hb
  rw [← e]
  refine ⟨by omega, fun v hv => Nat.lt_trans (b2 v hv) (by decide), Nat.lt_of_le_of_lt (hz a ha).2 hM⟩
theorem big400 {k : Nat} (h : k ≤ 400) : k * 10 ^ 30 < 2 ^ 200 := Nat.lt_of_le_of_lt (Nat.mul_le_mul_right _ h) (by decide)
section
variable {P : Program} {w : World} {K : PySem.W.Frag} {mg : Str → Option Value} {base : Heap} {C CX' fX CB : Addr}
theorem made_same {H : Hp} {C x dx : Addr} (x0 : H x = none) (dx0 : H dx = none) (n : dx ≠ x) : Same H (upd (upd H dx (.own x)) x (.ins C dx [])) := (same_upd dx0).trans (same_upd (by rw [upd_ne (Ne.symm n)]; exact x0))
abbrev s_read_sum : Stmt := topS 34
abbrev n_read_sum : List Str := ["text", "width", "terms", "read"]
theorem sc_read_sum : FnScope n_read_sum ["text", "width"] (defScope s_read_sum) := ⟨rfl, rfl, rfl, by decide +kernel, rfl, by decide +kernel, by decide +kernel⟩
def spRdS (C CX' : Addr) : Sp := fun vs H Q E => ∃ (x : Str) (n : Nat), vs = [.str x, .int n] ∧ x.length ≤ 10000 ∧ n ≤ 8 ∧
  ((∀ r, Good n r → sumT r ≠ x) → ∀ (d : Addr) (H' : Hp), Same H H' → H' d = some (.xd (fldFs "at" "bad text" (.int 0))) → E (.ref CX') (some d) H') ∧
  (∀ (r : List Tm) (a : Addr) (H' : Hp), Falls r → (∀ b ∈ r, b.2 ≠ 0) → Sized n (400 * 10 ^ 30) r → Wr r → r.length ≤ 400 → sumT r = x → (x = "0" → r = []) → (x ≠ "0" → ∃ ts, rpL x n 400 = some ts ∧ Cn (Lf ts) r) → Same H H' → SumAt C H' a n r → Q (.ref a) H')
theorem ok_readsum {f fs : Addr} {fd fds fdX : FuncData} (F : Fun K "read_sum" "read_sum" s_read_sum f fd) (T : Tx mg) (S : SumC K mg C) (TX : ErrC K mg "BadText" CX' fX CB) (nX : PySem.W.findIn K (.ref CX') "at" = some none) (FX : FnOk P w K mg base CX0 2 fX fdX ["self", "at"] (spErrInit1 K "bad text" "at")) (bX : Binds K fdX ["self", "at"] [])
    (M : MakS P w K mg base 2 C ["self", "width", "terms"] (spInit K C)) (c_read_products : Cal P w K mg base CX0 5 "read_products" ["text", "width", "most"] spRps)
    (hss : PySem.W.findIn K (.ref C) "__str__" = some (some (.ref fs))) (hfs : PySem.W.isFn K (.ref fs) = true) (Fs : FnOk P w K mg base CX0 4 fs fds ["self"] (spStrM C)) (bs : Binds K fds ["self"] []) : FnOk P w K mg base (L2.CX P w) 7 f fd ["text", "width"] (spRdS C CX') := by
  refine F.okX sc_read_sum (fun vs H Q E h => ?_) (fun cdv A outer s H vs Q E hr h => ?_)
  · obtain ⟨x, n, rfl, _⟩ := h
    rfl
  · obtain ⟨x, n, rfl, lx, n8, q0, q1⟩ := h
    refine ⟨_, (C8.pss_cut (ps_set (i := 2) sc_read_sum.nd rfl (.inl rfl) (pe_ifExp (pt_cmpR op_eq (pv 0) pe_str (nomark _)) (pe_lst pa_nil) (pe_cal c_read_products (hr.mono (by decide)) (by rfl) (pa_cons (pv 0) (pa_cons (pv 1) (pa_cons (pe_gint (by rfl) T.WIDE) pa_nil))))))
  (pss_cons (ps_if (pt_cmpR op_isN (pv 2) pe_non (nomark _))
    (pss_one (ps_raise rfl (takes_of rfl rfl rfl rfl) (pmk_oex TX.oex TX.iC TX.tI FX (hr.mono (by decide)) bX .nil pass0 (by rfl) TX.g (pa_cons pe_int pa_nil))))
    pss_nil)
  (pss_cons (ps_set (i := 3) sc_read_sum.nd rfl (.inl rfl) (pe_mkS M (hr.mono (by decide)) (by rfl) (pa_cons (pv 1) (pa_cons (pv 2) pa_nil))))
  (pss_cons (ps_if (pt_cmpR op_ne (pe_callTy (c_strOwn hss hfs Fs hr bs pass0) (by rfl) T.str (by decide +kernel) (pa_cons (pv 3) pa_nil)) (pv 0) (nomark _))
    (pss_one (ps_raise rfl (takes_of rfl rfl rfl rfl) (pmk_oex TX.oex TX.iC TX.tI FX (hr.mono (by decide)) bX .nil pass0 (by rfl) TX.g (pa_cons pe_int pa_nil))))
    pss_nil)
  (pss_one (ps_ret (pv 3))))))), ?_⟩
    refine ⟨fun σ H' => ∃ y : V, σ = [some (.str x), some (.int n), some y, none] ∧ Same H H' ∧ ((y = .non ∧ x ≠ "0" ∧ rpL x n 400 = none) ∨ ∃ (D : Addr) (ts : List Addr) (l : List Tm), y = .ref D ∧ H' D = some (.lst (ts.map V.ref)) ∧ TermsAt H' ts l ∧ Rd n l ∧ l.length ≤ 400 ∧ ((x = "0" ∧ l = []) ∨ (x ≠ "0" ∧ rpL x n 400 = some l))), ?_, ?_⟩
    · refine ⟨.str x, rfl, rfl, _, rfl, ite2 (fun z => ?_) (fun z => ?_)⟩
      · have z : x = "0" := V.str.inj (of_decide_eq_true z)
        exact ⟨Nat.zero_le _, fun D eD => ⟨_, rfl, same_upd eD, .inr ⟨D, [], [], rfl, upd_same, .nil, (fun a h => nomatch h), Nat.zero_le _, .inl ⟨z, rfl⟩⟩⟩⟩
      · have z : x ≠ "0" := fun h => z (decide_eq_true (congrArg V.str h))
        refine ⟨.str x, rfl, .int n, rfl, x, n, 400, rfl, lx, by omega, by decide, by decide, fun hn H1 s1 => ⟨_, rfl, s1, .inl ⟨rfl, z, hn⟩⟩, fun l hl D ts H1 s1 _ e1 hT => ?_⟩
        obtain ⟨k1, k2⟩ := rpL_ok hl
        exact ⟨_, rfl, s1, .inr ⟨D, ts, l, rfl, e1, hT, k1, k2, .inr ⟨z, hl⟩⟩⟩
    rintro σ H1 ⟨y, rfl, s1, hc⟩
    rcases hc with ⟨rfl, z, hn⟩ | ⟨D, ts, l, rfl, eD, hT, hRd, hlen, hx⟩
    · refine ⟨.non, rfl, rfl, _, rfl, iteT (mk_done1 TX nX fun d H2 s2 hd => q0 (fun r G e => ?_) d H2 (s1.trans s2) hd)⟩
      by_cases hne : r = []
      · rw [hne, sumT_nil] at e
        exact z e.symm
      · have := rpL_text (by omega) G.rd hne G.len
        rw [e, hn] at this
        cases this
    · refine ⟨.ref D, rfl, rfl, _, rfl, iteF ?_⟩
      refine ⟨.int n, rfl, .ref D, rfl, fun a dx a0 dx0 nda => ?_⟩
      have s2 := made_same (C := C) a0 dx0 nda
      have zl : Sized n (10 ^ 30) l := fun b hb => ⟨(hRd b hb).1, Nat.le_of_lt (hRd b hb).2.2⟩
      refine ⟨a, dx, D, ts, l, n, 10 ^ 30, true, rfl, upd_same, SqS.of (s2 _ _ eD), hT.same s2, hlen, zl, fun r H2 sb hS cn hz hl2 => ⟨rfl, ?_⟩⟩
      have s12 := s1.trans (sb.same a0 s2)
      have hz2 : Sized n (400 * 10 ^ 30) r := hz.mono (Nat.mul_le_mul_right _ hlen)
      have hw : Wr r := hRd.wr n8 cn hz (big400 hlen)
      have key : ∀ s, Good n s → sumT s = x → r = s := fun s G e => by
        rcases hx with ⟨rfl, rfl⟩ | ⟨z, hl⟩
        · have := G.zero n8 e
          subst this
          exact cn.uniq G.cn
        · have hne : s ≠ [] := fun h => by
            rw [h, sumT_nil] at e
            exact z e.symm
          have h1 := rpL_text (by omega) G.rd hne G.len
          rw [e, hl] at h1
          cases (Option.some.inj h1)
          exact cn.uniq G.cn
      obtain ⟨dx', p, us, i1, i2, i3⟩ := id hS
      refine ⟨.ref a, rfl, a, dx', _, rfl, i1, a, n, r, rfl, hS, hw, by omega, fun H3 s3 => ⟨sumT r, rfl, ?_⟩⟩
      refine ⟨.str x, rfl, rfl, _, rfl, ite2 (fun z => ?_) (fun z => ?_)⟩
      · have z : sumT r ≠ x := fun h => by
          rw [h] at z
          simp at z
        refine mk_done1 TX nX fun d H4 s4 hd => q0 (fun s G e => ?_) d H4 ((s12.trans s3).trans s4) hd
        rw [key s G e] at z
        exact z e
      · have z : sumT r = x := Classical.byContradiction fun h => z (by simp [h])
        refine ⟨.ref a, rfl, q1 r a H3 cn.fall cn.nz hz2 hw (by omega) z (fun h0 => ?_) (fun h0 => ?_) (s12.trans s3) (hS.same s3)⟩
        · rcases hx with ⟨_, rfl⟩ | ⟨z', _⟩
          · exact cn.uniq ⟨List.Pairwise.nil, (fun b h => nomatch h), fun _ => rfl⟩
          · exact absurd h0 z'
        · rcases hx with ⟨z', _⟩ | ⟨_, hl⟩
          · exact absurd z' h0
          · exact ⟨l, hl, cn⟩
end
end Bw
set_option Elab.async false
set_option linter.all false
set_option maxRecDepth 100000
set_option maxHeartbeats 4000000
namespace Bw
open PySem PySem.Spec PyProof.Rows L2
/-! ### str * int; f(e, .., k = v, ..) inside a try -/
theorem op_repS {X : Cx} : OpR X (binaryOp .Mult) (fun x y H Q => ∃ (a : Str) (k : Int), x = .str a ∧ y = .int k ∧ MulOk a k ∧ Q (.str (Txt.mul a k)) H) := by
  intro pins s σ H x y v u Q I rx ry h
  obtain ⟨a, k, rfl, rfl, hok, q⟩ := h
  obtain ⟨t, rfl⟩ := rx
  obtain ⟨t', rfl⟩ := ry
  exact SB.mul hok fun t' tk => ⟨.str (Txt.mul a k), H, I.tok _, ⟨_, rfl⟩, q⟩
section
variable {X : Cx} {CX : CXT} {k : Nat} {f : Addr} {fd : FuncData} {ps ks : List Str} {sp : Sp} {E : L2.St → XK} {x : Str} {p pos : Pos} {e : Expr} {es : List Expr} {kws : List Keyword} {t tk : TA} {g : List Value → List Value → List Value} {gV : List V → List V → List V}
def tCallKS (sp : Sp) (gV : List V → List V → List V) (E : L2.St → XK) (t tk : TA) : TE := fun σ H Q => t σ H fun vs H1 => tk σ H1 fun zs H2 => sp (gV vs zs) H2 Q (E σ)
theorem run_fnkS {pins : List (Addr × Obj)} {σ : L2.St} {H : Hp} {s : Shared} {Q : VK} {us ws : List Value} {vs zs : List V} (F : FnOk X.prog X.w X.K X.mg X.base CX k f fd ps sp) (hr : Room k X.A) (hb : KBinds X.K fd ps ks g gV) (hx : PassesAt CX X σ (E σ))
    (I : L2.Inv X pins σ H s) (r : Vals vs us) (rz : Vals zs ws) (h : sp (gV vs zs) H Q (E σ)) : wpAny (model X.prog X.w) X.A (call (.ref f) us (ks.zip ws)) (EP X pins σ Q) X.xe s := by
  have r2 := hb.rel r rz
  have hl : (g us ws).length = ps.length := by rw [← r2.length]; exact F.len _ _ _ _ h
  refine wpAny_call (codeAny_mono (F.run X.A X.stack s H ⟨us, ks.zip ws⟩ (g us ws) (gV vs zs) Q (E σ) hr I.env0 (hb.to s us ws I.kIn hl) r2 h) fun r s' hq => ?_)
  cases r with
  | error e => exact hx pins H s e s' I hq
  | ok fl =>
    cases fl with
    | ret u => exact I.after hq
    | next => exact False.elim hq
    | brk => exact False.elim hq
    | cont => exact False.elim hq
theorem pe_callKS (F : FnOk X.prog X.w X.K X.mg X.base CX k f fd ps sp) (hr : Room k X.A) (hg : Gl X x) (hm : X.mg x = some (.ref f)) (hk : PySem.W.keepIn X.K (.ref f) = true) (hb : KBinds X.K fd ps ks g gV) (hx : ∀ σ, PassesAt CX X σ (E σ))
    (ha : PA X (e :: es) t) (hkw : PK X kws tk) (hall : (backToKw pos (keywordEach kws X.env)).all (·.1.isSome) = true := by rfl) (hks : (backToKw pos (keywordEach kws X.env)).filterMap (·.1) = ks := by rfl)
    (hdb : (x == ("__debug__" : Str)) = false := by decide) (he : starEach (e :: es) X.env = (false, eval e X.env) :: starEach es X.env := by rfl)
    (hpl : ((backTo pos (starEach (e :: es) X.env)).any (·.1) || (backToKw pos (keywordEach kws X.env)).any (·.1.isNone)) = false := by rfl) :
    PE X (.Call (.Name x p) (e :: es) kws pos) (tCallKS sp gV E t tk) := by
  refine ⟨fun pins s σ H Q I h => ?_⟩
  refine wpAny_Call_Name_kw (ld_glob I hg hm ?_ hdb)
  refine PySem.W.callWith_KW (h₀ := X.base) I.ok.mod.kin hk hall (thn (ha.run pos pins s σ H _ I h) fun us s1 ⟨vs, H1, I1, r, q⟩ => ?_) hpl he
  refine thn (hkw.run pos pins s1 σ H1 _ I1 q) fun ws s2 ⟨zs, H2, I2, rz, q2⟩ => ⟨I2.kIn, ?_⟩
  rw [hks]
  exact run_fnkS F hr hb (hx σ) I2 r rz q2
end
end Bw
set_option Elab.async false
set_option linter.all false
set_option maxRecDepth 100000
set_option maxHeartbeats 8000000
namespace Bw
open PySem PySem.Spec PyProof.Rows L2 TL
theorem lex_trans : ∀ {p q r : List Int}, HT.lexLt p q = true → HT.lexLt q r = true → HT.lexLt p r = true
  | [], [], _, h, _ => by cases h
  | [], _ :: _, [], _, h => by cases h
  | [], _ :: _, _ :: _, _, _ => rfl
  | _ :: _, [], _, h, _ => by cases h
  | _ :: _, _ :: _, [], _, h => by cases h
  | x :: p, y :: q, z :: r, h1, h2 => by
    rw [HT.lexLt_cons] at h1 h2 ⊢
    by_cases e1 : x = y
    · subst e1
      rw [if_pos rfl] at h1
      by_cases e2 : x = z
      · subst e2
        rw [if_pos rfl] at h2 ⊢
        exact lex_trans h1 h2
      · rw [if_neg e2] at h2 ⊢
        exact h2
    · rw [if_neg e1] at h1
      have a1 := of_decide_eq_true h1
      by_cases e2 : y = z
      · subst e2
        rw [if_neg e1]
        exact h1
      · rw [if_neg e2] at h2
        have a2 := of_decide_eq_true h2
        rw [if_neg (by omega)]
        exact decide_eq_true (by omega)
/-! ### the canonical list of a sum, reckoned -/
def ins (a : Tm) : List Tm → List Tm
  | [] => if a.2 = 0 then [] else [a]
  | b :: r => if a.1 = b.1 then (if a.2 + b.2 = 0 then r else (b.1, a.2 + b.2) :: r) else if HT.lexLt b.1 a.1 = true then (if a.2 = 0 then b :: r else a :: b :: r) else b :: ins a r
def norm (ts : List Tm) : List Tm := ts.foldr ins []
theorem ins_keys {a c : Tm} : ∀ {r : List Tm}, c ∈ ins a r → c.1 = a.1 ∨ c ∈ r
  | [], h => by
    unfold ins at h
    split at h
    · cases h
    · rw [List.mem_singleton.mp h]
      exact .inl rfl
  | b :: r, h => by
    unfold ins at h
    split at h
    · next e =>
      split at h
      · exact .inr (List.mem_cons_of_mem _ h)
      · rcases List.mem_cons.mp h with rfl | h
        · exact .inl e.symm
        · exact .inr (List.mem_cons_of_mem _ h)
    · split at h
      · split at h
        · exact .inr h
        · rcases List.mem_cons.mp h with rfl | h
          · exact .inl rfl
          · exact .inr h
      · rcases List.mem_cons.mp h with rfl | h
        · exact .inr (List.mem_cons_self ..)
        · rcases ins_keys h with e | h
          · exact .inl e
          · exact .inr (List.mem_cons_of_mem _ h)
structure Can (r : List Tm) : Prop where
  fall : Falls r
  nz : ∀ a ∈ r, a.2 ≠ 0
theorem Can.cn {r : List Tm} (h : Can r) : Cn (Lf r) r := ⟨h.fall, h.nz, fun _ => rfl⟩
theorem Cn.can {ℓ : (List Int → Int) → Int} {r : List Tm} (h : Cn ℓ r) : Can r := ⟨h.fall, h.nz⟩
theorem Can.nil : Can [] := ⟨List.Pairwise.nil, fun a h => by cases h⟩
theorem Can.tail {a : Tm} {r : List Tm} (h : Can (a :: r)) : Can r := ⟨(List.pairwise_cons.mp h.fall).2, fun b hb => h.nz b (List.mem_cons_of_mem _ hb)⟩
theorem ins_can {a : Tm} : ∀ {r : List Tm}, Can r → Can (ins a r)
  | [], _ => by
    unfold ins
    split
    · exact .nil
    · next e => exact ⟨List.pairwise_singleton .., fun b hb => by rw [List.mem_singleton.mp hb]; exact e⟩
  | b :: r, h => by
    have f := List.pairwise_cons.mp h.fall
    have t := h.tail
    unfold ins
    split
    · split
      · exact t
      · next e => exact ⟨List.pairwise_cons.mpr ⟨fun c hc => f.1 c hc, f.2⟩, fun c hc => by
          rcases List.mem_cons.mp hc with rfl | hc
          · exact e
          · exact t.nz c hc⟩
    · next ne =>
      split
      · next lt =>
        split
        · exact h
        · next e =>
          refine ⟨List.pairwise_cons.mpr ⟨fun c hc => ?_, h.fall⟩, fun c hc => ?_⟩
          · rcases List.mem_cons.mp hc with rfl | hc
            · exact lt
            · exact lex_trans (f.1 c hc) lt
          · rcases List.mem_cons.mp hc with rfl | hc
            · exact e
            · exact h.nz c hc
      · next lt =>
        have ih := ins_can (a := a) t
        have gt : HT.lexLt a.1 b.1 = true := by
          cases z : HT.lexLt a.1 b.1 with
          | true => rfl
          | false => exact absurd (lex_tot z (Bool.eq_false_iff.mpr lt)) ne
        refine ⟨List.pairwise_cons.mpr ⟨fun c hc => ?_, ih.fall⟩, fun c hc => ?_⟩
        · rcases ins_keys hc with e | hc
          · rw [e]
            exact gt
          · exact f.1 c hc
        · rcases List.mem_cons.mp hc with rfl | hc
          · exact h.nz _ (List.mem_cons_self ..)
          · exact ih.nz c hc
theorem Lf_ins (a : Tm) (φ : List Int → Int) : ∀ r : List Tm, Lf (ins a r) φ = a.2 * φ a.1 + Lf r φ
  | [] => by
    unfold ins
    split
    · next e =>
      rw [e, Int.zero_mul]
      rfl
    · rw [Lf_cons]
  | b :: r => by
    unfold ins
    split
    · next e =>
      have z : (a.2 + b.2) * φ b.1 = a.2 * φ a.1 + b.2 * φ b.1 := by rw [Int.add_mul, e]
      split
      · next e0 =>
        rw [e0, Int.zero_mul] at z
        rw [Lf_cons]
        omega
      · rw [Lf_cons, Lf_cons]
        show (a.2 + b.2) * φ b.1 + Lf r φ = _
        rw [z]
        omega
    · split
      · split
        · next e =>
          rw [e, Int.zero_mul]
          omega
        · rw [Lf_cons]
      · rw [Lf_cons, Lf_cons, Lf_ins a φ r]
        omega
theorem norm_can : ∀ ts : List Tm, Can (norm ts)
  | [] => .nil
  | a :: ts => ins_can (norm_can ts)
theorem Lf_norm (φ : List Int → Int) : ∀ ts : List Tm, Lf (norm ts) φ = Lf ts φ
  | [] => rfl
  | a :: ts => by
    show Lf (ins a (norm ts)) φ = _
    rw [Lf_ins, Lf_norm φ ts, Lf_cons]
theorem norm_cn (ts : List Tm) : Cn (Lf ts) (norm ts) := ⟨(norm_can ts).fall, (norm_can ts).nz, fun φ => Lf_norm φ ts⟩
theorem Cn.norm {ts r : List Tm} (h : Cn (Lf ts) r) : r = norm ts := h.uniq (norm_cn ts)
theorem Can.eq {r s : List Tm} (h : Can r) (k : Can s) (e : ∀ φ, Lf r φ = Lf s φ) : r = s := Cn.uniq (ℓ := Lf s) ⟨h.fall, h.nz, e⟩ k.cn
theorem norm_mem {ts : List Tm} {c : Tm} : c ∈ norm ts → ∃ a ∈ ts, a.1 = c.1 := by
  induction ts with
  | nil => exact fun h => by cases h
  | cons a ts ih =>
    intro h
    rcases ins_keys h with e | h
    · exact ⟨a, List.mem_cons_self .., e.symm⟩
    · obtain ⟨b, hb, e⟩ := ih h
      exact ⟨b, List.mem_cons_of_mem _ hb, e⟩
/-! ### products of sums: the outermost powers -/

/-! ### texts that write no sum -/
/-- read, and written otherwise -/
def oddB (n : Nat) (x : Str) : Bool := decide (x ≠ "0") && match rpL x n 400 with
  | none => true
  | some ts => decide (sumT (norm ts) ≠ x)
theorem oddB_no {n : Nat} {x : Str} (h : oddB n x = true) {r : List Tm} (h0 : x = "0" → r = []) (h1 : x ≠ "0" → ∃ ts, rpL x n 400 = some ts ∧ Cn (Lf ts) r) (e : sumT r = x) : False := by
  unfold oddB at h
  rw [Bool.and_eq_true] at h
  have hx := of_decide_eq_true h.1
  obtain ⟨ts, e1, cn⟩ := h1 hx
  have h2 := h.2
  rw [e1] at h2
  have h2 := of_decide_eq_true h2
  rw [← cn.norm] at h2
  exact h2 e
def oddX : List Str := (["", "-", "+", "1a", "a^1", "a^0", "2 + a", " a", "a ", "a  + 1", "a -1", "a+1", "0a", "0 + a", "-0", "aa", "00"] : List Str) ++ (["a + a", "a - a", "a^", "a^-", "a^01", "a^10000", "2^3", "A", "i", "a + ", "+ a", "- a", "a - -1", Txt.mul "1" 31] : List Str)
theorem oddX_all : ((List.range 8).all fun k => oddX.all (oddB (k + 1))) = true := by decide +kernel
theorem oddX_ok {n : Nat} (h1 : 1 ≤ n) (h8 : n ≤ 8) : oddX.all (oddB n) = true := by
  have h := List.all_eq_true.mp oddX_all (n - 1) (List.mem_range.mpr (by omega))
  rw [show n - 1 + 1 = n by omega] at h
  exact h
theorem oddX_len : oddX.all (fun x => decide (x.length ≤ 100)) = true := by decide +kernel
/-! ### products in the wrong order -/
theorem asc_no {n M : Nat} {rows r : List Tm} (n8 : n ≤ 8) (B : BookOf n M (Lf rows) rows) (hr : Rd n rows) (l2 : 1 < rows.length) (l4 : rows.length ≤ 400) (asc : ∀ a b, rows[0]? = some a → rows[1]? = some b → HT.lexLt b.1 a.1 = false)
    (h0 : sumT rows = "0" → r = []) (h1 : sumT rows ≠ "0" → ∃ ts, rpL (sumT rows) n 400 = some ts ∧ Cn (Lf ts) r) (e : sumT r = sumT rows) : False := by
  have hne : rows ≠ [] := fun h => by rw [h] at l2; exact absurd l2 (by decide)
  have ht := rpL_text (by omega) hr hne l4
  have hx : sumT rows ≠ "0" := fun h => by
    rw [h, zero_read n n8] at ht
    rw [← Option.some.inj ht] at l2
    exact absurd l2 (Nat.lt_irrefl 1)
  obtain ⟨ts, e1, cn⟩ := h1 hx
  rw [ht] at e1
  cases (Option.some.inj e1)
  have pm := cn.perm B
  have hr2 : Rd n r := fun a ha => hr a (pm.mem_iff.mp ha)
  have hne2 : r ≠ [] := fun h => by
    rw [h] at pm
    exact hne (List.eq_nil_of_length_eq_zero pm.length_eq.symm)
  have ht2 := rpL_text (by omega) hr2 hne2 (by rw [pm.length_eq]; exact l4)
  rw [e, ht] at ht2
  cases (Option.some.inj ht2)
  match rows, l2, asc, cn.fall with
  | a :: b :: s, _, asc, fall =>
    have h := (List.pairwise_cons.mp fall).1 b (.head _)
    have h2 := asc a b rfl rfl
    rw [h] at h2
    cases h2
end Bw
set_option Elab.async false
set_option linter.all false
set_option maxRecDepth 100000
set_option maxHeartbeats 0
namespace Bw
open PySem PySem.Spec PyProof.Rows L2 LamX TL
abbrev s_law_word : Stmt := topS 39
theorem sc_law_word : FnScope ["_law_asked", "e"] ["_law_asked"] (defScope s_law_word) := ⟨rfl, rfl, rfl, by decide +kernel, rfl, by decide +kernel, by decide +kernel⟩
structure WordW (K : PySem.W.Frag) (mg : Str → Option Value) (base : Heap) (T : List (Addr × Str)) (g CB c1 c2 c3 c4 c P : Addr) (q : Str) (fd : FuncData) : Prop where
  F : Fun K "_law_word" "_law_word" s_law_word g fd
  gg : mg "_law_word" = some (.ref g)
  bb : L2.Binds K fd ["_law_asked"] []
  gB : mg "BudError" = some (.ref CB)
  m1 : mg "NoPart" = some (.ref c1)
  m2 : mg "NoPlace" = some (.ref c2)
  m3 : mg "Lacking" = some (.ref c3)
  m4 : mg "NothingLeft" = some (.ref c4)
  TB : TabB base mg c P
  mem : (P, q) ∈ T
  un : ∀ p ∈ T, p.1 = P → p.2 = q
theorem pe_wd {X : Cx} {T : List (Addr × Str)} {g CB c1 c2 c3 c4 c P : Addr} {q : Str} {fd : FuncData} {k : Nat} {params : Arguments} {body : Expr} {scope : Scope} {t : XK → TE} {p lpos pos : Pos} (W : WordW X.K X.mg X.base T g CB c1 c2 c3 c4 c P q fd) (hcode : X.env.code = .ref c) (hr : Room (k + 2) X.A) (hg : Gl X "_law_word") (L : LamS X.env.scope scope)
    (hbody : ∀ (A : Around) (outer : List Env) (s : Shared) (H : Hp) (E : XK) (f c' : Addr), Room k (A.deeper (lamEnv X scope s.heap.objs.size f c')) → PE (lamCx X A outer s H E scope f c') body (t E)) (hq : X.env.qual ++ "<lambda>" = q := by rfl) (hdef : defaultsOf params X.env = ([], []) := by rfl)
    (hbind : ∀ (q : Str) (cl : List (Str × Addr)) (pm cv ctv : Value), bindArgs (PySem.W.kla_fn "<lambda>" q params body scope cl pm cv ctv) ⟨[], []⟩ = pure [] := by intros; rfl) :
    PE X (.Call (.Name "_law_word" p) [.Lambda params body scope lpos] [] pos) (tLam T (TWordW X.K CB [.ref c1, .ref c2, .ref c3, .ref c4]) t) := by
  have hm := W.mem
  have hun := W.un
  rw [← hq] at hm hun
  exact pe_wordW W.F W.gg W.bb sc_law_word (.inl rfl) (fun cdv => word_givesW rfl W.gB rfl W.m1 rfl W.m2 rfl W.m3 rfl W.m4 (by decide) rfl rfl (fun f => rfl)) W.TB hcode hm hun hr hg L hbody hdef hbind
/-- two keywords, in the other order -/
def swapL {α : Type} : List α → List α → List α
  | [], [a, b] => [b, a]
  | _, _ => []
def pairL {α : Type} : List α → List α → List α
  | [a], [b] => [a, b]
  | _, _ => []

theorem BookOf.from {n M : Nat} {ts bk : List Tm} (B : BookOf n M (Lf ts) bk) : ∀ a ∈ bk, ∃ b ∈ ts, b.1 = a.1 := fun a ha => by
  refine Classical.byContradiction fun z => ?_
  have h1 : Lf bk (ind a.1) = a.2 := Lf_ind_nd B.nd (p := a.1) (c := a.2) ha
  rw [B.lf, Lf_ind_none fun b hb e => z ⟨b, hb, e⟩] at h1
  exact B.nz a ha h1.symm
theorem Cn.can2 {ℓ : (List Int → Int) → Int} {r : List Tm} (cn : Cn ℓ r) : Cn (Lf r) r := ⟨cn.fall, cn.nz, fun _ => rfl⟩
theorem sgnP_small (i : Nat) (c : Int) : sgnP i c = [] ∨ ∃ s : Str, sgnP i c = [s] ∧ (tl s).length ≤ 3 := by
  unfold sgnP
  split
  · split
    · exact .inr ⟨_, rfl, by decide +kernel⟩
    · exact .inl rfl
  · split
    · exact .inr ⟨_, rfl, by decide +kernel⟩
    · exact .inr ⟨_, rfl, by decide +kernel⟩
theorem pcsN_len2 {r : List Tm} (h : Wr r) : ∀ i, i ≤ r.length → (tl (Txt.join ("" : Str) (pcsN r i))).length ≤ 503 * i
  | 0, _ => by
    show (tl (Txt.join ("" : Str) [])).length ≤ _
    rw [join_nil]
    exact Nat.le_refl _
  | i + 1, hi => by
    have ih := pcsN_len2 h i (by omega)
    have e : r[i]? = some r[i] := List.getElem?_eq_getElem (by omega)
    obtain ⟨h1, h2, h3⟩ := h r[i] (List.getElem_mem _)
    have lp := prodT_len h1 h2 h3
    rw [len_tl] at lp
    rw [pcsN_succ, atT_of e, ← List.append_assoc, tl_join0, List.length_append]
    rcases sgnP_small i (r[i]).2 with z | ⟨s, z, ls⟩
    · rw [z, List.append_nil]
      omega
    · rw [z, tl_join0, List.length_append]
      omega
theorem sumT_len {r : List Tm} (h : Wr r) : (sumT r).length ≤ 503 * r.length + 1 := by
  rw [len_tl]
  unfold sumT pcsT
  split
  · next e =>
    rw [e]
    decide +kernel
  · have := pcsN_len2 h r.length (Nat.le_refl _)
    omega
theorem cut_to (x : Str) (k : Nat) : (cutS x none (some (k : Int))).length ≤ k := by
  unfold cutS
  show (((x.cps.toList.drop _).take _).toArray).size ≤ k
  rw [List.size_toArray, List.length_take, HT.sIx_nat]
  omega
theorem cut_from (x : Str) (k : Nat) : (cutS x (some (k : Int)) none).length ≤ x.length - k := by
  unfold cutS
  show (((x.cps.toList.drop _).take _).toArray).size ≤ x.cps.size - k
  rw [List.size_toArray, List.length_take, HT.sIx_nat, List.length_drop, Array.length_toList]
  have : x.length = x.cps.size := rfl
  omega
/-! ### products joined by plus -/
theorem join_snocP (ys : List Str) (y : Str) (h : ys ≠ []) : tl (Txt.join (" + " : Str) (ys ++ [y])) = tl (Txt.join (" + " : Str) ys) ++ ([32, 43, 32] ++ tl y) := by
  rw [join_eq, join_eq, tl_join, tl_join, List.map_append, List.map_singleton, joinL_snoc _ _ _ (by simpa using h)]
  rfl
theorem tl_plus (a : Tm) (r : List Tm) (hp : ∀ b ∈ a :: r, ¬ b.2 < 0) : ∀ j, j ≤ r.length → tl (Txt.join ("" : Str) (pcsN (a :: r) (j + 1))) = tl (Txt.join (" + " : Str) ((a :: r.take j).map fun b => prodT b.1 b.2))
  | 0, _ => by
    rw [pcsN_succ, List.take_zero]
    show tl (Txt.join ("" : Str) ([] ++ (sgnP 0 a.2 ++ [prodT a.1 a.2]))) = tl (prodT a.1 a.2)
    rw [List.nil_append, tl_join0]
    unfold sgnP
    rw [if_pos rfl, if_neg (hp a (.head _)), join_nil]
    rfl
  | j + 1, h => by
    have e : r[j]? = some r[j] := List.getElem?_eq_getElem (by omega)
    have hj := hp r[j] (.tail _ (List.getElem_mem _))
    rw [pcsN_succ, atT_of (show (a :: r)[j + 1]? = some r[j] from e), List.take_succ, e]
    show _ = tl (Txt.join (" + " : Str) ((a :: (r.take j ++ [r[j]])).map fun b => prodT b.1 b.2))
    rw [← List.cons_append, List.map_append, List.map_singleton, join_snocP _ _ (by simp), ← tl_plus a r hp j (by omega), ← List.append_assoc, tl_join0]
    unfold sgnP
    rw [if_neg (by omega), if_neg hj, tl_join0, show tl (" + " : Str) = [32, 43, 32] by decide +kernel]
    simp [List.append_assoc]
theorem sumT_plus {r : List Tm} (hne : r ≠ []) (hp : ∀ b ∈ r, ¬ b.2 < 0) : sumT r = Txt.join (" + " : Str) (r.map fun b => prodT b.1 b.2) := by
  cases r with
  | nil => exact absurd rfl hne
  | cons a r =>
    have h := tl_plus a r hp r.length (Nat.le_refl _)
    rw [List.take_length] at h
    exact ext_tl h
def absI (v : Int) : Int := if v < 0 then -v else v
theorem absI_nat (v : Int) : absI v = (v.natAbs : Int) := by
  unfold absI
  split <;> omega
theorem absI_pos (v : Int) : ¬ absI v < 0 := by
  rw [absI_nat]
  omega
/-- the products of a book, rising, without signs -/
def riseB (bk : List Tm) (ks : List (List Int)) : List Tm := ks.map fun p => (p, absI ((getB bk p).getD 0))
structure Rise (n : Nat) (rows : List Tm) : Prop where
  bk : BookOf n 10000 (Lf rows) rows
  rd : Rd n rows
  len : rows.length ≤ 10
  pos : ∀ b ∈ rows, ¬ b.2 < 0
  asc : ∀ a b, rows[0]? = some a → rows[1]? = some b → HT.lexLt b.1 a.1 = false
theorem riseB_ok {n : Nat} {ℓ : (List Int → Int) → Int} {bk : List Tm} {ks : List (List Int)} (B : BookOf n 10000 ℓ bk) (hp : ks.Perm (bk.map (·.1))) (hw : ks.Pairwise fun x y => HT.lexLt y x = false) (hl : bk.length ≤ 10) (bp : ∀ x ∈ bk, ∀ v ∈ x.1, v.natAbs ≤ 1000) : Rise n (riseB bk ks) := by
  have one : ∀ p ∈ ks, ∃ c, (p, c) ∈ bk ∧ getB bk p = some c := fun p h => by
    obtain ⟨x, hx, rfl⟩ := List.mem_map.mp (hp.mem_iff.mp h)
    exact ⟨x.2, hx, getB_mem B.nd hx⟩
  have mem : ∀ b ∈ riseB bk ks, ∃ c, (b.1, c) ∈ bk ∧ b.2 = (c.natAbs : Int) := fun b hb => by
    obtain ⟨p, hp', rfl⟩ := List.mem_map.mp hb
    obtain ⟨c, h1, h2⟩ := one p hp'
    refine ⟨c, h1, ?_⟩
    show absI ((getB bk p).getD 0) = _
    rw [h2, absI_nat]
    rfl
  have ek : (riseB bk ks).map (·.1) = ks := by
    unfold riseB
    rw [List.map_map]
    exact List.map_id _
  refine ⟨⟨?_, fun b hb => ?_, fun b hb => ?_, fun _ => rfl⟩, fun b hb => ?_, ?_, fun b hb => ?_, fun a b ha hb => ?_⟩
  · unfold NdB
    rw [ek]
    exact hp.nodup_iff.mpr B.nd
  · obtain ⟨c, h1, h2⟩ := mem b hb
    have := B.sz _ h1
    refine ⟨this.1, ?_⟩
    rw [h2]
    exact this.2
  · obtain ⟨c, h1, h2⟩ := mem b hb
    have h3 : c ≠ 0 := B.nz _ h1
    omega
  · obtain ⟨c, h1, h2⟩ := mem b hb
    have h3 := B.sz _ h1
    have h4 : c.natAbs ≤ 10000 := h3.2
    refine ⟨h3.1, fun v hv => Nat.lt_of_le_of_lt (bp _ h1 v hv) (by decide), ?_⟩
    rw [h2]
    exact Nat.lt_of_le_of_lt h4 (by decide)
  · have := hp.length_eq
    rw [List.length_map] at this
    unfold riseB
    rw [List.length_map]
    omega
  · obtain ⟨c, h1, h2⟩ := mem b hb
    omega
  · unfold riseB at ha hb
    rw [List.getElem?_map] at ha hb
    obtain ⟨p, hp0, rfl⟩ := Option.map_eq_some_iff.mp ha
    obtain ⟨p', hp1, rfl⟩ := Option.map_eq_some_iff.mp hb
    match ks, hw, hp0, hp1 with
    | x :: y :: s, hw, hp0, hp1 =>
      cases (Option.some.inj hp0)
      cases (Option.some.inj hp1)
      exact (List.pairwise_cons.mp hw).1 _ (.head _)
theorem riseB_take {bk : List Tm} {ks : List (List Int)} {i : Nat} {p : List Int} (h : ks[i]? = some p) : riseB bk (ks.take (i + 1)) = riseB bk (ks.take i) ++ [(p, absI ((getB bk p).getD 0))] := by
  unfold riseB
  rw [List.take_succ, h, List.map_append]
  rfl
theorem Rise.wr {n : Nat} {rows : List Tm} (R : Rise n rows) (n8 : n ≤ 8) : Wr rows := fun x hx => ⟨by rw [(R.rd x hx).1]; exact n8, fun v hv => Nat.lt_trans ((R.rd x hx).2.1 v hv) (by decide), Nat.lt_trans (R.rd x hx).2.2 (by decide)⟩
theorem sumT_one (p : List Int) {c : Int} (h : ¬ c < 0) : sumT [(p, c)] = prodT p c := by
  rw [sumT_plus (by simp) (fun b hb => by rw [List.mem_singleton.mp hb]; exact h)]
  exact ext_tl (by rw [join_eq, tl_join]; rfl)
theorem SumAt.put {C : Addr} {H : Hp} {L a : Addr} {xs : List V} {o : HO} {n : Nat} {r : List Tm} (e : H L = some (.lst xs)) (h : SumAt C H a n r) : SumAt C (upd H L o) a n r := by
  obtain ⟨dx, p, us, h1, h2, h3⟩ := h
  refine ⟨dx, p, us, ?_, ?_, h3.put e⟩
  · rw [upd_ne (ne_of h1 e (by intro z; cases z))]
    exact h1
  · rw [upd_ne (ne_of h2 e (by intro z; cases z))]
    exact h2
/-- what reading a bent text comes to -/
def Told (C : Addr) (n : Nat) (bent : Str) (L : Addr) (wd : Str) (H : Hp) : Prop := (wd = "" ∧ ∃ (p : Addr) (r : List Tm), H L = some (.lst [.ref p]) ∧ SumAt C H p n r ∧ Falls r ∧ (∀ b ∈ r, b.2 ≠ 0) ∧ Sized n (400 * 10 ^ 30) r ∧ Wr r ∧ r.length ≤ 400 ∧ sumT r = bent) ∨ (wd = "bad text" ∧ ∀ s, Good n s → sumT s ≠ bent)
theorem Told.same {C : Addr} {n : Nat} {bent : Str} {L : Addr} {wd : Str} {H H' : Hp} (s : Same H H') (h : Told C n bent L wd H) : Told C n bent L wd H' := by
  rcases h with ⟨h1, p, r, h2, h3, h4⟩ | h
  · exact .inl ⟨h1, p, r, s _ _ h2, h3.same s, h4⟩
  · exact .inr h
section
variable {P : Program} {w : World} {K : PySem.W.Frag} {mg : Str → Option Value} {base : Heap} {C CX' CE c1' c2' c3' c4' fX : Addr}
abbrev s_law : Stmt := topS 46
abbrev n_law : List Str := ["_law_script", "_law_feed_here", "_law_my_width", "_law_book_here", "_law_text", "_law_turn", "_law_at", "_law_sign", "_law_bent", "_law_told_here", "_law_word_here", "_law_pieces", "_law_some", "_law_odd", "_law_where", "e", "_law_powers_here", "_law_many"]
theorem sc_law : FnScope n_law ["_law_script"] (defScope s_law) := ⟨rfl, rfl, rfl, by decide +kernel, rfl, by decide +kernel, by decide +kernel⟩
def spLaw (K : PySem.W.Frag) (Pt : Addr) : Sp := fun vs H Q _ => ∃ (a : Addr) (ns : List Int), vs = [.ref a] ∧ SqL K H a (ns.map V.int) ∧ ns.length ≤ 63 ∧ H Pt = some (.tbl #[]) ∧ ∀ H', Q (.bl true) H'
theorem ok_law {f fR gW cc Pt : Addr} {fdR fdW : FuncData} {oc kV doc pm ct : Value} {od an : Option Addr} {osl : Array (Option Value)} (lk : K.lookup f = some ⟨oc, od, .func (PySem.W.fnOf "law" "law" (defArgs s_law) (defBody s_law) (defScope s_law) .none kV doc pm an (.ref cc) ct), osl⟩) (hcd : PySem.W.codeIn K (.ref cc) "law" = true) (T : Tx mg) (S : SumC K mg C)
    (c_law_feed : Cal P w K mg base CX0 1 "_law_feed" ["_law_script"] (spFeed K)) (c_law_draw : Cal P w K mg base CX0 1 "_law_draw" ["_law_feed_here", "_law_many"] spDraw) (c_law_pick : Cal P w K mg base CX0 2 "_law_pick" ["_law_feed_here", "_law_row"] spPick)
    (c_law_terms : Cal P w K mg base CX0 4 "_law_terms" ["_law_feed_here", "_law_my_width", "_law_most"] spTerms) (c_law_book : Cal P w K mg base CX0 1 "_law_book" ["_law_terms_here"] spBook)
    (c_law_written : Cal P w K mg base CX0 2 "_law_written" ["_law_my_width", "_law_book_here"] spWritten) (m_terms : MetS P w K mg base 1 C "terms" ["self"] (spTermsM C))
    (FR : FnOk P w K mg base (L2.CX P w) 7 fR fdR ["text", "width"] (spRdS C CX')) (gR : mg "read_sum" = some (.ref fR)) (kR : PySem.W.keepIn K (.ref fR) = true) (kb1 : KBinds K fdR ["text", "width"] ["width"] pairL pairL)
    (TX : ErrC K mg "BadText" CX' fX CE) (nX : PySem.W.findIn K (.ref CX') "at" = some none) (teX : PySem.W.exmOne K (.ref CX') (.ref CX') = some true)
    (WB : WordW K mg base [(Pt, qL "law")] gW CE c1' c2' c3' c4' cc Pt (qL "law") fdW) : FnOk P w K mg base CX0 10 f (PySem.W.fnOf "law" "law" (defArgs s_law) (defBody s_law) (defScope s_law) .none kV doc pm an (.ref cc) ct) ["_law_script"] (spLaw K Pt) := by
  refine fn_of lk hcd sc_law (fun vs H Q E h => ?_) (fun A outer s H vs Q E hr h => ?_)
  · obtain ⟨a, ns, rfl, _⟩ := h
    rfl
  · obtain ⟨a, ns, rfl, hS, hlen, hP, q⟩ := h
    suffices hh : ∃ t, PSs (cxOf CX0 P w K mg base n_law "law" (defScope s_law) f (.ref cc) A outer s H E).nox (defBody s_law) t ∧ t { nx := fun _ H' => Q .non H', rt := Q } (L2.start n_law [.ref a]) H by
      obtain ⟨t, h1, h2⟩ := hh
      exact ⟨t, h1.nox, h2⟩
    have hu := hr.units
    refine ⟨_, (pss_cons (ps_set (i := 1) sc_law.nd rfl (.inl rfl) (pe_cal c_law_feed (hr.mono (by decide)) (by rfl) (pa_cons (pv 0) pa_nil)))
  (pss_cons (ps_set (i := 2) sc_law.nd rfl (.inr rfl) (pe_op op_add pe_int (pe_cal c_law_draw (hr.mono (by decide)) (by rfl) (pa_cons (pv 1) (pa_cons pe_int pa_nil)))))
  (pss_cons (ps_set (i := 3) sc_law.nd rfl (.inr rfl) (pe_cal c_law_book (hr.mono (by decide)) (by rfl) (pa_cons (pe_lc (own := [("_law_powers_here", 16), ("_law_many", 17)]) (by rfl) sc_law.nd (p_list (K := K) (pe_cal c_law_terms (hr.mono (by decide)) (by rfl) (pa_cons (pv 1) (pa_cons (pv 2) (pa_cons pe_int pa_nil))))) (blkOk_by (own := [("_law_powers_here", 16), ("_law_many", 17)]) (N := n_law) (sc := defScope s_law) (by decide +kernel)) (fun _ _ _ _ _ => (g_tup (K := K) (n := 2) rfl (pgs_cons (pg_name (i := 16) sc_law.nd rfl (.inl rfl)) (pgs_cons (pg_name (i := 17) sc_law.nd rfl (.inl rfl)) pgs_nil)))) (fun _ _ _ _ _ => pts_nil) (fun _ _ _ _ _ => (pe_tup (pa_cons (pv 16) (pa_cons (pe_op op_sub (pe_op op_mod (pv 17) pe_int) pe_int) pa_nil))))) pa_nil)))
  (pss_cons (ps_set (i := 4) sc_law.nd rfl (.inl rfl) (pe_cal c_law_written (hr.mono (by decide)) (by rfl) (pa_cons (pv 2) (pa_cons (pv 3) pa_nil))))
  (pss_cons (ps_for PassesOwn.never rfl (pi_range1 (by rfl) T.range (pa_cons pe_int pa_nil)) (pg_name (i := 5) sc_law.nd rfl (.inl rfl))
    (pss_cons (ps_set (i := 6) sc_law.nd rfl (.inl rfl) (pe_cal c_law_draw (hr.mono (by decide)) (by rfl) (pa_cons (pv 1) (pa_cons (pe_op op_add (pe_callB call_len_str (by rfl) T.len PySem.boot_len (pa_cons (pv 4) pa_nil)) pe_int) pa_nil))))
    (pss_cons (ps_set (i := 7) sc_law.nd rfl (.inl rfl) (pe_cal c_law_pick (hr.mono (by decide)) (by rfl) (pa_cons (pv 1) (pa_cons (pe_lst (pa_cons pe_str (pa_cons pe_str (pa_cons pe_str (pa_cons pe_str (pa_cons pe_str (pa_cons pe_str (pa_cons pe_str (pa_cons pe_str (pa_cons pe_str (pa_cons pe_str (pa_cons pe_str pa_nil)))))))))))) pa_nil))))
    (pss_cons (ps_set (i := 8) sc_law.nd rfl (.inr rfl) (pe_lst (pa_cons (pe_op op_add_str (pe_op op_add_str (pe_slice sl_str (pv 4) po_none (po_some (pv 6))) (pv 7)) (pe_slice sl_str (pv 4) (po_some (pv 6)) po_none)) (pa_cons (pe_op op_add_str (pe_slice sl_str (pv 4) po_none (po_some (pv 6))) (pe_slice sl_str (pv 4) (po_some (pe_op op_add (pv 6) pe_int)) po_none)) (pa_cons (pe_op op_add_str (pe_op op_add_str (pe_slice sl_str (pv 4) po_none (po_some (pv 6))) (pv 7)) (pe_slice sl_str (pv 4) (po_some (pe_op op_add (pv 6) pe_int)) po_none)) pa_nil)))))
    (pss_cons (ps_set (i := 8) sc_law.nd rfl (.inr rfl) (pe_ix (i_list (K := K)) (pv 8) (pe_cal c_law_draw (hr.mono (by decide)) (by rfl) (pa_cons (pv 1) (pa_cons pe_int pa_nil))) (fun _ _ => rfl)))
    (pss_cons (ps_set (i := 9) sc_law.nd rfl (.inr rfl) (pe_lst pa_nil))
    (C8.pss_cut (ps_set (i := 10) sc_law.nd rfl (.inl rfl) (pe_wd (k := 7) WB rfl (hr.mono (by decide)) (by rfl) (lamS_by (sc := defScope s_law) (by decide +kernel)) (fun A outer s H E f c' hr' => p_bmR (K := K) PySem.F.plainAttrs_list PySem.F.slot_list_append PySem.F.type_list_append mt_append (pv 9) (pa_cons (pe_callK FR (hr'.mono (by decide)) (by rfl) gR kR kb1 (passE rfl rfl rfl rfl) (pa_cons (pv 8) pa_nil) (pk_cons (pv 2) pk_nil)) pa_nil))))
    (C8.pss_cut (ps_if (pt_cmpR (o_notin (K := K)) (pv 10) (pe_tup (pa_cons pe_str (pa_cons pe_str pa_nil))) (by rfl))
      (pss_one (ps_ret pe_bl))
      pss_nil)
    (C8.pss_cut (ps_if (PW.pt (pw_and (pt_cmpR op_eq (pv 10) pe_str (nomark _)) (pw_and1 (pt_cmpR op_ne (pe_cal c_law_written (hr.mono (by decide)) (by rfl) (pa_cons (pv 2) (pa_cons (pe_cal c_law_book (hr.mono (by decide)) (by rfl) (pa_cons (pe_mtS0 m_terms (hr.mono (by decide)) (pe_ix (i_list (K := K)) (pv 9) pe_int (fun _ _ => rfl))) pa_nil)) pa_nil))) (pv 8) (nomark _)))))
      (pss_one (ps_ret pe_bl))
      pss_nil)
    (pss_one (ps_if (PW.pt (pw_and (pt_cmpR op_ne (pv 10) pe_str (nomark _)) (pw_and1 (pt_cmpR op_eq (pv 8) (pv 4) (nomark _)))))
      (pss_one (ps_ret pe_bl))
      pss_nil)))))))))))
  (C8.pss_cut (ps_set (i := 11) sc_law.nd rfl (.inr rfl) (pe_lc (own := [("_law_powers_here", 16)]) (by rfl) sc_law.nd (p_list (K := K) (pe_callB (cr_sortTI (K := K)) (by rfl) T.sorted (by decide +kernel) (pa_cons (pe_callTy (call_list_dT rfl) (by rfl) T.list (by decide +kernel) (pa_cons (pv 3) pa_nil)) pa_nil))) (blkOk_by (own := [("_law_powers_here", 16)]) (N := n_law) (sc := defScope s_law) (by decide +kernel)) (fun _ _ _ _ _ => (pg_name (i := 16) sc_law.nd rfl (.inl rfl))) (fun _ _ _ _ _ => pts_nil) (fun _ _ _ _ _ => (pe_cal c_law_written (hr.mono (by decide)) (by rfl) (pa_cons (pv 2) (pa_cons (pe_disp1T (Nat.lt_of_succ_lt (u1 hu)) (pv 16) (pe_callB call_abs (by rfl) T.abs (by decide +kernel) (pa_cons (pe_dget (u1 hu) (pv 3) (pv 16) (fun _ _ => rfl)) pa_nil))) pa_nil))))))
  (C8.pss_cut (ps_if (PW.pt (pw_and (pt_cmpR op_gt (pe_callB (c_len (K := K)) (by rfl) T.len PySem.boot_len (pa_cons (pv 11) pa_nil)) pe_int (nomark _)) (pw_and1 (pt_cmpR op_ne (pe_wd (k := 7) WB rfl (hr.mono (by decide)) (by rfl) (lamS_by (sc := defScope s_law) (by decide +kernel)) (fun A outer s H E f c' hr' => pe_callK FR (hr'.mono (by decide)) (by rfl) gR kR kb1 (passE rfl rfl rfl rfl) (pa_cons (p_join (K := K) pe_str (pv 11)) pa_nil) (pk_cons (pv 2) pk_nil))) pe_str (nomark _)))))
    (pss_one (ps_ret pe_bl))
    pss_nil)
  (pss_cons (ps_set (i := 12) sc_law.nd rfl (.inl rfl) (pe_lst (pa_cons pe_str (pa_cons pe_str (pa_cons pe_str (pa_cons pe_str (pa_cons pe_str (pa_cons pe_str (pa_cons pe_str (pa_cons pe_str (pa_cons pe_str (pa_cons pe_str (pa_cons pe_str (pa_cons pe_str (pa_cons pe_str (pa_cons pe_str (pa_cons pe_str (pa_cons pe_str (pa_cons pe_str pa_nil)))))))))))))))))))
  (pss_cons (ps_set (i := 12) sc_law.nd rfl (.inl rfl) (pe_op op_cat (pv 12) (pe_lst (pa_cons pe_str (pa_cons pe_str (pa_cons pe_str (pa_cons pe_str (pa_cons pe_str (pa_cons pe_str (pa_cons pe_str (pa_cons pe_str (pa_cons pe_str (pa_cons pe_str (pa_cons pe_str (pa_cons pe_str (pa_cons pe_str (pa_cons (pe_op op_repS pe_str pe_int) pa_nil)))))))))))))))))
  (pss_cons (ps_for PassesOwn.never rfl (p_list (K := K) (pv 12)) (pg_name (i := 13) sc_law.nd rfl (.inl rfl))
    (pss_cons (ps_set (i := 14) sc_law.nd rfl (.inl rfl) (pe_un un_neg pe_int))
    (pss_cons (ps_try_as (i := 15) rfl rfl sc_law.nd rfl rfl ⟨rfl, by decide, .inl TX.g⟩ L2.takes0 (fun W pn xe tk _ => pss_one (ps_expr (pe_callKS FR (hr.mono (by decide)) (by rfl) gR kR kb1 (fun σ => passAt tk σ) (pa_cons (pv 13) pa_nil) (pk_cons (pv 2) pk_nil)))) (fun a oe cls d pn hz hf => pss_one (ps_set (i := 14) sc_law.nd rfl (.inl rfl) (pe_xf TX.xf nX hz hf (pv 15)))))
    (pss_one (ps_if (pt_cmpR op_ne (pv 14) pe_int (nomark _))
      (pss_one (ps_ret pe_bl))
      pss_nil)))))
  (pss_one (ps_ret pe_bl)))))))))))), ?_⟩
    refine ⟨.ref a, rfl, a, ns, rfl, hS, fun f l H1 s1 nf hf1 => ?_⟩
    have tb1 : Tabs [(Pt, qL "law")] H1 := fun p hp => by
      rw [List.mem_singleton.mp hp]
      exact TabS.nil (s1 _ _ hP)
    clear s1 hP hS hlen nf
    refine ⟨.ref f, rfl, f, l, 8, rfl, hf1, by decide, by decide, fun u H2 u0 u1 sb2 hf2 => ⟨_, _, rfl, rfl, ?_⟩⟩
    obtain ⟨m, rfl⟩ : ∃ m : Nat, u = (m : Int) := ⟨u.toNat, by omega⟩
    obtain ⟨n, en⟩ : ∃ n : Nat, (1 : Int) + (m : Int) = (n : Int) := ⟨m + 1, by omega⟩
    refine (congrArg (fun z : Int => gName 2 (V.int z) _ _ _) en).mpr ?_
    have n1 : 1 ≤ n := by omega
    have n8 : n ≤ 8 := by omega
    have tb2 := Tabs.but sb2 hf1 tb1
    refine ⟨.ref f, rfl, .int n, rfl, f, l, n, 5, rfl, hf2, n8, by decide, fun R ts tm H3 sb3 hf3 R0 eR hT sm ln => ?_⟩
    have tb3 := Tabs.but sb3 hf2 tb2
    -- the bent counts
    refine ⟨R, rfl, ⟨_, SqL.of eR⟩, fun D eD => ?_⟩
    let bend : Tm → Tm := fun x => (x.1, x.2 % 2001 - 1000)
    refine lc_list (K := K) (a := R) (xs := ts.map V.ref) (fun j H' => ∃ us : List Addr, H' D = some (.lst (us.map V.ref)) ∧ TermsAt H' us ((tm.take j).map bend) ∧ Same H3 H') ⟨[], upd_same, .nil, same_upd eD⟩ (fun j H' _ ⟨_, _, _, s⟩ => SqL.of (s _ _ eR)) ?_ ?_
    · rintro j v H4 hv ⟨us, e4, hT4, s4⟩
      obtain ⟨t, et, rfl⟩ := ref_at hv
      obtain ⟨x, ex, b, hb1, hb2⟩ := (hT.same s4).at et
      have hj := (List.getElem?_eq_some_iff.mp ex).1
      have lts : us.length = j := by
        rw [hT4.1, List.length_map, List.length_take]
        omega
      refine ⟨t, _, rfl, SqT.of hb1, rfl, _, _, rfl, _, _, rfl, rfl, rfl, .ref b, rfl, .int x.2, rfl, x.2, 2001, rfl, rfl, (show (0 : Int) < 2001 by decide), _, _, rfl, rfl, by show 2 ≤ sizeLine; decide, fun u eu => ?_⟩
      have su := same_upd (o := .tup [.ref b, .int (x.2 % 2001 - 1000)]) eu
      have e4' := su _ _ e4
      refine ⟨_, e4', by rw [List.length_map]; exact small1000 (by omega), us ++ [u], ?_, ?_, Same.updN (s4.trans su) eD⟩
      · rw [upd_same, List.map_append]
        rfl
      · rw [List.take_succ, ex, List.map_append]
        exact TermsAt.put ((hT4.same su).snoc ⟨b, upd_same, su _ _ hb2⟩) e4'
    · rintro H4 ⟨us, e4, hT4, s4⟩
      rw [List.length_map, hT.1, List.take_length] at hT4
      have sz : Sized n 1000 (tm.map bend) := fun y hy => by
        obtain ⟨x, hx, rfl⟩ := List.mem_map.mp hy
        refine ⟨(sm x hx).1, ?_⟩
        show (x.2 % 2001 - 1000).natAbs ≤ 1000
        omega
      refine ⟨D, us, tm.map bend, n, 1000, rfl, e4, hT4, by rw [List.length_map]; omega, sz, fun d bk H5 s5 d0 eB B lb => ?_⟩
      rw [List.length_map] at lb B
      have lb10 : bk.length ≤ 10 := by omega
      have bp : ∀ x ∈ bk, ∀ v ∈ x.1, v.natAbs ≤ 1000 := fun x hx v hv => by
        obtain ⟨y, hy, e⟩ := B.from x hx
        obtain ⟨z, hz, rfl⟩ := List.mem_map.mp hy
        rw [← e] at hv
        exact (sm z hz).2.2 v hv
      have B2 : BookOf n 10000 (Lf (tm.map bend)) bk := ⟨B.nd, B.sz.mono (by have := Nat.mul_le_mul_right 1000 ln; omega), B.nz, B.lf⟩
      generalize Lf (tm.map bend) = ℓ at B2
      have s35 := s4.trans s5
      have hf5 := hf3.same s35
      have tb5 := tb3.ext s35
      clear B sz hT4 e4 s4 s5 s35 d0 hf3 tb3 hT eR R0 sm ln lb hf1 hf2 tb1 tb2 sb2 sb3 u0 u1
      -- its text
      refine ⟨.int n, rfl, .ref d, rfl, d, bk, n, 10000, ℓ, rfl, eB, B2, by omega, n8, by decide, fun x hx v hv => Nat.lt_of_le_of_lt (bp x hx v hv) (by decide), fun r H6 s6 cn lr => ?_⟩
      have hf6 := hf5.same s6
      have tb6 := tb5.ext s6
      have eB6 := s6 _ _ eB
      have pm := cn.perm B2
      have G : Good n r := ⟨fun x hx => ⟨(B2.sz x (pm.mem_iff.mp hx)).1, fun v hv => Nat.lt_of_le_of_lt (bp x (pm.mem_iff.mp hx) v hv) (by decide), Nat.lt_of_le_of_lt (B2.sz x (pm.mem_iff.mp hx)).2 (by decide)⟩, cn.fall, cn.nz, by omega⟩
      have wr : Wr r := fun x hx => ⟨by rw [(G.rd x hx).1]; exact n8, fun v hv => Nat.lt_trans ((G.rd x hx).2.1 v hv) (by decide), Nat.lt_trans (G.rd x hx).2.2 (by decide)⟩
      have lx : (sumT r).length ≤ 5031 := by
        have := sumT_len wr
        omega
      clear hf5 tb5 eB s6
      obtain ⟨text, ht⟩ : ∃ x, x = sumT r := ⟨_, rfl⟩
      rw [← ht] at lx
      refine (congrArg (fun z : Str => gName 4 (V.str z) _ _ _) ht.symm).mpr ?_
      refine ⟨5, rfl, by decide, by decide, ?_⟩
      refine for_range (fun i σ H' => ∃ (y5 y6 y7 y8 y9 y10 y11 y12 y13 y14 y15 y16 y17 : Option V), σ = [some (.ref a), some (.ref f), some (.int n), some (.ref d), some (.str text), y5, y6, y7, y8, y9, y10, y11, y12, y13, y14, y15, y16, y17] ∧ FeedAt H' f l ∧ Tabs [(Pt, qL "law")] H' ∧ BkAt H' d bk) ⟨none, none, none, none, none, none, none, none, none, none, none, none, none, rfl, hf6, tb6, eB6⟩ ?_ ?_
      · rintro i σ H7 hi ⟨y5, y6, y7, y8, y9, y10, y11, y12, y13, y14, y15, y16, y17, rfl, hf7, tb7, eB7⟩
        have ln9 : ∀ {k : Nat}, k ≤ 20000 → k ≤ sizeLine := fun h => Nat.le_trans h (by decide)
        refine ⟨.ref f, rfl, .str text, rfl, text, rfl, ln9 (by omega), _, _, rfl, rfl, f, l, _, rfl, hf7, by omega, Nat.lt_trans (show ((text.length : Int) + 1).natAbs < 10000 by omega) (by decide), fun v H9 v0 v1 sb9 hf9 => ?_⟩
        have tb9 := Tabs.but sb9 hf7 tb7
        have eB9 := sb9 _ _ (hf7.neO eB7 (fun xs z => by cases z)) eB7
        refine ⟨.ref f, rfl, by show 11 ≤ sizeLine; decide, fun o eo => ?_⟩
        have so := same_upd (o := .lst [.str "0", .str "1", .str "2", .str "-", .str "+", .str " ", .str "^", .str "a", .str "b", .str "i", .str "h"]) eo
        refine ⟨f, l, o, _, rfl, hf9.same so, upd_same, hf9.ne eo, by show 0 < 11; decide, by show 11 < 1000; decide, fun sg H10 hv sb10 hf10 => ?_⟩
        have tb10 := Tabs.but sb10 (hf9.same so) (tb9.ext so)
        have eB10 := sb10 _ _ ((hf9.same so).neO (so _ _ eB9) (fun xs z => by cases z)) (so _ _ eB9)
        obtain ⟨z, rfl, lz⟩ : ∃ z : Str, sg = .str z ∧ z.length = 1 := by
          simp only [List.mem_cons, List.not_mem_nil, or_false] at hv
          rcases hv with rfl | rfl | rfl | rfl | rfl | rfl | rfl | rfl | rfl | rfl | rfl <;> exact ⟨_, rfl, by decide⟩
        clear hv sb10 so eo sb9 hf7 hf9 tb7 tb9 eB7 eB9
        have ea : ∀ a b : Str, (a ++ b).length = a.length + b.length := fun a b => Str.length_append a b
        have c1 : (cutS text none (some v)).length ≤ v.toNat := by
          have := cut_to text v.toNat
          rw [show ((v.toNat : Nat) : Int) = v by omega] at this
          exact this
        have c2 : (cutS text (some v) none).length ≤ text.length - v.toNat := by
          have := cut_from text v.toNat
          rw [show ((v.toNat : Nat) : Int) = v by omega] at this
          exact this
        have c3 : (cutS text (some (v + 1)) none).length ≤ text.length - (v.toNat + 1) := by
          have := cut_from text (v.toNat + 1)
          rw [show (((v.toNat + 1 : Nat)) : Int) = v + 1 by omega] at this
          exact this
        refine ⟨.str text, rfl, .int v, rfl, v, rfl, text, rfl, ln9 (by omega), .str z, rfl, _, _, rfl, rfl, ln9 (by omega), .str text, rfl, .int v, rfl, v, rfl, text, rfl, ln9 (by omega), _, _, rfl, rfl, ln9 (by rw [ea]; omega), ?_⟩
        refine ⟨.str text, rfl, .int v, rfl, v, rfl, text, rfl, ln9 (by omega), .str text, rfl, .int v, rfl, _, _, rfl, rfl, v + 1, rfl, text, rfl, ln9 (by omega), _, _, rfl, rfl, ln9 (by omega), ?_⟩
        refine ⟨.str text, rfl, .int v, rfl, v, rfl, text, rfl, ln9 (by omega), .str z, rfl, _, _, rfl, rfl, ln9 (by omega), .str text, rfl, .int v, rfl, _, _, rfl, rfl, v + 1, rfl, text, rfl, ln9 (by omega), _, _, rfl, rfl, ln9 (by rw [ea]; omega), ?_⟩
        obtain ⟨b1, eb1⟩ : ∃ b1, cutS text none (some v) ++ z ++ cutS text (some v) none = b1 := ⟨_, rfl⟩
        obtain ⟨b2, eb2⟩ : ∃ b2, cutS text none (some v) ++ cutS text (some (v + 1)) none = b2 := ⟨_, rfl⟩
        obtain ⟨b3, eb3⟩ : ∃ b3, cutS text none (some v) ++ z ++ cutS text (some (v + 1)) none = b3 := ⟨_, rfl⟩
        have lb1 : b1.length ≤ 10000 := by
          rw [← eb1, ea, ea]
          omega
        have lb2 : b2.length ≤ 10000 := by
          rw [← eb2, ea]
          omega
        have lb3 : b3.length ≤ 10000 := by
          rw [← eb3, ea, ea]
          omega
        refine ⟨by show 3 ≤ sizeLine; decide, fun o eo => ?_⟩
        rw [eb1, eb2, eb3] at *
        clear eb1 eb2 eb3 c1 c2 c3
        have so := same_upd (o := .lst [.str b1, .str b2, .str b3]) eo
        refine ⟨.ref o, rfl, .ref f, rfl, f, l, 3, rfl, hf10.same so, by decide, by decide, fun u H12 u0 u1 sb12 hf12 => ?_⟩
        obtain ⟨k, rfl⟩ : ∃ k : Nat, u = (k : Int) := ⟨u.toNat, by omega⟩
        have ho := sb12 _ _ (hf10.ne eo) upd_same
        have tb12 := Tabs.but sb12 (hf10.same so) (tb10.ext so)
        have eB12 := sb12 _ _ ((hf10.same so).neO (so _ _ eB10) (fun xs z => by cases z)) (so _ _ eB10)
        obtain ⟨bent, ek, lb⟩ : ∃ y : Str, ([V.str b1, .str b2, .str b3] : List V)[k]? = some (.str y) ∧ y.length ≤ 10000 := by
          have : k = 0 ∨ k = 1 ∨ k = 2 := by omega
          rcases this with rfl | rfl | rfl
          · exact ⟨b1, rfl, lb1⟩
          · exact ⟨b2, rfl, lb2⟩
          · exact ⟨b3, rfl, lb3⟩
        refine ⟨o, _, _, _, rfl, rfl, SqL.of ho, atI_nat ek, ?_⟩
        clear ek ho sb12 hf10 so eo lb1 lb2 lb3 tb10 eB10 u0 u1
        -- told, and the word
        refine ⟨Nat.zero_le _, fun L eL => ?_⟩
        have sL := same_upd (o := .lst []) eL
        have nLf : L ≠ f := hf12.ne eL
        have nLl : L ≠ l := hf12.ne2 eL
        have tb13 := tb12.ext sL
        have hf13 := hf12.same sL
        have eB13 := sL _ _ eB12
        have hL13 := upd_same (H := H12) (a := L) (o := .lst [])
        generalize upd H12 L (.lst []) = H13 at tb13 hL13 hf13 eB13
        clear tb12 hf12 eB12 eL sL
        refine ⟨fun σ H' => ∃ wd : Str, σ = [some (.ref a), some (.ref f), some (.int n), some (.ref d), some (.str text), some (.int (0 + i)), some (.int v), some (.str z), some (.str bent), some (.ref L), some (.str wd), y11, y12, y13, y14, y15, y16, y17] ∧ FeedAt H' f l ∧ Tabs [(Pt, qL "law")] H' ∧ BkAt H' d bk ∧ Told C n bent L wd H', ?_, ?_⟩
        · refine ⟨tb13, fun H14 x14 tb14 => ?_⟩
          have hL14 := x14 _ _ hL13 (fun ps z => by cases z)
          have hf14 := hf13.ext x14
          have eB14 := x14 _ _ eB13 (fun ps z => by cases z)
          refine ⟨.ref L, rfl, .inl ⟨rfl, _, SqL.of hL14⟩, .str bent, rfl, .int n, rfl, bent, n, rfl, lb, n8, fun hno d' H' s hd => ⟨.str "bad text", (TX.at1 (by decide) hd).wide, "bad text", rfl, hf14.same s, tb14.ext s, s _ _ eB14, .inr ⟨rfl, hno⟩⟩, fun r' p H' g1 g2 g3 g4 g5 g6 _ _ s hS => ?_⟩
          have hL15 := s _ _ hL14
          have eB15 := s _ _ eB14
          refine ⟨L, _, _, rfl, rfl, hL15, by show 0 < sizeLine; decide, "", rfl, (hf14.same s).put nLf nLl, Tabs.put (tb14.ext s) hL15, ?_, .inl ⟨rfl, p, r', upd_same, hS.put hL15, g1, g2, g3, g4, g5, g6⟩⟩
          show upd _ _ _ _ = _
          rw [upd_ne (ne_of eB15 hL15 (by intro z; cases z))]
          exact eB15
        clear tb13 hL13 hf13 eB13 nLf nLl H13 H12 H10 H9
        rintro σ H14 ⟨wd, rfl, hf14, tb14, eB14, hc⟩
        refine ⟨fun σ H' => σ = [some (.ref a), some (.ref f), some (.int n), some (.ref d), some (.str text), some (.int (0 + i)), some (.int v), some (.str z), some (.str bent), some (.ref L), some (.str wd), y11, y12, y13, y14, y15, y16, y17] ∧ FeedAt H' f l ∧ Tabs [(Pt, qL "law")] H' ∧ BkAt H' d bk ∧ Told C n bent L wd H', ?_, ?_⟩
        · refine ⟨.str wd, rfl, by show 2 ≤ sizeLine; decide, fun t et => ⟨t, _, rfl, .inr (SqT.of upd_same), rfl, rfl, _, rfl, ite2 (fun y => ?_) (fun _ => ?_)⟩⟩
          · exfalso
            rcases hc with ⟨rfl, _⟩ | ⟨rfl, _⟩
            · exact absurd y (by decide +kernel)
            · exact absurd y (by decide +kernel)
          · have st := same_upd (o := .tup [.str "", .str "bad text"]) et
            exact ⟨rfl, hf14.same st, tb14.ext st, st _ _ eB14, hc.same st⟩
        clear tb14 hc hf14 eB14 H14
        rintro σ H15 ⟨rfl, hf15, tb15, eB15, hc⟩
        refine ⟨fun σ H' => σ = [some (.ref a), some (.ref f), some (.int n), some (.ref d), some (.str text), some (.int (0 + i)), some (.int v), some (.str z), some (.str bent), some (.ref L), some (.str wd), y11, y12, y13, y14, y15, y16, y17] ∧ FeedAt H' f l ∧ Tabs [(Pt, qL "law")] H' ∧ BkAt H' d bk, ?_, ?_⟩
        · refine ⟨.str wd, rfl, rfl, _, rfl, ite2 (fun y => ?_) (fun _ => iteF ⟨rfl, hf15, tb15, eB15⟩)⟩
          have y := V.str.inj (of_decide_eq_true y)
          rcases hc with ⟨_, p, r', h1, h2, g1, g2, g3, g4, g5, g6⟩ | ⟨hw, _⟩
          · obtain ⟨dx, px, us, i1, i2, i3⟩ := id h2
            have cr : Cn (Lf r') r' := ⟨g1, g2, fun _ => rfl⟩
            refine ⟨.int n, rfl, .ref L, rfl, L, _, 0, .ref p, rfl, rfl, SqL.of h1, atI_nat (j := 0) rfl, p, dx, _, rfl, i1, rfl, p, n, r', rfl, h2, fun L1 u1 H16 s16 L0 e16 hT16 => ?_⟩
            refine ⟨L1, u1, r', n, 400 * 10 ^ 30, rfl, e16, hT16, by omega, g3, fun d2 b2 H17 s17 _ eB2 B3 lb2 => ?_⟩
            have hM : r'.length * (400 * 10 ^ 30) < 2 ^ 200 := Nat.lt_of_le_of_lt (Nat.mul_le_mul_right _ g5) (by decide)
            refine ⟨d2, b2, n, _, _, rfl, eB2, B3, by omega, n8, hM, fun x hx v' hv' => ?_, fun r3 H18 s18 cn3 _ => ?_⟩
            · obtain ⟨y', hy', e'⟩ := B3.from x hx
              rw [← e'] at hv'
              exact (g4 y' hy').2.1 v' hv'
            · have er : r3 = r' := cn3.uniq cr
              subst er
              have s := (s16.trans s17).trans s18
              refine ⟨.str bent, rfl, rfl, _, rfl, ite2 (fun z' => ?_) (fun _ => ⟨rfl, hf15.same s, tb15.ext s, s _ _ eB15⟩)⟩
              rw [g6] at z'
              exact absurd z' (by simp)
          · exact absurd (y.symm.trans hw) (by decide)
        rintro σ H16 ⟨rfl, hf16, tb16, eB16⟩
        refine ⟨.str wd, rfl, rfl, _, rfl, ite2 (fun y => ?_) (fun _ => iteF ⟨_, _, _, _, _, _, _, _, _, _, _, _, _, rfl, hf16, tb16, eB16⟩)⟩
        refine ⟨.str bent, rfl, .str text, rfl, rfl, _, rfl, ite2 (fun z' => ?_) (fun _ => ⟨_, _, _, _, _, _, _, _, _, _, _, _, _, rfl, hf16, tb16, eB16⟩)⟩
        exfalso
        rcases hc with ⟨rfl, _⟩ | ⟨_, hno⟩
        · exact absurd y (by decide)
        · exact hno r G (ht.symm.trans (V.str.inj (of_decide_eq_true z')).symm)
      · rintro σ H7 ⟨y5, y6, y7, y8, y9, y10, y11, y12, y13, y14, y15, y16, y17, rfl, hf7, tb7, eB7⟩
        -- the pieces
        refine ⟨fun σ H' => ∃ (Lp : Addr) (rows : List Tm), σ = [some (.ref a), some (.ref f), some (.int n), some (.ref d), some (.str text), y5, y6, y7, y8, y9, y10, some (.ref Lp), y12, y13, y14, y15, y16, y17] ∧ Tabs [(Pt, qL "law")] H' ∧ H' Lp = some (.lst ((rows.map fun b => prodT b.1 b.2).map V.str)) ∧ Rise n rows, ?_, ?_⟩
        · refine ⟨.ref d, rfl, d, _, rfl, .inl eB7, fun p bs ep hk => ?_⟩
          have sp := same_upd (o := .lst (bs.map V.ref)) ep
          obtain ⟨k1, k2⟩ := keys_of hk
          have k3 : ∀ b ∈ bs, keyOf (upd H7 p (.lst (bs.map V.ref))) b = keyOf H7 b := fun b hb => by
            obtain ⟨q', hq'⟩ := k1 b hb
            rw [keyOf_at hq', keyOf_at (sp _ _ hq')]
          have k4 : bs.map (keyOf (upd H7 p (.lst (bs.map V.ref)))) = bk.map (·.1) := by
            rw [← k2]
            exact List.map_congr_left k3
          refine ⟨p, bs, rfl, SqL.of upd_same, fun b hb => ?_, fun h2 b hb => ?_, fun ts' p2 hp hw ep2 => ?_⟩
          · obtain ⟨q', hq'⟩ := k1 b hb
            exact ⟨q', sp _ _ hq'⟩
          · refine nd_keys B2.nd B2.sz ?_ _ ?_
            · rw [← k4, List.length_map]
              exact h2
            · rw [← k4]
              exact List.mem_map_of_mem hb
          · generalize hH1 : upd H7 p (.lst (bs.map V.ref)) = H1 at *
            have sp2 := same_upd (o := .lst (ts'.map V.ref)) ep2
            have pm2 : (ts'.map (keyOf H1)).Perm (bk.map (·.1)) := by
              rw [← k4]
              exact hp.map _
            have pw : (ts'.map (keyOf H1)).Pairwise fun x y => HT.lexLt y x = false := by
              rw [List.pairwise_map]
              exact hw
            have kt : ∀ b ∈ ts', ∃ q : List Int, H1 b = some (.tup (q.map V.int)) := fun b hb => by
              obtain ⟨q', hq'⟩ := k1 b (hp.mem_iff.mp hb)
              exact ⟨q', sp _ _ hq'⟩
            have RS := riseB_ok B2 pm2 pw lb10 bp
            have sH : Same H7 (upd H1 p2 (.lst (ts'.map V.ref))) := sp.trans sp2
            have eB8 := sH _ _ eB7
            have e8 := upd_same (H := H1) (a := p2) (o := .lst (ts'.map V.ref))
            have kt2 : ∀ b ∈ ts', ∃ q : List Int, (upd H1 p2 (.lst (ts'.map V.ref))) b = some (.tup (q.map V.int)) ∧ keyOf H1 b = q := fun b hb => by
              obtain ⟨q', hq'⟩ := kt b hb
              exact ⟨q', sp2 _ _ hq', keyOf_at hq'⟩
            have tb8 := tb7.ext sH
            generalize (upd H1 p2 (.lst (ts'.map V.ref))) = H8 at eB8 e8 kt2 tb8
            clear kt sp2 sp k1 k2 k3 k4 hk sH hw hp ep ep2 hH1
            have ltk : ts'.length ≤ 10 := by
              have := pm2.length_eq
              rw [List.length_map, List.length_map] at this
              omega
            refine ⟨p2, rfl, ⟨_, SqL.of e8⟩, fun L eL => ?_⟩
            refine lc_list (K := K) (a := p2) (xs := ts'.map V.ref) (fun j H' => H' L = some (.lst (((riseB bk ((ts'.map (keyOf H1)).take j)).map fun b => prodT b.1 b.2).map V.str)) ∧ Same H8 H') ⟨upd_same, same_upd eL⟩ (fun j H' _ ⟨_, s⟩ => SqL.of (s _ _ e8)) ?_ ?_
            · rintro j x H9 hx ⟨e9, s9⟩
              obtain ⟨b, eb, rfl⟩ := ref_at hx
              have hj := (List.getElem?_eq_some_iff.mp eb).1
              obtain ⟨q, hq, kq⟩ := kt2 b (List.mem_of_getElem? eb)
              have ekj : (ts'.map (keyOf H1))[j]? = some q := by
                rw [List.getElem?_map, eb, ← kq]
                rfl
              have hqm : q ∈ bk.map (·.1) := pm2.mem_iff.mp (List.mem_of_getElem? ekj)
              obtain ⟨x, hxm, hxq⟩ := List.mem_map.mp hqm
              have gq : getB bk q = some x.2 := getB_mem B2.nd (by rw [← hxq]; exact hxm)
              have tk := riseB_take (bk := bk) ekj
              rw [gq] at tk
              have tk : riseB bk ((ts'.map (keyOf H1)).take (j + 1)) = riseB bk ((ts'.map (keyOf H1)).take j) ++ [(q, absI x.2)] := tk
              have zx := B2.sz x hxm
              have qn : q.length = n := by rw [← hxq]; exact zx.1
              refine ⟨rfl, .int n, rfl, fun dp edp => ?_⟩
              have sd := same_upd (o := .dT []) edp
              have ek : (upd H9 dp (.dT [])) b = some (.tup ((q.map Sum.inl : List Key).map L2.kV)) := by
                rw [kV_ints]
                exact sd _ _ (s9 _ _ hq)
              have dg : DGet (upd H9 dp (.dT [])) d (.ref b) (some (V.int x.2)) := by
                have h := DGet.t (sd _ _ (s9 _ _ eB8)) ek
                rw [enc_val, gq] at h
                exact h
              refine ⟨.ref b, rfl, .ref d, rfl, .ref b, rfl, d, _, rfl, dg, x.2, rfl, upd_same, b, q.map Sum.inl, rfl, ek, ?_⟩
              have B1 : BookOf n 10000 (Lf [(q, absI x.2)]) [(q, absI x.2)] := ⟨List.pairwise_singleton _ _, fun y hy => by
                rw [List.mem_singleton.mp hy, absI_nat]
                exact ⟨qn, by have := zx.2; show ((x.2.natAbs : Int)).natAbs ≤ _; rw [Int.natAbs_natCast]; exact this⟩, fun y hy => by
                rw [List.mem_singleton.mp hy, absI_nat]
                have := B2.nz x hxm
                show ((x.2.natAbs : Int)) ≠ 0
                omega, fun _ => rfl⟩
              refine ⟨dp, [(q, absI x.2)], n, 10000, _, rfl, upd_same, B1, by show 1 ≤ 400; decide, n8, by decide, fun y hy v' hv' => ?_, fun r1 H10 s10 cn1 _ => ?_⟩
              · rw [List.mem_singleton.mp hy] at hv'
                exact Nat.lt_of_le_of_lt (bp x hxm v' (by rw [hxq]; exact hv')) (by decide)
              · have er : r1 = [(q, absI x.2)] := cn1.uniq ⟨List.pairwise_singleton _ _, B1.nz, fun _ => rfl⟩
                subst er
                have sdd : Same H9 (upd (upd H9 dp (.dT [])) dp (.dT [(q.map Sum.inl, V.int (absI x.2))])) := Same.updN sd edp
                have s11 := sdd.trans s10
                refine ⟨_, s11 _ _ e9, by rw [List.length_map, List.length_map]; unfold riseB; rw [List.length_map, List.length_take]; exact small1000 (by rw [List.length_map]; omega), ?_, Same.updN (s9.trans s11) eL⟩
                rw [upd_same, tk, List.map_append, List.map_append, sumT_one q (absI_pos _)]
                rfl
            · rintro H9 ⟨e9, s9⟩
              rw [List.length_map, show (ts'.map (keyOf H1)).take ts'.length = ts'.map (keyOf H1) from List.take_of_length_le (by rw [List.length_map]; exact Nat.le_refl _)] at e9
              exact ⟨L, _, rfl, tb8.ext s9, e9, RS⟩
        clear hf7 tb7 eB7 H7
        rintro σ H8 ⟨Lp, rows, rfl, tb8, e8, RS⟩
        refine ⟨fun σ H' => ∃ y11 : Option V, σ = [some (.ref a), some (.ref f), some (.int n), some (.ref d), some (.str text), y5, y6, y7, y8, y9, y10, y11, y12, y13, y14, y15, y16, y17], ?_, ?_⟩
        · refine ⟨.ref Lp, rfl, Lp, _, rfl, .inl (SqL.of e8), _, _, rfl, rfl, _, rfl, ite2 (fun z => ?_) (fun _ => iteF ⟨_, rfl⟩)⟩
          have l2 : 1 < rows.length := by
            have := of_decide_eq_true z
            rw [List.length_map, List.length_map] at this
            omega
          have hne : rows ≠ [] := fun h => by rw [h] at l2; exact absurd l2 (by decide)
          have wr2 := RS.wr n8
          have lr := RS.len
          have lx2 : (sumT rows).length ≤ 10000 := by
            have := sumT_len wr2
            omega
          refine ⟨tb8, fun H9 x9 tb9 => ?_⟩
          have e9 := x9 _ _ e8 (fun ps z => by cases z)
          refine ⟨⟨_, rfl⟩, .ref Lp, rfl, " + ", Lp, _, rfl, rfl, .inl (SqL.of e9), ?_, ?_⟩
          · have h1 := sum_le (ys := rows.map fun b => prodT b.1 b.2) (m := 500) (fun y hy => by
              obtain ⟨b, hb, rfl⟩ := List.mem_map.mp hy
              obtain ⟨w1, w2, w3⟩ := wr2 b hb
              exact prodT_len w1 w2 w3)
            rw [List.length_map] at h1 ⊢
            have h2 : ((" + " : Str)).length = 3 := by decide
            rw [h2]
            omega
          · rw [← sumT_plus hne RS.pos]
            refine ⟨.int n, rfl, sumT rows, n, rfl, lx2, n8, fun _ dd H10 s10 hd => ⟨.str "bad text", (TX.at1 (by decide) hd).wide, rfl, _, rfl, ite2 (fun z' => absurd z' (by decide)) (fun _ => ⟨_, rfl⟩)⟩, fun r' p' H10 g1 g2 g3 g4 g5 g6 h0 h1 _ _ => ?_⟩
            exact (asc_no n8 RS.bk RS.rd l2 (by omega) RS.asc h0 h1 g6).elim
        clear tb8 e8 RS rows Lp y11
        rintro σ H9 ⟨y11, rfl⟩
        -- odd texts
        refine ⟨by show 17 ≤ sizeLine; decide, fun o1 eo1 => ?_⟩
        refine ⟨.ref o1, rfl, "1", 31, rfl, rfl, mulOk_of 1 31 (by decide) (by decide) (by decide) (by decide) (by decide), by show 14 ≤ sizeLine; decide, fun o2 eo2 => ?_⟩
        have so2 := same_upd (o := .lst [V.str "a + a", .str "a - a", .str "a^", .str "a^-", .str "a^01", .str "a^10000", .str "2^3", .str "A", .str "i", .str "a + ", .str "+ a", .str "- a", .str "a - -1", .str (Txt.mul "1" 31)]) eo2
        refine ⟨o1, o2, _, _, rfl, rfl, so2 _ _ upd_same, upd_same, by show 31 ≤ sizeLine; decide, fun o3 eo3 => ?_⟩
        have e3 := upd_same (H := (upd (upd H9 o1 (.lst [V.str "", .str "-", .str "+", .str "1a", .str "a^1", .str "a^0", .str "2 + a", .str " a", .str "a ", .str "a  + 1", .str "a -1", .str "a+1", .str "0a", .str "0 + a", .str "-0", .str "aa", .str "00"])) o2 (.lst [V.str "a + a", .str "a - a", .str "a^", .str "a^-", .str "a^01", .str "a^10000", .str "2^3", .str "A", .str "i", .str "a + ", .str "+ a", .str "- a", .str "a - -1", .str (Txt.mul "1" 31)]))) (a := o3) (o := .lst (oddX.map V.str))
        refine ⟨.ref o3, rfl, o3, rfl, ⟨_, SqL.of e3⟩, ?_⟩
        refine for_list (K := K) (a := o3) (xs := oddX.map V.str) (fun i σ H' => ∃ (y13 y14 y15 : Option V), σ = [some (.ref a), some (.ref f), some (.int n), some (.ref d), some (.str text), y5, y6, y7, y8, y9, y10, y11, some (.ref o3), y13, y14, y15, y16, y17] ∧ H' o3 = some (.lst (oddX.map V.str))) ⟨y13, y14, y15, rfl, e3⟩ (fun i σ H' _ ⟨_, _, _, _, e⟩ => SqL.of e) ?_ ?_
        · rintro i x σ H10 hx ⟨y13, y14, y15, rfl, e10⟩
          rw [List.getElem?_map] at hx
          obtain ⟨odd, eo, rfl⟩ := Option.map_eq_some_iff.mp hx
          have hm := List.mem_of_getElem? eo
          have ob := List.all_eq_true.mp (oddX_ok n1 n8) odd hm
          have ol := of_decide_eq_true (List.all_eq_true.mp oddX_len odd hm)
          refine ⟨1, rfl, ?_⟩
          refine ⟨.str odd, rfl, .int n, rfl, odd, n, rfl, by omega, n8, fun _ dd H11 s11 hd => ⟨true, teX, fun _ x hx => ?_, fun z => nomatch z⟩, fun r' p' H11 g1 g2 g3 g4 g5 g6 h0 h1 _ _ => (oddB_no ob h0 h1 g6).elim⟩
          refine ⟨.ref x, rfl, rfl, rfl, dd, _, .int 0, rfl, hd, rfl, ?_⟩
          refine ⟨.int 0, rfl, rfl, _, rfl, ite2 (fun z => absurd z (by decide)) (fun _ => ⟨_, _, _, rfl, ?_⟩)⟩
          exact s11 _ _ e10
        · rintro σ H10 ⟨y13, y14, y15, rfl, e10⟩
          exact q _
end
end Bw
set_option Elab.async false
set_option linter.all false
set_option maxRecDepth 100000
set_option maxHeartbeats 2000000
/-! ### the end where several defs hold lambdas -/
namespace LamX
open PySem PySem.Spec PyProof.Rows L2
theorem walk_ofOwns {l : PySem.W.OpenLaw} {n k : Nat} {q : Program} {loose : List Str} {XP : (Str → Option Value) → Heap → Prop} {YP : World → Heap → Prop} {d : DefRec} {K : Params → PySem.W.Frag} {CX : World → CXT} {x : Str}
    (hn : l.most = some n) (hn2 : n ≤ sizeLine) (hdf : d.params.defaults = []) (hr : Room k callerA) (hY : ∀ (w : World) (h : Heap), YP w h → (K w.params).In h)
    (F : ∀ (w : World) (mg : Str → Option Value) (fa : Addr) (h : Heap), YP w h → (K w.params).In h → h.Ns mainGlobals mg → mg d.name = some (.ref fa) → (∀ (y : Str) (f : Addr), ((recsOf q).any fun e => e.name == y) = true → mg y = some (.ref f) → OwnTab (K w.params) f h) → LawAtS l w (K w.params) (CX w) k n x mg fa h)
    (hCX : ∀ (w : World) (H : Hp) (s : Shared) (e : Value) (s' : Shared), CX w [] H s (fun _ _ _ => False) e s' → False) :
    PySem.W.WalkO q loose XP YP l.row.toRowW d [] (fun f vs => PySem.call f vs) := by
  refine Att.attach_callB hn hdf fun w s₀ s₁ mg mb fa o pm cd doc a vs ns G Y ho hd hcd hmg hobj hints hlen hbits hg => ?_
  have KX := hY w _ Y
  have own : ∀ (y : Str) (f : Addr), ((recsOf q).any fun e => e.name == y) = true → mg y = some (.ref f) → OwnTab (K w.params) f s₁.heap := fun y f hrec hmy c P o1 fd1 e dd vs1 sl k1 k2 k3 k4 k5 => by
    obtain ⟨dL, hm, hn1⟩ := List.any_eq_true.mp hrec
    have hn2 : dL.name = y := beq_iff_eq.mp hn1
    obtain ⟨a', o', fd', c', P', h1, h2, h3, h4, h5, h6⟩ := G.T.tab dL hm
    rw [hn2, hmy] at h1
    cases h1
    have g1 := KX _ _ k1
    rw [g1] at h2
    cases h2
    rw [k2] at h3
    cases h3
    rw [k3] at h4
    cases h4
    obtain ⟨⟨oc, vc, e1, _, e3, e4⟩, hP⟩ := h6
    have g2 := KX _ _ k4
    rw [g2] at e1
    cases e1
    cases e3
    rw [k5] at e4
    cases e4
    exact hP
  obtain ⟨fd, cs, sp, hT, nT, C, hb, hsp, hF⟩ := F w mg fa _ Y KX G.T.g hmg own
  exact law_callTs KX G.T.g G.T.b G.T.builtins G.T.nolimit hg hT nT C G.T.bmain hobj hints (Nat.le_trans hlen hn2) hr hF hb (fun H hH hS => hsp H a ns hlen hbits hH hS) fun H e s' => hCX w H s₁ e s'
end LamX
set_option Elab.async false
set_option linter.all false
set_option maxRecDepth 100000
set_option maxHeartbeats 4000000
namespace Bw
open PySem PySem.Spec PyProof.Rows L2
theorem all_mk {l : PySem.W.OpenLaw} {w : World} {K : PySem.W.Frag} {h : Heap} {mg : Str → Option Value} {fa : Addr} (X : K.In h) (G : h.Ns mainGlobals mg) (hfa : mg "law" = some (.ref fa)) (own : LamX.OwnTab K fa h)
    {C_BudError : Addr}
    {C_BadText : Addr}
    {C_NoPart : Addr}
    {C_NoPlace : Addr}
    {C_Lacking : Addr}
    {C_NothingLeft : Addr}
    {C_Sum : Addr}
    {od_gathered an_gathered : Option Addr} {sl_gathered : Array (Option Value)} {oc_gathered kV_gathered dc_gathered pm_gathered cd_gathered ct_gathered : Value} {f_gathered : Addr}
    {od_whole_text an_whole_text : Option Addr} {sl_whole_text : Array (Option Value)} {oc_whole_text kV_whole_text dc_whole_text pm_whole_text cd_whole_text ct_whole_text : Value} {f_whole_text : Addr}
    {od_leading_figures an_leading_figures : Option Addr} {sl_leading_figures : Array (Option Value)} {oc_leading_figures kV_leading_figures dc_leading_figures pm_leading_figures cd_leading_figures ct_leading_figures : Value} {f_leading_figures : Addr}
    {od_read_number an_read_number : Option Addr} {sl_read_number : Array (Option Value)} {oc_read_number kV_read_number dc_read_number pm_read_number cd_read_number ct_read_number : Value} {f_read_number : Addr}
    {od_letters_text an_letters_text : Option Addr} {sl_letters_text : Array (Option Value)} {oc_letters_text kV_letters_text dc_letters_text pm_letters_text cd_letters_text ct_letters_text : Value} {f_letters_text : Addr}
    {od_product_text an_product_text : Option Addr} {sl_product_text : Array (Option Value)} {oc_product_text kV_product_text dc_product_text pm_product_text cd_product_text ct_product_text : Value} {f_product_text : Addr}
    {od_sum_pieces an_sum_pieces : Option Addr} {sl_sum_pieces : Array (Option Value)} {oc_sum_pieces kV_sum_pieces dc_sum_pieces pm_sum_pieces cd_sum_pieces ct_sum_pieces : Value} {f_sum_pieces : Addr}
    {od_power_end an_power_end : Option Addr} {sl_power_end : Array (Option Value)} {oc_power_end kV_power_end dc_power_end pm_power_end cd_power_end ct_power_end : Value} {f_power_end : Addr}
    {od_read_letters an_read_letters : Option Addr} {sl_read_letters : Array (Option Value)} {oc_read_letters kV_read_letters dc_read_letters pm_read_letters cd_read_letters ct_read_letters : Value} {f_read_letters : Addr}
    {od_read_product an_read_product : Option Addr} {sl_read_product : Array (Option Value)} {oc_read_product kV_read_product dc_read_product pm_read_product cd_read_product ct_read_product : Value} {f_read_product : Addr}
    {od_signed_pieces an_signed_pieces : Option Addr} {sl_signed_pieces : Array (Option Value)} {oc_signed_pieces kV_signed_pieces dc_signed_pieces pm_signed_pieces cd_signed_pieces ct_signed_pieces : Value} {f_signed_pieces : Addr}
    {od_read_products an_read_products : Option Addr} {sl_read_products : Array (Option Value)} {oc_read_products kV_read_products dc_read_products pm_read_products cd_read_products ct_read_products : Value} {f_read_products : Addr}
    {od_read_sum an_read_sum : Option Addr} {sl_read_sum : Array (Option Value)} {oc_read_sum kV_read_sum dc_read_sum pm_read_sum cd_read_sum ct_read_sum : Value} {f_read_sum : Addr}
    {od_law_feed an_law_feed : Option Addr} {sl_law_feed : Array (Option Value)} {oc_law_feed kV_law_feed dc_law_feed pm_law_feed cd_law_feed ct_law_feed : Value} {f_law_feed : Addr}
    {od_law_draw an_law_draw : Option Addr} {sl_law_draw : Array (Option Value)} {oc_law_draw kV_law_draw dc_law_draw pm_law_draw cd_law_draw ct_law_draw : Value} {f_law_draw : Addr}
    {od_law_pick an_law_pick : Option Addr} {sl_law_pick : Array (Option Value)} {oc_law_pick kV_law_pick dc_law_pick pm_law_pick cd_law_pick ct_law_pick : Value} {f_law_pick : Addr}
    {od_law_word an_law_word : Option Addr} {sl_law_word : Array (Option Value)} {oc_law_word kV_law_word dc_law_word pm_law_word cd_law_word ct_law_word : Value} {f_law_word : Addr}
    {od_law_great_number an_law_great_number : Option Addr} {sl_law_great_number : Array (Option Value)} {oc_law_great_number kV_law_great_number dc_law_great_number pm_law_great_number cd_law_great_number ct_law_great_number : Value} {f_law_great_number : Addr}
    {od_law_powers an_law_powers : Option Addr} {sl_law_powers : Array (Option Value)} {oc_law_powers kV_law_powers dc_law_powers pm_law_powers cd_law_powers ct_law_powers : Value} {f_law_powers : Addr}
    {od_law_terms an_law_terms : Option Addr} {sl_law_terms : Array (Option Value)} {oc_law_terms kV_law_terms dc_law_terms pm_law_terms cd_law_terms ct_law_terms : Value} {f_law_terms : Addr}
    {od_law_book an_law_book : Option Addr} {sl_law_book : Array (Option Value)} {oc_law_book kV_law_book dc_law_book pm_law_book cd_law_book ct_law_book : Value} {f_law_book : Addr}
    {od_law_told an_law_told : Option Addr} {sl_law_told : Array (Option Value)} {oc_law_told kV_law_told dc_law_told pm_law_told cd_law_told ct_law_told : Value} {f_law_told : Addr}
    {od_law_written an_law_written : Option Addr} {sl_law_written : Array (Option Value)} {oc_law_written kV_law_written dc_law_written pm_law_written cd_law_written ct_law_written : Value} {f_law_written : Addr}
    {od_law an_law : Option Addr} {sl_law : Array (Option Value)} {oc_law kV_law dc_law pm_law ct_law : Value} {f_law : Addr}
    {cc_law Pt_law : Addr} {oc2_law : Value} {od2_law : Option Addr} {vs_law : Array Value} {sl2_law : Array (Option Value)}
    {od_bud_init an_bud_init : Option Addr} {sl_bud_init : Array (Option Value)} {oc_bud_init kV_bud_init dc_bud_init pm_bud_init cd_bud_init ct_bud_init : Value} {f_bud_init : Addr}
    {od_text_init an_text_init : Option Addr} {sl_text_init : Array (Option Value)} {oc_text_init kV_text_init dc_text_init pm_text_init cd_text_init ct_text_init : Value} {f_text_init : Addr}
    {od_m_terms an_m_terms : Option Addr} {sl_m_terms : Array (Option Value)} {oc_m_terms kV_m_terms dc_m_terms pm_m_terms cd_m_terms ct_m_terms : Value} {f_m_terms : Addr}
    {od_m_str an_m_str : Option Addr} {sl_m_str : Array (Option Value)} {oc_m_str kV_m_str dc_m_str pm_m_str cd_m_str ct_m_str : Value} {f_m_str : Addr}
    {t_WIDE : Tok}
    {t_CHUNK : Tok}
    {t_CHUNK_FIGURES : Tok}
    {t_COUNT_FIGURES : Tok}
    {t_POWER_FIGURES : Tok}
    {t_FIGURES : Tok}
    {t_LETTERS : Tok}
    {nm_BadText q_BadText : Str} {N_BadText : Addr} {bs_BadText : List Value} {sn_BadText : List Str} {sub_BadText : List Value} {ab_BadText : Bool} {col_BadText : Option Bool} {dd_BadText : Option Addr} {m0_BadText m1_BadText m2_BadText m3_BadText m5_BadText : Option Value}
    {od_init an_init odT : Option Addr} {sl_init slT : Array (Option Value)} {oc_init kV_init dc_init pm_init cd_init ct_init ocT : Value} {f_init T_init e_init : Addr} {nT nE : Nat} {odE : Option Addr} {slE : Array (Option Value)}
    (a_BudError : PySem.W.nsIn K mainGlobals "BudError" = some (some (.ref C_BudError)))
    (a_BadText : PySem.W.nsIn K mainGlobals "BadText" = some (some (.ref C_BadText)))
    (a_NoPart : PySem.W.nsIn K mainGlobals "NoPart" = some (some (.ref C_NoPart)))
    (a_NoPlace : PySem.W.nsIn K mainGlobals "NoPlace" = some (some (.ref C_NoPlace)))
    (a_Lacking : PySem.W.nsIn K mainGlobals "Lacking" = some (some (.ref C_Lacking)))
    (a_NothingLeft : PySem.W.nsIn K mainGlobals "NothingLeft" = some (some (.ref C_NothingLeft)))
    (a_Sum : PySem.W.nsIn K mainGlobals "Sum" = some (some (.ref C_Sum)))
    (a_gathered : PySem.W.nsIn K mainGlobals "gathered" = some (some (.ref f_gathered)))
    (l_gathered : K.lookup f_gathered = some ⟨oc_gathered, od_gathered, .func (PySem.W.fnOf "gathered" "gathered" (defArgs s_gathered) (defBody s_gathered) (defScope s_gathered) .none kV_gathered dc_gathered pm_gathered an_gathered cd_gathered ct_gathered), sl_gathered⟩)
    (c_gathered : PySem.W.codeIn K cd_gathered "gathered" = true)
    (k_gathered : PySem.W.keepIn K (.ref f_gathered) = true)
    (a_whole_text : PySem.W.nsIn K mainGlobals "whole_text" = some (some (.ref f_whole_text)))
    (l_whole_text : K.lookup f_whole_text = some ⟨oc_whole_text, od_whole_text, .func (PySem.W.fnOf "whole_text" "whole_text" (defArgs s_whole_text) (defBody s_whole_text) (defScope s_whole_text) .none kV_whole_text dc_whole_text pm_whole_text an_whole_text cd_whole_text ct_whole_text), sl_whole_text⟩)
    (c_whole_text : PySem.W.codeIn K cd_whole_text "whole_text" = true)
    (k_whole_text : PySem.W.keepIn K (.ref f_whole_text) = true)
    (a_leading_figures : PySem.W.nsIn K mainGlobals "leading_figures" = some (some (.ref f_leading_figures)))
    (l_leading_figures : K.lookup f_leading_figures = some ⟨oc_leading_figures, od_leading_figures, .func (PySem.W.fnOf "leading_figures" "leading_figures" (defArgs s_leading_figures) (defBody s_leading_figures) (defScope s_leading_figures) .none kV_leading_figures dc_leading_figures pm_leading_figures an_leading_figures cd_leading_figures ct_leading_figures), sl_leading_figures⟩)
    (c_leading_figures : PySem.W.codeIn K cd_leading_figures "leading_figures" = true)
    (k_leading_figures : PySem.W.keepIn K (.ref f_leading_figures) = true)
    (a_read_number : PySem.W.nsIn K mainGlobals "read_number" = some (some (.ref f_read_number)))
    (l_read_number : K.lookup f_read_number = some ⟨oc_read_number, od_read_number, .func (PySem.W.fnOf "read_number" "read_number" (defArgs s_read_number) (defBody s_read_number) (defScope s_read_number) .none kV_read_number dc_read_number pm_read_number an_read_number cd_read_number ct_read_number), sl_read_number⟩)
    (c_read_number : PySem.W.codeIn K cd_read_number "read_number" = true)
    (k_read_number : PySem.W.keepIn K (.ref f_read_number) = true)
    (a_letters_text : PySem.W.nsIn K mainGlobals "letters_text" = some (some (.ref f_letters_text)))
    (l_letters_text : K.lookup f_letters_text = some ⟨oc_letters_text, od_letters_text, .func (PySem.W.fnOf "letters_text" "letters_text" (defArgs s_letters_text) (defBody s_letters_text) (defScope s_letters_text) .none kV_letters_text dc_letters_text pm_letters_text an_letters_text cd_letters_text ct_letters_text), sl_letters_text⟩)
    (c_letters_text : PySem.W.codeIn K cd_letters_text "letters_text" = true)
    (k_letters_text : PySem.W.keepIn K (.ref f_letters_text) = true)
    (a_product_text : PySem.W.nsIn K mainGlobals "product_text" = some (some (.ref f_product_text)))
    (l_product_text : K.lookup f_product_text = some ⟨oc_product_text, od_product_text, .func (PySem.W.fnOf "product_text" "product_text" (defArgs s_product_text) (defBody s_product_text) (defScope s_product_text) .none kV_product_text dc_product_text pm_product_text an_product_text cd_product_text ct_product_text), sl_product_text⟩)
    (c_product_text : PySem.W.codeIn K cd_product_text "product_text" = true)
    (k_product_text : PySem.W.keepIn K (.ref f_product_text) = true)
    (a_sum_pieces : PySem.W.nsIn K mainGlobals "sum_pieces" = some (some (.ref f_sum_pieces)))
    (l_sum_pieces : K.lookup f_sum_pieces = some ⟨oc_sum_pieces, od_sum_pieces, .func (PySem.W.fnOf "sum_pieces" "sum_pieces" (defArgs s_sum_pieces) (defBody s_sum_pieces) (defScope s_sum_pieces) .none kV_sum_pieces dc_sum_pieces pm_sum_pieces an_sum_pieces cd_sum_pieces ct_sum_pieces), sl_sum_pieces⟩)
    (c_sum_pieces : PySem.W.codeIn K cd_sum_pieces "sum_pieces" = true)
    (k_sum_pieces : PySem.W.keepIn K (.ref f_sum_pieces) = true)
    (a_power_end : PySem.W.nsIn K mainGlobals "power_end" = some (some (.ref f_power_end)))
    (l_power_end : K.lookup f_power_end = some ⟨oc_power_end, od_power_end, .func (PySem.W.fnOf "power_end" "power_end" (defArgs s_power_end) (defBody s_power_end) (defScope s_power_end) .none kV_power_end dc_power_end pm_power_end an_power_end cd_power_end ct_power_end), sl_power_end⟩)
    (c_power_end : PySem.W.codeIn K cd_power_end "power_end" = true)
    (k_power_end : PySem.W.keepIn K (.ref f_power_end) = true)
    (a_read_letters : PySem.W.nsIn K mainGlobals "read_letters" = some (some (.ref f_read_letters)))
    (l_read_letters : K.lookup f_read_letters = some ⟨oc_read_letters, od_read_letters, .func (PySem.W.fnOf "read_letters" "read_letters" (defArgs s_read_letters) (defBody s_read_letters) (defScope s_read_letters) .none kV_read_letters dc_read_letters pm_read_letters an_read_letters cd_read_letters ct_read_letters), sl_read_letters⟩)
    (c_read_letters : PySem.W.codeIn K cd_read_letters "read_letters" = true)
    (k_read_letters : PySem.W.keepIn K (.ref f_read_letters) = true)
    (a_read_product : PySem.W.nsIn K mainGlobals "read_product" = some (some (.ref f_read_product)))
    (l_read_product : K.lookup f_read_product = some ⟨oc_read_product, od_read_product, .func (PySem.W.fnOf "read_product" "read_product" (defArgs s_read_product) (defBody s_read_product) (defScope s_read_product) .none kV_read_product dc_read_product pm_read_product an_read_product cd_read_product ct_read_product), sl_read_product⟩)
    (c_read_product : PySem.W.codeIn K cd_read_product "read_product" = true)
    (k_read_product : PySem.W.keepIn K (.ref f_read_product) = true)
    (a_signed_pieces : PySem.W.nsIn K mainGlobals "signed_pieces" = some (some (.ref f_signed_pieces)))
    (l_signed_pieces : K.lookup f_signed_pieces = some ⟨oc_signed_pieces, od_signed_pieces, .func (PySem.W.fnOf "signed_pieces" "signed_pieces" (defArgs s_signed_pieces) (defBody s_signed_pieces) (defScope s_signed_pieces) .none kV_signed_pieces dc_signed_pieces pm_signed_pieces an_signed_pieces cd_signed_pieces ct_signed_pieces), sl_signed_pieces⟩)
    (c_signed_pieces : PySem.W.codeIn K cd_signed_pieces "signed_pieces" = true)
    (k_signed_pieces : PySem.W.keepIn K (.ref f_signed_pieces) = true)
    (a_read_products : PySem.W.nsIn K mainGlobals "read_products" = some (some (.ref f_read_products)))
    (l_read_products : K.lookup f_read_products = some ⟨oc_read_products, od_read_products, .func (PySem.W.fnOf "read_products" "read_products" (defArgs s_read_products) (defBody s_read_products) (defScope s_read_products) .none kV_read_products dc_read_products pm_read_products an_read_products cd_read_products ct_read_products), sl_read_products⟩)
    (c_read_products : PySem.W.codeIn K cd_read_products "read_products" = true)
    (k_read_products : PySem.W.keepIn K (.ref f_read_products) = true)
    (a_read_sum : PySem.W.nsIn K mainGlobals "read_sum" = some (some (.ref f_read_sum)))
    (l_read_sum : K.lookup f_read_sum = some ⟨oc_read_sum, od_read_sum, .func (PySem.W.fnOf "read_sum" "read_sum" (defArgs s_read_sum) (defBody s_read_sum) (defScope s_read_sum) .none kV_read_sum dc_read_sum pm_read_sum an_read_sum cd_read_sum ct_read_sum), sl_read_sum⟩)
    (c_read_sum : PySem.W.codeIn K cd_read_sum "read_sum" = true)
    (k_read_sum : PySem.W.keepIn K (.ref f_read_sum) = true)
    (a_law_feed : PySem.W.nsIn K mainGlobals "_law_feed" = some (some (.ref f_law_feed)))
    (l_law_feed : K.lookup f_law_feed = some ⟨oc_law_feed, od_law_feed, .func (PySem.W.fnOf "_law_feed" "_law_feed" (defArgs s_law_feed) (defBody s_law_feed) (defScope s_law_feed) .none kV_law_feed dc_law_feed pm_law_feed an_law_feed cd_law_feed ct_law_feed), sl_law_feed⟩)
    (c_law_feed : PySem.W.codeIn K cd_law_feed "_law_feed" = true)
    (k_law_feed : PySem.W.keepIn K (.ref f_law_feed) = true)
    (a_law_draw : PySem.W.nsIn K mainGlobals "_law_draw" = some (some (.ref f_law_draw)))
    (l_law_draw : K.lookup f_law_draw = some ⟨oc_law_draw, od_law_draw, .func (PySem.W.fnOf "_law_draw" "_law_draw" (defArgs s_law_draw) (defBody s_law_draw) (defScope s_law_draw) .none kV_law_draw dc_law_draw pm_law_draw an_law_draw cd_law_draw ct_law_draw), sl_law_draw⟩)
    (c_law_draw : PySem.W.codeIn K cd_law_draw "_law_draw" = true)
    (k_law_draw : PySem.W.keepIn K (.ref f_law_draw) = true)
    (a_law_pick : PySem.W.nsIn K mainGlobals "_law_pick" = some (some (.ref f_law_pick)))
    (l_law_pick : K.lookup f_law_pick = some ⟨oc_law_pick, od_law_pick, .func (PySem.W.fnOf "_law_pick" "_law_pick" (defArgs s_law_pick) (defBody s_law_pick) (defScope s_law_pick) .none kV_law_pick dc_law_pick pm_law_pick an_law_pick cd_law_pick ct_law_pick), sl_law_pick⟩)
    (c_law_pick : PySem.W.codeIn K cd_law_pick "_law_pick" = true)
    (k_law_pick : PySem.W.keepIn K (.ref f_law_pick) = true)
    (a_law_word : PySem.W.nsIn K mainGlobals "_law_word" = some (some (.ref f_law_word)))
    (l_law_word : K.lookup f_law_word = some ⟨oc_law_word, od_law_word, .func (PySem.W.fnOf "_law_word" "_law_word" (defArgs s_law_word) (defBody s_law_word) (defScope s_law_word) .none kV_law_word dc_law_word pm_law_word an_law_word cd_law_word ct_law_word), sl_law_word⟩)
    (c_law_word : PySem.W.codeIn K cd_law_word "_law_word" = true)
    (k_law_word : PySem.W.keepIn K (.ref f_law_word) = true)
    (a_law_great_number : PySem.W.nsIn K mainGlobals "_law_great_number" = some (some (.ref f_law_great_number)))
    (l_law_great_number : K.lookup f_law_great_number = some ⟨oc_law_great_number, od_law_great_number, .func (PySem.W.fnOf "_law_great_number" "_law_great_number" (defArgs s_law_great_number) (defBody s_law_great_number) (defScope s_law_great_number) .none kV_law_great_number dc_law_great_number pm_law_great_number an_law_great_number cd_law_great_number ct_law_great_number), sl_law_great_number⟩)
    (c_law_great_number : PySem.W.codeIn K cd_law_great_number "_law_great_number" = true)
    (k_law_great_number : PySem.W.keepIn K (.ref f_law_great_number) = true)
    (a_law_powers : PySem.W.nsIn K mainGlobals "_law_powers" = some (some (.ref f_law_powers)))
    (l_law_powers : K.lookup f_law_powers = some ⟨oc_law_powers, od_law_powers, .func (PySem.W.fnOf "_law_powers" "_law_powers" (defArgs s_law_powers) (defBody s_law_powers) (defScope s_law_powers) .none kV_law_powers dc_law_powers pm_law_powers an_law_powers cd_law_powers ct_law_powers), sl_law_powers⟩)
    (c_law_powers : PySem.W.codeIn K cd_law_powers "_law_powers" = true)
    (k_law_powers : PySem.W.keepIn K (.ref f_law_powers) = true)
    (a_law_terms : PySem.W.nsIn K mainGlobals "_law_terms" = some (some (.ref f_law_terms)))
    (l_law_terms : K.lookup f_law_terms = some ⟨oc_law_terms, od_law_terms, .func (PySem.W.fnOf "_law_terms" "_law_terms" (defArgs s_law_terms) (defBody s_law_terms) (defScope s_law_terms) .none kV_law_terms dc_law_terms pm_law_terms an_law_terms cd_law_terms ct_law_terms), sl_law_terms⟩)
    (c_law_terms : PySem.W.codeIn K cd_law_terms "_law_terms" = true)
    (k_law_terms : PySem.W.keepIn K (.ref f_law_terms) = true)
    (a_law_book : PySem.W.nsIn K mainGlobals "_law_book" = some (some (.ref f_law_book)))
    (l_law_book : K.lookup f_law_book = some ⟨oc_law_book, od_law_book, .func (PySem.W.fnOf "_law_book" "_law_book" (defArgs s_law_book) (defBody s_law_book) (defScope s_law_book) .none kV_law_book dc_law_book pm_law_book an_law_book cd_law_book ct_law_book), sl_law_book⟩)
    (c_law_book : PySem.W.codeIn K cd_law_book "_law_book" = true)
    (k_law_book : PySem.W.keepIn K (.ref f_law_book) = true)
    (a_law_told : PySem.W.nsIn K mainGlobals "_law_told" = some (some (.ref f_law_told)))
    (l_law_told : K.lookup f_law_told = some ⟨oc_law_told, od_law_told, .func (PySem.W.fnOf "_law_told" "_law_told" (defArgs s_law_told) (defBody s_law_told) (defScope s_law_told) .none kV_law_told dc_law_told pm_law_told an_law_told cd_law_told ct_law_told), sl_law_told⟩)
    (c_law_told : PySem.W.codeIn K cd_law_told "_law_told" = true)
    (k_law_told : PySem.W.keepIn K (.ref f_law_told) = true)
    (a_law_written : PySem.W.nsIn K mainGlobals "_law_written" = some (some (.ref f_law_written)))
    (l_law_written : K.lookup f_law_written = some ⟨oc_law_written, od_law_written, .func (PySem.W.fnOf "_law_written" "_law_written" (defArgs s_law_written) (defBody s_law_written) (defScope s_law_written) .none kV_law_written dc_law_written pm_law_written an_law_written cd_law_written ct_law_written), sl_law_written⟩)
    (c_law_written : PySem.W.codeIn K cd_law_written "_law_written" = true)
    (k_law_written : PySem.W.keepIn K (.ref f_law_written) = true)
    (a_law : PySem.W.nsIn K mainGlobals "law" = some (some (.ref f_law)))
    (l_law : K.lookup f_law = some ⟨oc_law, od_law, .func (PySem.W.fnOf "law" "law" (defArgs s_law) (defBody s_law) (defScope s_law) .none kV_law dc_law pm_law an_law (.ref cc_law) ct_law), sl_law⟩)
    (c_law : PySem.W.codeIn K (.ref cc_law) "law" = true)
    (k_law : PySem.W.keepIn K (.ref f_law) = true)
    (a_bud_init : PySem.W.findIn K (.ref C_BudError) "__init__" = some (some (.ref f_bud_init)))
    (l_bud_init : K.lookup f_bud_init = some ⟨oc_bud_init, od_bud_init, .func (PySem.W.fnOf "__init__" "BudError.__init__" (defArgs s_bud_init) (defBody s_bud_init) (defScope s_bud_init) .none kV_bud_init dc_bud_init pm_bud_init an_bud_init cd_bud_init ct_bud_init), sl_bud_init⟩)
    (c_bud_init : PySem.W.codeIn K cd_bud_init "BudError.__init__" = true)
    (k_bud_init : PySem.W.keepIn K (.ref f_bud_init) = true)
    (a_text_init : PySem.W.findIn K (.ref C_BadText) "__init__" = some (some (.ref f_text_init)))
    (l_text_init : K.lookup f_text_init = some ⟨oc_text_init, od_text_init, .func (PySem.W.fnOf "__init__" "BadText.__init__" (defArgs s_text_init) (defBody s_text_init) (defScope s_text_init) .none kV_text_init dc_text_init pm_text_init an_text_init cd_text_init ct_text_init), sl_text_init⟩)
    (c_text_init : PySem.W.codeIn K cd_text_init "BadText.__init__" = true)
    (k_text_init : PySem.W.keepIn K (.ref f_text_init) = true)
    (a_m_terms : PySem.W.findIn K (.ref C_Sum) "terms" = some (some (.ref f_m_terms)))
    (l_m_terms : K.lookup f_m_terms = some ⟨oc_m_terms, od_m_terms, .func (PySem.W.fnOf "terms" "Sum.terms" (defArgs s_terms) (defBody s_terms) (defScope s_terms) .none kV_m_terms dc_m_terms pm_m_terms an_m_terms cd_m_terms ct_m_terms), sl_m_terms⟩)
    (c_m_terms : PySem.W.codeIn K cd_m_terms "Sum.terms" = true)
    (k_m_terms : PySem.W.keepIn K (.ref f_m_terms) = true)
    (a_m_str : PySem.W.findIn K (.ref C_Sum) "__str__" = some (some (.ref f_m_str)))
    (l_m_str : K.lookup f_m_str = some ⟨oc_m_str, od_m_str, .func (PySem.W.fnOf "__str__" "Sum.__str__" (defArgs s_str) (defBody s_str) (defScope s_str) .none kV_m_str dc_m_str pm_m_str an_m_str cd_m_str ct_m_str), sl_m_str⟩)
    (c_m_str : PySem.W.codeIn K cd_m_str "Sum.__str__" = true)
    (k_m_str : PySem.W.keepIn K (.ref f_m_str) = true)
    (z_len : PySem.W.nsIn K mainGlobals "len" = some none)
    (z_range : PySem.W.nsIn K mainGlobals "range" = some none)
    (z_zip : PySem.W.nsIn K mainGlobals "zip" = some none)
    (z_all : PySem.W.nsIn K mainGlobals "all" = some none)
    (z_any : PySem.W.nsIn K mainGlobals "any" = some none)
    (z_sorted : PySem.W.nsIn K mainGlobals "sorted" = some none)
    (z_isinstance : PySem.W.nsIn K mainGlobals "isinstance" = some none)
    (z_bool : PySem.W.nsIn K mainGlobals "bool" = some none)
    (z_tuple : PySem.W.nsIn K mainGlobals "tuple" = some none)
    (z_list : PySem.W.nsIn K mainGlobals "list" = some none)
    (z_dict : PySem.W.nsIn K mainGlobals "dict" = some none)
    (z_str : PySem.W.nsIn K mainGlobals "str" = some none)
    (z_int : PySem.W.nsIn K mainGlobals "int" = some none)
    (z_abs : PySem.W.nsIn K mainGlobals "abs" = some none)
    (z_repr : PySem.W.nsIn K mainGlobals "repr" = some none)
    (z_reversed : PySem.W.nsIn K mainGlobals "reversed" = some none)
    (z_divmod : PySem.W.nsIn K mainGlobals "divmod" = some none)
    (z_ValueError : PySem.W.nsIn K mainGlobals "ValueError" = some none)
    (z_max : PySem.W.nsIn K mainGlobals "max" = some none)
    (i_WIDE : PySem.W.nsIn K mainGlobals "WIDE" = some (some (.int 400 t_WIDE)))
    (i_CHUNK : PySem.W.nsIn K mainGlobals "CHUNK" = some (some (.int 10000000000000000000000000000000000000000000000000000000000000000 t_CHUNK)))
    (i_CHUNK_FIGURES : PySem.W.nsIn K mainGlobals "CHUNK_FIGURES" = some (some (.int 64 t_CHUNK_FIGURES)))
    (i_COUNT_FIGURES : PySem.W.nsIn K mainGlobals "COUNT_FIGURES" = some (some (.int 30 t_COUNT_FIGURES)))
    (i_POWER_FIGURES : PySem.W.nsIn K mainGlobals "POWER_FIGURES" = some (some (.int 4 t_POWER_FIGURES)))
    (i_FIGURES : PySem.W.nsIn K mainGlobals "FIGURES" = some (some (.str "0123456789" t_FIGURES)))
    (i_LETTERS : PySem.W.nsIn K mainGlobals "LETTERS" = some (some (.str "abcdefghijklmnopqrstuvwxyz" t_LETTERS)))
    (sg : PySem.W.specialIn K (.ref C_BudError) "__getattribute__" = some (some (.builtin "type.__getattribute__")))
    (tyB : PySem.W.typeIn K (.ref C_BudError) = some (.type "type"))
    (rdB : PySem.W.readsIn K C_BudError (.type "type") = true)
    (fcB : PySem.W.findCls K (.ref C_BudError) (.type "type") "__init__" = some (.val (.ref f_bud_init)))
    (vv : PySem.W.findCls K (.type "ValueError") (.type "type") "__init__" = some (.val (.builtin "ValueError.__init__")))
    (eB : PySem.W.subIn K (.ref C_BudError) (.type "BaseException") = some true)
    (hB : PySem.W.hasDictIn K C_BudError = true)
    (eC_NoPart : PySem.W.subIn K (.ref C_NoPart) (.type "BaseException") = some true)
    (tC_NoPart : PySem.W.typeIn K (.ref C_NoPart) = some (.type "type"))
    (hC_NoPart : PySem.W.hasDictIn K C_NoPart = true)
    (eC_NoPlace : PySem.W.subIn K (.ref C_NoPlace) (.type "BaseException") = some true)
    (tC_NoPlace : PySem.W.typeIn K (.ref C_NoPlace) = some (.type "type"))
    (hC_NoPlace : PySem.W.hasDictIn K C_NoPlace = true)
    (eC_Lacking : PySem.W.subIn K (.ref C_Lacking) (.type "BaseException") = some true)
    (tC_Lacking : PySem.W.typeIn K (.ref C_Lacking) = some (.type "type"))
    (hC_Lacking : PySem.W.hasDictIn K C_Lacking = true)
    (eC_NothingLeft : PySem.W.subIn K (.ref C_NothingLeft) (.type "BaseException") = some true)
    (tC_NothingLeft : PySem.W.typeIn K (.ref C_NothingLeft) = some (.type "type"))
    (hC_NothingLeft : PySem.W.hasDictIn K C_NothingLeft = true)
    (xL_BadText : K.lookup C_BadText = some (excClassObj nm_BadText q_BadText C_BadText N_BadText bs_BadText [.ref C_BudError, .type "ValueError", .type "Exception", .type "BaseException", .type "object"] true sn_BadText sub_BadText ab_BadText col_BadText dd_BadText m0_BadText m1_BadText m2_BadText m3_BadText m5_BadText "ValueError.__new__"))
    (sa_BadText : PySem.W.findIn K (.ref C_BadText) "__setattr__" = some (some (.builtin "object.__setattr__")))
    (ga_BadText : PySem.W.findIn K (.ref C_BadText) "__getattribute__" = some (some (.builtin "BaseException.__getattribute__")))
    (gg_BadText : PySem.W.findIn K (.ref C_BadText) "__getattr__" = some none)
    (nw_BadText : PySem.W.findIn K (.ref C_BadText) "word" = some none)
    (tI_BadText : PySem.W.typeIn K (.ref f_text_init) = some (.type "function"))
    (kC_BadText : PySem.W.keepIn K (.ref C_BadText) = true)
    (eC_BadText : PySem.W.subIn K (.ref C_BadText) (.type "BaseException") = some true)
    (tC_BadText : PySem.W.typeIn K (.ref C_BadText) = some (.type "type"))
    (hC_BadText : PySem.W.hasDictIn K C_BadText = true)
    (sC_BadText : PySem.W.subIn K (.ref C_BadText) (.ref C_BudError) = some true)
    (nf_BadText : PySem.W.findIn K (.ref C_BadText) "at" = some none)
    (sl_BadText : PySem.W.subIn K (.ref C_BadText) (.ref C_BadText) = some true)
    (a_init : PySem.W.findIn K (.ref C_Sum) "__init__" = some (some (.ref f_init)))
    (l_init : K.lookup f_init = some ⟨oc_init, od_init, .func (PySem.W.fnOf "__init__" "Sum.__init__" (defArgs s_init) (defBody s_init) (defScope s_init) (.ref T_init) kV_init dc_init pm_init an_init cd_init ct_init), sl_init⟩)
    (c_init : PySem.W.codeIn K cd_init "Sum.__init__" = true)
    (k_init : PySem.W.keepIn K (.ref f_init) = true)
    (lT : K.lookup T_init = some ⟨ocT, odT, .seq #[.ref e_init] nT, slT⟩)
    (fn_init : PySem.W.isFn K (.ref f_init) = true)
    (lE : K.lookup e_init = some ⟨.type "tuple", odE, .seq #[] nE, slE⟩)
    (mk : PySem.W.makesIn K C_Sum = true)
    (kc : PySem.W.keepIn K (.ref C_Sum) = true)
    (pg : PySem.W.plainGet K C_Sum Str.empty = true)
    (hd : PySem.W.hasDictIn K C_Sum = true)
    (po : PySem.W.plainOver K C_Sum = true)
    (sa : PySem.W.findIn K (.ref C_Sum) "__setattr__" = some (some (.builtin "object.__setattr__")))
    (nw : PySem.W.findIn K (.ref C_Sum) "width" = some none)
    (np : PySem.W.findIn K (.ref C_Sum) "products" = some none)
    (hcl : PySem.W.findIn K (.ref C_Sum) "__class__" = some (some (.builtin "object.__class__")))
    (hgt : PySem.W.specialIn K (.builtin "object.__class__") "__get__" = some (some (.builtin "getset_descriptor.__get__")))
    (htk : PySem.W.takesIn K (.builtin "object.__class__") = some true)
    (hmr : PySem.W.mroIn K C_Sum (.type "object") = some true)
    (slf : PySem.W.kitOne K (.ref C_Sum) (.ref C_Sum) = some true)
    (fn_m_terms : PySem.W.isFn K (.ref f_m_terms) = true)
    (fn_m_str : PySem.W.isFn K (.ref f_m_str) = true)
    (cl_law : K.lookup cc_law = some ⟨oc2_law, od2_law, .fields vs_law, sl2_law⟩)
    (v11_law : vs_law[11]? = some (.ref Pt_law))
    (hd_law : PySem.W.codeHdIn K cc_law Pt_law = true)
    (nP_law : K.lookup Pt_law = none)
    : LamX.LawAtS l w K CX0 10 63 "_law_script" mg fa h := by
  have e := hfa.symm.trans (PySem.W.mg_of X G a_law)
  cases e
  have T : Tx mg := { len := PySem.W.mg_none_of X G z_len, range := PySem.W.mg_none_of X G z_range, zip := PySem.W.mg_none_of X G z_zip, all := PySem.W.mg_none_of X G z_all, any := PySem.W.mg_none_of X G z_any, sorted := PySem.W.mg_none_of X G z_sorted, isinstance := PySem.W.mg_none_of X G z_isinstance, bool := PySem.W.mg_none_of X G z_bool, tuple := PySem.W.mg_none_of X G z_tuple, list := PySem.W.mg_none_of X G z_list, dict := PySem.W.mg_none_of X G z_dict, str := PySem.W.mg_none_of X G z_str, int := PySem.W.mg_none_of X G z_int, abs := PySem.W.mg_none_of X G z_abs, repr := PySem.W.mg_none_of X G z_repr, reversed := PySem.W.mg_none_of X G z_reversed, divmod := PySem.W.mg_none_of X G z_divmod, ValueError := PySem.W.mg_none_of X G z_ValueError, max := PySem.W.mg_none_of X G z_max, WIDE := ⟨_, PySem.W.mg_of X G i_WIDE⟩, CHUNK := ⟨_, PySem.W.mg_of X G i_CHUNK⟩, CHUNK_FIGURES := ⟨_, PySem.W.mg_of X G i_CHUNK_FIGURES⟩, COUNT_FIGURES := ⟨_, PySem.W.mg_of X G i_COUNT_FIGURES⟩, POWER_FIGURES := ⟨_, PySem.W.mg_of X G i_POWER_FIGURES⟩, FIGURES := ⟨_, PySem.W.mg_of X G i_FIGURES⟩, LETTERS := ⟨_, PySem.W.mg_of X G i_LETTERS⟩ }
  have F_gathered := fun_mk (st := s_gathered) l_gathered c_gathered k_gathered
  have b_gathered := F_gathered.binds (ps := ["terms"]) fun _ _ _ _ _ _ us hl => match us, hl with | [_], _ => rfl
  have F_whole_text := fun_mk (st := s_whole_text) l_whole_text c_whole_text k_whole_text
  have b_whole_text := F_whole_text.binds (ps := ["number"]) fun _ _ _ _ _ _ us hl => match us, hl with | [_], _ => rfl
  have F_leading_figures := fun_mk (st := s_leading_figures) l_leading_figures c_leading_figures k_leading_figures
  have b_leading_figures := F_leading_figures.binds (ps := ["text", "at"]) fun _ _ _ _ _ _ us hl => match us, hl with | [_, _], _ => rfl
  have F_read_number := fun_mk (st := s_read_number) l_read_number c_read_number k_read_number
  have b_read_number := F_read_number.binds (ps := ["text", "most"]) fun _ _ _ _ _ _ us hl => match us, hl with | [_, _], _ => rfl
  have F_letters_text := fun_mk (st := s_letters_text) l_letters_text c_letters_text k_letters_text
  have b_letters_text := F_letters_text.binds (ps := ["powers"]) fun _ _ _ _ _ _ us hl => match us, hl with | [_], _ => rfl
  have F_product_text := fun_mk (st := s_product_text) l_product_text c_product_text k_product_text
  have b_product_text := F_product_text.binds (ps := ["powers", "count"]) fun _ _ _ _ _ _ us hl => match us, hl with | [_, _], _ => rfl
  have F_sum_pieces := fun_mk (st := s_sum_pieces) l_sum_pieces c_sum_pieces k_sum_pieces
  have b_sum_pieces := F_sum_pieces.binds (ps := ["products"]) fun _ _ _ _ _ _ us hl => match us, hl with | [_], _ => rfl
  have F_power_end := fun_mk (st := s_power_end) l_power_end c_power_end k_power_end
  have b_power_end := F_power_end.binds (ps := ["text", "at"]) fun _ _ _ _ _ _ us hl => match us, hl with | [_, _], _ => rfl
  have F_read_letters := fun_mk (st := s_read_letters) l_read_letters c_read_letters k_read_letters
  have b_read_letters := F_read_letters.binds (ps := ["text", "width"]) fun _ _ _ _ _ _ us hl => match us, hl with | [_, _], _ => rfl
  have F_read_product := fun_mk (st := s_read_product) l_read_product c_read_product k_read_product
  have b_read_product := F_read_product.binds (ps := ["text", "width"]) fun _ _ _ _ _ _ us hl => match us, hl with | [_, _], _ => rfl
  have F_signed_pieces := fun_mk (st := s_signed_pieces) l_signed_pieces c_signed_pieces k_signed_pieces
  have b_signed_pieces := F_signed_pieces.binds (ps := ["text", "most"]) fun _ _ _ _ _ _ us hl => match us, hl with | [_, _], _ => rfl
  have F_read_products := fun_mk (st := s_read_products) l_read_products c_read_products k_read_products
  have b_read_products := F_read_products.binds (ps := ["text", "width", "most"]) fun _ _ _ _ _ _ us hl => match us, hl with | [_, _, _], _ => rfl
  have F_read_sum := fun_mk (st := s_read_sum) l_read_sum c_read_sum k_read_sum
  have F_law_feed := fun_mk (st := s_law_feed) l_law_feed c_law_feed k_law_feed
  have b_law_feed := F_law_feed.binds (ps := ["_law_script"]) fun _ _ _ _ _ _ us hl => match us, hl with | [_], _ => rfl
  have F_law_draw := fun_mk (st := s_law_draw) l_law_draw c_law_draw k_law_draw
  have b_law_draw := F_law_draw.binds (ps := ["_law_feed_here", "_law_many"]) fun _ _ _ _ _ _ us hl => match us, hl with | [_, _], _ => rfl
  have F_law_pick := fun_mk (st := s_law_pick) l_law_pick c_law_pick k_law_pick
  have b_law_pick := F_law_pick.binds (ps := ["_law_feed_here", "_law_row"]) fun _ _ _ _ _ _ us hl => match us, hl with | [_, _], _ => rfl
  have F_law_word := fun_mk (st := s_law_word) l_law_word c_law_word k_law_word
  have b_law_word := F_law_word.binds (ps := ["_law_asked"]) fun _ _ _ _ _ _ us hl => match us, hl with | [_], _ => rfl
  have F_law_great_number := fun_mk (st := s_law_great_number) l_law_great_number c_law_great_number k_law_great_number
  have b_law_great_number := F_law_great_number.binds (ps := ["_law_feed_here"]) fun _ _ _ _ _ _ us hl => match us, hl with | [_], _ => rfl
  have F_law_powers := fun_mk (st := s_law_powers) l_law_powers c_law_powers k_law_powers
  have b_law_powers := F_law_powers.binds (ps := ["_law_feed_here", "_law_my_width"]) fun _ _ _ _ _ _ us hl => match us, hl with | [_, _], _ => rfl
  have F_law_terms := fun_mk (st := s_law_terms) l_law_terms c_law_terms k_law_terms
  have b_law_terms := F_law_terms.binds (ps := ["_law_feed_here", "_law_my_width", "_law_most"]) fun _ _ _ _ _ _ us hl => match us, hl with | [_, _, _], _ => rfl
  have F_law_book := fun_mk (st := s_law_book) l_law_book c_law_book k_law_book
  have b_law_book := F_law_book.binds (ps := ["_law_terms_here"]) fun _ _ _ _ _ _ us hl => match us, hl with | [_], _ => rfl
  have F_law_told := fun_mk (st := s_law_told) l_law_told c_law_told k_law_told
  have b_law_told := F_law_told.binds (ps := ["_law_book_here"]) fun _ _ _ _ _ _ us hl => match us, hl with | [_], _ => rfl
  have F_law_written := fun_mk (st := s_law_written) l_law_written c_law_written k_law_written
  have b_law_written := F_law_written.binds (ps := ["_law_my_width", "_law_book_here"]) fun _ _ _ _ _ _ us hl => match us, hl with | [_, _], _ => rfl
  have F_law := fun_mk (st := s_law) l_law c_law k_law
  have F_bud_init := fun_mk (st := s_bud_init) l_bud_init c_bud_init k_bud_init
  have b_bud_init := F_bud_init.binds (ps := ["self", "word"]) fun _ _ _ _ _ _ us hl => match us, hl with | [_, _], _ => rfl
  have F_text_init := fun_mk (st := s_text_init) l_text_init c_text_init k_text_init
  have b_text_init := F_text_init.binds (ps := ["self", "at"]) fun _ _ _ _ _ _ us hl => match us, hl with | [_, _], _ => rfl
  have F_m_terms := fun_mk (st := s_terms) l_m_terms c_m_terms k_m_terms
  have b_m_terms := F_m_terms.binds (ps := ["self"]) fun _ _ _ _ _ _ us hl => match us, hl with | [_], _ => rfl
  have F_m_str := fun_mk (st := s_str) l_m_str c_m_str k_m_str
  have b_m_str := F_m_str.binds (ps := ["self"]) fun _ _ _ _ _ _ us hl => match us, hl with | [_], _ => rfl
  have g_gathered := PySem.W.mg_of X G a_gathered
  have g_whole_text := PySem.W.mg_of X G a_whole_text
  have g_leading_figures := PySem.W.mg_of X G a_leading_figures
  have g_read_number := PySem.W.mg_of X G a_read_number
  have g_letters_text := PySem.W.mg_of X G a_letters_text
  have g_product_text := PySem.W.mg_of X G a_product_text
  have g_sum_pieces := PySem.W.mg_of X G a_sum_pieces
  have g_power_end := PySem.W.mg_of X G a_power_end
  have g_read_letters := PySem.W.mg_of X G a_read_letters
  have g_read_product := PySem.W.mg_of X G a_read_product
  have g_signed_pieces := PySem.W.mg_of X G a_signed_pieces
  have g_read_products := PySem.W.mg_of X G a_read_products
  have g_read_sum := PySem.W.mg_of X G a_read_sum
  have g_law_feed := PySem.W.mg_of X G a_law_feed
  have g_law_draw := PySem.W.mg_of X G a_law_draw
  have g_law_pick := PySem.W.mg_of X G a_law_pick
  have g_law_word := PySem.W.mg_of X G a_law_word
  have g_law_great_number := PySem.W.mg_of X G a_law_great_number
  have g_law_powers := PySem.W.mg_of X G a_law_powers
  have g_law_terms := PySem.W.mg_of X G a_law_terms
  have g_law_book := PySem.W.mg_of X G a_law_book
  have g_law_told := PySem.W.mg_of X G a_law_told
  have g_law_written := PySem.W.mg_of X G a_law_written
  have g_law := PySem.W.mg_of X G a_law
  have TB : ClsFn K mg "BudError" "__init__" C_BudError f_bud_init := ⟨PySem.W.mg_of X G a_BudError, sg, tyB, rdB, fcB, k_bud_init⟩
  have ox_BadText : OexC K C_BadText := ⟨⟨nm_BadText, q_BadText, N_BadText, bs_BadText, _, sn_BadText, sub_BadText, ab_BadText, col_BadText, dd_BadText, m0_BadText, m1_BadText, m2_BadText, m3_BadText, m5_BadText, xL_BadText, rfl⟩, sa_BadText, eC_BadText, tC_BadText, kC_BadText⟩
  have T_BadText : ErrC K mg "BadText" C_BadText f_text_init C_BudError := ⟨PySem.W.mg_of X G a_BadText, ox_BadText, a_text_init, tI_BadText, nw_BadText, ⟨ga_BadText, gg_BadText, eC_BadText, hC_BadText⟩, PySem.W.exm_ref eB hB tyB sC_BadText⟩
  have te_BadText : PySem.W.exmOne K (.ref C_BadText) (.ref C_BadText) = some true := PySem.W.exm_ref eC_BadText hC_BadText tC_BadText sl_BadText
  have S : SumC K mg C_Sum := ⟨PySem.W.mg_of X G a_Sum, ⟨pg, hd, po, sa⟩, nw, np, hcl, hgt, htk, hmr, slf, kc⟩
  have F_init : FunD K "__init__" "Sum.__init__" (defArgs s_init) (defBody s_init) (defScope s_init) [.ref e_init] [] f_init _ := ⟨⟨oc_init, od_init, .ref T_init, kV_init, dc_init, pm_init, an_init, cd_init, ct_init, sl_init, rfl, l_init, c_init, .inr ⟨by simp, T_init, _, [.ref e_init], nT, rfl, lT, rfl, .cons rfl .nil⟩, .inl rfl⟩, k_init⟩
  obtain ⟨ds, vds, b_init⟩ := F_init.binds1 (ps := ["self", "width", "terms"]) 3 1 (by simp) rfl (fun T kV doc pm an cdv ct us its hl hi => match us, its, hl, hi with | [_, _, _], [_], _, _ => ⟨_, rfl, rfl⟩)
  have vds : Vals [] ds := vds
  cases vds
  have kb1 : KBinds K (PySem.W.fnOf "read_sum" "read_sum" (defArgs s_read_sum) (defBody s_read_sum) (defScope s_read_sum) .none kV_read_sum dc_read_sum pm_read_sum an_read_sum cd_read_sum ct_read_sum) ["text", "width"] ["width"] pairL pairL := by
    refine ⟨fun s us ws _ hl => ?_, fun {vs us zs ws} r1 r2 => ?_⟩
    · match us, ws, hl with
      | [_], [_], _ => exact .of_eq rfl
    · match vs, us, zs, ws, r1, r2 with
      | _, _, _, _, .cons a .nil, .cons b .nil => exact .cons a (.cons b .nil)
      | _, _, _, _, .nil, _ => exact .nil
      | _, _, _, _, .cons _ .nil, .nil => exact .nil
      | _, _, _, _, .cons _ .nil, .cons _ (.cons _ _) => exact .nil
      | _, _, _, _, .cons _ (.cons _ _), _ => exact .nil
  have hcs : ∀ p ∈ [(cc_law, Pt_law)], p = (cc_law, Pt_law) := fun p hp => by
    simpa using hp
  refine ⟨PySem.W.fnOf "law" "law" (defArgs s_law) (defBody s_law) (defScope s_law) .none kV_law dc_law pm_law an_law (.ref cc_law) ct_law, [(cc_law, Pt_law)], spLaw K Pt_law, fun p hp => ?_, fun p hp => ?_, fun p hp => ?_, fun s v => .of_eq rfl, fun H a ns hl _ hT hS => ⟨a, ns, rfl, hS, hl, hT _ (List.mem_cons_self ..), fun _ => rfl⟩, fun base _ _ TBs => ?_⟩
  · rcases hcs p hp with e
    · rw [e]
      exact own cc_law Pt_law _ _ _ _ _ _ l_law rfl rfl cl_law v11_law
  · rcases hcs p hp with e
    · rw [e]
      exact nP_law
  · rcases hcs p hp with e
    · rw [e]
      exact PySem.W.codeHd_of_K X hd_law
  have FBI : FnOk l.prog w K mg base CX0 1 f_bud_init _ ["self", "word"] (spBudInit K) := ok_budinit F_bud_init T vv
  have FX : FnOk l.prog w K mg base CX0 2 f_text_init _ ["self", "at"] (spErrInit1 K "bad text" "at") := ok_textinit F_text_init T TB FBI b_bud_init
  have cDraw : Cal l.prog w K mg base CX0 1 "_law_draw" ["_law_feed_here", "_law_many"] spDraw := ⟨_, _, ok_draw F_law_draw T, g_law_draw, k_law_draw, b_law_draw⟩
  have cFeed : Cal l.prog w K mg base CX0 1 "_law_feed" ["_law_script"] (spFeed K) := ⟨_, _, ok_feed F_law_feed T, g_law_feed, k_law_feed, b_law_feed⟩
  have cPick : Cal l.prog w K mg base CX0 2 "_law_pick" ["_law_feed_here", "_law_row"] spPick := ⟨_, _, ok_pick (j := 0) F_law_pick T cDraw, g_law_pick, k_law_pick, b_law_pick⟩
  have cGreat : Cal l.prog w K mg base CX0 3 "_law_great_number" ["_law_feed_here"] spGreat := ⟨_, _, ok_great F_law_great_number T cDraw cPick, g_law_great_number, k_law_great_number, b_law_great_number⟩
  have cPowers : Cal l.prog w K mg base CX0 3 "_law_powers" ["_law_feed_here", "_law_my_width"] spPowers := ⟨_, _, ok_powers F_law_powers T cDraw cPick, g_law_powers, k_law_powers, b_law_powers⟩
  have cTerms : Cal l.prog w K mg base CX0 4 "_law_terms" ["_law_feed_here", "_law_my_width", "_law_most"] spTerms := ⟨_, _, ok_terms F_law_terms T cDraw cPick cGreat cPowers, g_law_terms, k_law_terms, b_law_terms⟩
  have cBook : Cal l.prog w K mg base CX0 1 "_law_book" ["_law_terms_here"] spBook := ⟨_, _, ok_book F_law_book T, g_law_book, k_law_book, b_law_book⟩
  have cTold : Cal l.prog w K mg base CX0 1 "_law_told" ["_law_book_here"] spTold := ⟨_, _, ok_told F_law_told T, g_law_told, k_law_told, b_law_told⟩
  have cGath : Cal l.prog w K mg base CX0 1 "gathered" ["terms"] (spGath K) := ⟨_, _, ok_gath F_gathered T, g_gathered, k_gathered, b_gathered⟩
  have cWhole : Cal l.prog w K mg base CX0 1 "whole_text" ["number"] spWhole := ⟨_, _, ok_whole F_whole_text T, g_whole_text, k_whole_text, b_whole_text⟩
  have cLet : Cal l.prog w K mg base CX0 1 "letters_text" ["powers"] spLetters := ⟨_, _, ok_letters F_letters_text T, g_letters_text, k_letters_text, b_letters_text⟩
  have cProd : Cal l.prog w K mg base CX0 2 "product_text" ["powers", "count"] spProduct := ⟨_, _, ok_product F_product_text T cLet cWhole, g_product_text, k_product_text, b_product_text⟩
  have cPcs : Cal l.prog w K mg base CX0 3 "sum_pieces" ["products"] spPieces := ⟨_, _, ok_pieces F_sum_pieces T cProd, g_sum_pieces, k_sum_pieces, b_sum_pieces⟩
  have cWr : Cal l.prog w K mg base CX0 2 "_law_written" ["_law_my_width", "_law_book_here"] spWritten := ⟨_, _, ok_written F_law_written T cTold, g_law_written, k_law_written, b_law_written⟩
  have cLead : Cal l.prog w K mg base CX0 1 "leading_figures" ["text", "at"] spLead := ⟨_, _, ok_lead F_leading_figures T, g_leading_figures, k_leading_figures, b_leading_figures⟩
  have cNum : Cal l.prog w K mg base CX0 2 "read_number" ["text", "most"] spReadN := ⟨_, _, ok_readnum F_read_number T cLead, g_read_number, k_read_number, b_read_number⟩
  have cEnd : Cal l.prog w K mg base CX0 2 "power_end" ["text", "at"] spEndP := ⟨_, _, ok_powerend F_power_end T cLead, g_power_end, k_power_end, b_power_end⟩
  have cRL : Cal l.prog w K mg base CX0 3 "read_letters" ["text", "width"] spRdL := ⟨_, _, ok_readletters F_read_letters T cEnd cNum, g_read_letters, k_read_letters, b_read_letters⟩
  have cRP : Cal l.prog w K mg base CX0 4 "read_product" ["text", "width"] spRdP := ⟨_, _, ok_readproduct F_read_product T cLead cRL, g_read_product, k_read_product, b_read_product⟩
  have cSg : Cal l.prog w K mg base CX0 1 "signed_pieces" ["text", "most"] spSgn := ⟨_, _, ok_signedpieces F_signed_pieces T, g_signed_pieces, k_signed_pieces, b_signed_pieces⟩
  have cRPs : Cal l.prog w K mg base CX0 5 "read_products" ["text", "width", "most"] spRps := ⟨_, _, ok_readproducts F_read_products T cSg cRP, g_read_products, k_read_products, b_read_products⟩
  have FI : FnOk l.prog w K mg base CX0 2 f_init _ ["self", "width", "terms"] (spInit K C_Sum) := ok_init F_init T S cGath
  have mkI : Mk K C_Sum f_init := ⟨mk, a_init, fn_init, kc⟩
  have M : MakS l.prog w K mg base 2 C_Sum ["self", "width", "terms"] (spInit K C_Sum) := ⟨f_init, _, mkI, FI, S.gl, b_init⟩
  have mTerms : MetS l.prog w K mg base 1 C_Sum "terms" ["self"] (spTermsM C_Sum) := ⟨f_m_terms, _, S.cls, ⟨a_m_terms, fn_m_terms, k_m_terms⟩, ok_termsM F_m_terms T S, b_m_terms⟩
  have FSt := ok_strM (P := l.prog) (w := w) (base := base) F_m_str T S cPcs
  have FR : FnOk l.prog w K mg base (L2.CX l.prog w) 7 f_read_sum _ ["text", "width"] (spRdS C_Sum C_BadText) := ok_readsum F_read_sum T S T_BadText nf_BadText FX b_text_init M cRPs a_m_str fn_m_str FSt b_m_str
  have un_law : ∀ p ∈ ([(Pt_law, qL "law")] : List (Addr × Str)), p.1 = Pt_law → p.2 = qL "law" := fun p hp e => by
    simp only [List.mem_cons, List.not_mem_nil, or_false] at hp
    rcases hp with rfl
    · rfl
  exact ok_law l_law c_law T S cFeed cDraw cPick cTerms cBook cWr mTerms FR g_read_sum k_read_sum kb1 T_BadText nf_BadText te_BadText ⟨F_law_word, g_law_word, b_law_word, PySem.W.mg_of X G a_BudError, PySem.W.mg_of X G a_NoPart, PySem.W.mg_of X G a_NoPlace, PySem.W.mg_of X G a_Lacking, PySem.W.mg_of X G a_NothingLeft, TBs _ (List.mem_cons_self ..), List.mem_cons_self .., un_law⟩
end Bw
set_option Elab.async false
set_option linter.all false
open PySem PySem.W PyProof.Rows
set_option maxRecDepth 100000 in
set_option maxHeartbeats 0 in
theorem PySem.Challenge.cw_budwright_k09_texts_that_write_no_sum_holds : PySem.Challenge.rw_budwright_k09_texts_that_write_no_sum.Holds := by
  w_on; o_law
  refine HandSHeadRun.head_any (r := OpenLaw.row PySem.Challenge.rw_budwright_k09_texts_that_write_no_sum) (q := Hd.qv) (H := Hd.hk) (ob := Hd.ob) (M := 7000) (loose := Hd.names) (d := HandSHeadRun.topDef (OpenLaw.row PySem.Challenge.rw_budwright_k09_texts_that_write_no_sum).prog 46) (kwd := []) Hd.ob_eq (by kernel_rfl) (fun s => by kernel_rfl) Hd.run (by kernel_rfl) (by kernel_rfl) (by kernel_rfl) (by rfl) (by first | assumption | decide +kernel) (by decide +kernel) ⟨rfl, rfl, rfl, rfl, rfl, by decide +kernel⟩ ?hw ?hc
  case hw => w_witness2
  refine LamX.walk_ofOwns (l := PySem.Challenge.rw_budwright_k09_texts_that_write_no_sum) (n := 63) (k := 10) (x := "_law_script") (K := Hd.K) (CX := fun _ => L2.CX0) rfl (by decide) (by kernel_rfl) ⟨rfl, by decide, by decide⟩ (fun w h Y => PySem.W.kIn_of Y) ?F (fun _ _ _ _ _ h => h)
  case F =>
    k_fill
    intro w mg fa h YP KX G hmg0 own
    have hmg : mg ("law" : PySem.Str) = some (.ref fa) := by
      have e : (HandSHeadRun.topDef (OpenLaw.row PySem.Challenge.rw_budwright_k09_texts_that_write_no_sum).prog 46).name = ("law" : PySem.Str) := by kernel_rfl
      rw [← e]
      exact hmg0
    refine' Bw.all_mk KX G hmg (own "law" _ (by first | rfl | decide +kernel) hmg) ?a_BudError ?a_BadText ?a_NoPart ?a_NoPlace ?a_Lacking ?a_NothingLeft ?a_Sum ?a_gathered ?l_gathered ?c_gathered ?k_gathered ?a_whole_text ?l_whole_text ?c_whole_text ?k_whole_text ?a_leading_figures ?l_leading_figures ?c_leading_figures ?k_leading_figures ?a_read_number ?l_read_number ?c_read_number ?k_read_number ?a_letters_text ?l_letters_text ?c_letters_text ?k_letters_text ?a_product_text ?l_product_text ?c_product_text ?k_product_text ?a_sum_pieces ?l_sum_pieces ?c_sum_pieces ?k_sum_pieces ?a_power_end ?l_power_end ?c_power_end ?k_power_end ?a_read_letters ?l_read_letters ?c_read_letters ?k_read_letters ?a_read_product ?l_read_product ?c_read_product ?k_read_product ?a_signed_pieces ?l_signed_pieces ?c_signed_pieces ?k_signed_pieces ?a_read_products ?l_read_products ?c_read_products ?k_read_products ?a_read_sum ?l_read_sum ?c_read_sum ?k_read_sum ?a_law_feed ?l_law_feed ?c_law_feed ?k_law_feed ?a_law_draw ?l_law_draw ?c_law_draw ?k_law_draw ?a_law_pick ?l_law_pick ?c_law_pick ?k_law_pick ?a_law_word ?l_law_word ?c_law_word ?k_law_word ?a_law_great_number ?l_law_great_number ?c_law_great_number ?k_law_great_number ?a_law_powers ?l_law_powers ?c_law_powers ?k_law_powers ?a_law_terms ?l_law_terms ?c_law_terms ?k_law_terms ?a_law_book ?l_law_book ?c_law_book ?k_law_book ?a_law_told ?l_law_told ?c_law_told ?k_law_told ?a_law_written ?l_law_written ?c_law_written ?k_law_written ?a_law ?l_law ?c_law ?k_law ?a_bud_init ?l_bud_init ?c_bud_init ?k_bud_init ?a_text_init ?l_text_init ?c_text_init ?k_text_init ?a_m_terms ?l_m_terms ?c_m_terms ?k_m_terms ?a_m_str ?l_m_str ?c_m_str ?k_m_str ?z_len ?z_range ?z_zip ?z_all ?z_any ?z_sorted ?z_isinstance ?z_bool ?z_tuple ?z_list ?z_dict ?z_str ?z_int ?z_abs ?z_repr ?z_reversed ?z_divmod ?z_ValueError ?z_max ?i_WIDE ?i_CHUNK ?i_CHUNK_FIGURES ?i_COUNT_FIGURES ?i_POWER_FIGURES ?i_FIGURES ?i_LETTERS ?sg ?tyB ?rdB ?fcB ?vv ?eB ?hB ?eC_NoPart ?tC_NoPart ?hC_NoPart ?eC_NoPlace ?tC_NoPlace ?hC_NoPlace ?eC_Lacking ?tC_Lacking ?hC_Lacking ?eC_NothingLeft ?tC_NothingLeft ?hC_NothingLeft ?xL_BadText ?sa_BadText ?ga_BadText ?gg_BadText ?nw_BadText ?tI_BadText ?kC_BadText ?eC_BadText ?tC_BadText ?hC_BadText ?sC_BadText ?nf_BadText ?sl_BadText ?a_init ?l_init ?c_init ?k_init ?lT ?fn_init ?lE ?mk ?kc ?pg ?hd ?po ?sa ?nw ?np ?hcl ?hgt ?htk ?hmr ?slf ?fn_m_terms ?fn_m_str ?cl_law ?v11_law ?hd_law ?nP_law
    (case a_BudError => k_is)
    (case a_BadText => k_is)
    (case a_NoPart => k_is)
    (case a_NoPlace => k_is)
    (case a_Lacking => k_is)
    (case a_NothingLeft => k_is)
    (case a_Sum => k_is)
    (case a_gathered => k_is)
    (case l_gathered => k_is)
    (case c_gathered => k_is)
    (case k_gathered => k_is)
    (case a_whole_text => k_is)
    (case l_whole_text => k_is)
    (case c_whole_text => k_is)
    (case k_whole_text => k_is)
    (case a_leading_figures => k_is)
    (case l_leading_figures => k_is)
    (case c_leading_figures => k_is)
    (case k_leading_figures => k_is)
    (case a_read_number => k_is)
    (case l_read_number => k_is)
    (case c_read_number => k_is)
    (case k_read_number => k_is)
    (case a_letters_text => k_is)
    (case l_letters_text => k_is)
    (case c_letters_text => k_is)
    (case k_letters_text => k_is)
    (case a_product_text => k_is)
    (case l_product_text => k_is)
    (case c_product_text => k_is)
    (case k_product_text => k_is)
    (case a_sum_pieces => k_is)
    (case l_sum_pieces => k_is)
    (case c_sum_pieces => k_is)
    (case k_sum_pieces => k_is)
    (case a_power_end => k_is)
    (case l_power_end => k_is)
    (case c_power_end => k_is)
    (case k_power_end => k_is)
    (case a_read_letters => k_is)
    (case l_read_letters => k_is)
    (case c_read_letters => k_is)
    (case k_read_letters => k_is)
    (case a_read_product => k_is)
    (case l_read_product => k_is)
    (case c_read_product => k_is)
    (case k_read_product => k_is)
    (case a_signed_pieces => k_is)
    (case l_signed_pieces => k_is)
    (case c_signed_pieces => k_is)
    (case k_signed_pieces => k_is)
    (case a_read_products => k_is)
    (case l_read_products => k_is)
    (case c_read_products => k_is)
    (case k_read_products => k_is)
    (case a_read_sum => k_is)
    (case l_read_sum => k_is)
    (case c_read_sum => k_is)
    (case k_read_sum => k_is)
    (case a_law_feed => k_is)
    (case l_law_feed => k_is)
    (case c_law_feed => k_is)
    (case k_law_feed => k_is)
    (case a_law_draw => k_is)
    (case l_law_draw => k_is)
    (case c_law_draw => k_is)
    (case k_law_draw => k_is)
    (case a_law_pick => k_is)
    (case l_law_pick => k_is)
    (case c_law_pick => k_is)
    (case k_law_pick => k_is)
    (case a_law_word => k_is)
    (case l_law_word => k_is)
    (case c_law_word => k_is)
    (case k_law_word => k_is)
    (case a_law_great_number => k_is)
    (case l_law_great_number => k_is)
    (case c_law_great_number => k_is)
    (case k_law_great_number => k_is)
    (case a_law_powers => k_is)
    (case l_law_powers => k_is)
    (case c_law_powers => k_is)
    (case k_law_powers => k_is)
    (case a_law_terms => k_is)
    (case l_law_terms => k_is)
    (case c_law_terms => k_is)
    (case k_law_terms => k_is)
    (case a_law_book => k_is)
    (case l_law_book => k_is)
    (case c_law_book => k_is)
    (case k_law_book => k_is)
    (case a_law_told => k_is)
    (case l_law_told => k_is)
    (case c_law_told => k_is)
    (case k_law_told => k_is)
    (case a_law_written => k_is)
    (case l_law_written => k_is)
    (case c_law_written => k_is)
    (case k_law_written => k_is)
    (case a_law => k_is)
    (case l_law => k_is)
    (case c_law => k_is)
    (case k_law => k_is)
    (case a_bud_init => k_is)
    (case l_bud_init => k_is)
    (case c_bud_init => k_is)
    (case k_bud_init => k_is)
    (case a_text_init => k_is)
    (case l_text_init => k_is)
    (case c_text_init => k_is)
    (case k_text_init => k_is)
    (case a_m_terms => k_is)
    (case l_m_terms => k_is)
    (case c_m_terms => k_is)
    (case k_m_terms => k_is)
    (case a_m_str => k_is)
    (case l_m_str => k_is)
    (case c_m_str => k_is)
    (case k_m_str => k_is)
    (case z_len => k_is)
    (case z_range => k_is)
    (case z_zip => k_is)
    (case z_all => k_is)
    (case z_any => k_is)
    (case z_sorted => k_is)
    (case z_isinstance => k_is)
    (case z_bool => k_is)
    (case z_tuple => k_is)
    (case z_list => k_is)
    (case z_dict => k_is)
    (case z_str => k_is)
    (case z_int => k_is)
    (case z_abs => k_is)
    (case z_repr => k_is)
    (case z_reversed => k_is)
    (case z_divmod => k_is)
    (case z_ValueError => k_is)
    (case z_max => k_is)
    (case i_WIDE => k_is)
    (case i_CHUNK => k_is)
    (case i_CHUNK_FIGURES => k_is)
    (case i_COUNT_FIGURES => k_is)
    (case i_POWER_FIGURES => k_is)
    (case i_FIGURES => k_is)
    (case i_LETTERS => k_is)
    (case sg => k_is)
    (case tyB => k_is)
    (case rdB => k_is)
    (case fcB => k_is)
    (case vv => k_is)
    (case eB => k_is)
    (case hB => k_is)
    (case eC_NoPart => k_is)
    (case tC_NoPart => k_is)
    (case hC_NoPart => k_is)
    (case eC_NoPlace => k_is)
    (case tC_NoPlace => k_is)
    (case hC_NoPlace => k_is)
    (case eC_Lacking => k_is)
    (case tC_Lacking => k_is)
    (case hC_Lacking => k_is)
    (case eC_NothingLeft => k_is)
    (case tC_NothingLeft => k_is)
    (case hC_NothingLeft => k_is)
    (case xL_BadText => k_is)
    (case sa_BadText => k_is)
    (case ga_BadText => k_is)
    (case gg_BadText => k_is)
    (case nw_BadText => k_is)
    (case tI_BadText => k_is)
    (case kC_BadText => k_is)
    (case eC_BadText => k_is)
    (case tC_BadText => k_is)
    (case hC_BadText => k_is)
    (case sC_BadText => first | rfl | k_is)
    (case nf_BadText => k_is)
    (case sl_BadText => first | rfl | k_is)
    (case a_init => k_is)
    (case l_init => k_is)
    (case c_init => k_is)
    (case k_init => k_is)
    (case lT => k_is)
    (case fn_init => k_is)
    (case lE => k_is)
    (case mk => k_is)
    (case kc => k_is)
    (case pg => k_is)
    (case hd => k_is)
    (case po => k_is)
    (case sa => k_is)
    (case nw => k_is)
    (case np => k_is)
    (case hcl => k_is)
    (case hgt => k_is)
    (case htk => first | k_is | rfl)
    (case hmr => first | k_is | rfl)
    (case slf => first | k_is | rfl)
    (case fn_m_terms => k_is)
    (case fn_m_str => k_is)
    (case cl_law => k_is)
    (case v11_law => rfl)
    (case hd_law => first | k_is | rfl | decide +kernel)
    (case nP_law => first | rfl | k_is | decide +kernel)
