import PyProof.Rows.All
import Wide.All
import OpenK.AllK
import Wide.FinOn
import HandS.ForMost
import HandS.ForExc
import HandS.SortOrd
import HandS.SortRule
import HandS.SortKw
import HandS.Conv
import HandS.NamedTupSort
import KE.KDictPairs
import HandS.Codes
import HandS.IsInst
import HandS.Zip
import HandS.Walk
import HandS.TupAny
import HandS.TupMul
import HandS.Flow
import HandS.ExcInit
import HandS.OwnEq
import HandS.Style
import PyProof.InstEq
import HandS.Wide
import HandS.Head2
import HandS.Defaults
import HandS.ExcField
import HandS.CallSlots
import HandS.More
import HandS.Lambda
import HandS.EndOwn
import HandS.NestedK
import KE.KExcInit
import KE.KTryMore
import HandS.Finally
import HandS.Dict
import HandS.DictComp
import HandS.SetFor
import PyProof.SetRoads
import HandS.ExcOwn
import HandS.ExcIs
import PySem.Challenge.RW_budwright_k11_whole_barred_or_weighed
set_option Elab.async false
set_option linter.all false
set_option maxRecDepth 100000
set_option maxHeartbeats 4000000
namespace Bw
open PySem PySem.Spec PyProof.Rows L2
/-! ### tuples of ints in order -/
def IsTupI (h : Heap) (v : Value) (p : List Int) : Prop := ∃ a o its n, v = .ref a ∧ h.get? a = some o ∧ o.cls = .type "tuple" ∧ o.data = .seq its n ∧ IntsAre its.toList p
theorem IsTupI.keeps {h h' : Heap} {v : Value} {p : List Int} (x : IsTupI h v p) (k : ∀ b o, h.get? b = some o → o.cls = .type "tuple" → h'.get? b = some o) : IsTupI h' v p := by
  obtain ⟨a, o, its, n, e, ho, hc, hd, hi⟩ := x
  exact ⟨a, o, its, n, e, k _ _ ho hc, hc, hd, hi⟩
section
variable {prog : Program} {w : World} {A : Around} {s : Shared}
theorem kat_ints {b : Bool} {Q : Bool → Shared → Prop} : ∀ {ps : List Value} {p : List Int}, IntsAre ps p → ∀ {qs : List Value} {q : List Int}, IntsAre qs q → ∀ (i : Nat) (fin : Bool), fin = decide (ps.length < qs.length) → Q (HT.lexLt p q) s → PySem.W.KatLex prog w A b fin Q (ps.zip qs) i s
  | _, _, .nil, _, _, .nil, i, fin, hf, hq => by
    subst hf
    exact PySem.W.kat_nil hq
  | _, _, .nil, _, _, .cons _ _ _, i, fin, hf, hq => by
    have e : fin = true := by
      rw [hf]
      exact decide_eq_true (by rw [List.length_cons]; exact Nat.succ_pos _)
    subst e
    exact PySem.W.kat_nil hq
  | _, _, .cons _ _ _, _, _, .nil, i, fin, hf, hq => by
    have e : fin = false := by
      rw [hf]
      exact decide_eq_false (by rw [List.length_nil]; omega)
    subst e
    exact PySem.W.kat_nil hq
  | _, _, .cons x t r, _, _, .cons y u r', i, fin, hf, hq => by
    rw [List.zip_cons_cons]
    refine PySem.W.kat_cons (SeqAt.EqAt.int_int _ _ _ _ prog w _ _ ?_)
    rw [HT.lexLt_cons] at hq
    refine PySem.W.kat_go (fun e1 => ?_) (fun e1 => ?_)
    · have ex : x = y := by simpa using e1
      rw [if_pos ex] at hq
      exact PySem.W.kat_yes (kat_ints r r' (i + 1) fin (by rw [hf, List.length_cons, List.length_cons]; congr 1; simp) hq)
    · have ex : ¬ x = y := by simpa using e1
      rw [if_neg ex] at hq
      exact PySem.W.kat_no (TS.oneLt_ints _ hq)
theorem tup_cmp {vs : List Value} {k : Value → List Int} (hp : ∀ v ∈ vs, IsTupI s.heap v (k v)) : SrtO.Cmp prog w A s (tuples' true) (fun p => p.1 ∈ vs) (SrtO.lt2 fun v u => HT.lexLt (k v) (k u)) := by
  intro p q hm hm'
  obtain ⟨a, o, its, n, e, ho, hc, hd, hi⟩ := hp _ hm
  obtain ⟨a', o', its', n', e', ho', hc', hd', hi'⟩ := hp _ hm'
  show wpAny (model prog w) A (keyLt' (tuples' true) p.1 q.1) (fun r s' => s' = s ∧ r = HT.lexLt (k p.1) (k q.1)) (fun _ _ => False) s
  generalize k p.1 = x at hi ⊢
  generalize k q.1 = y at hi' ⊢
  rw [e, e']
  exact PySem.W.kat_lt ho hd ho' hd' (kat_ints hi hi' 0 _ (by rw [Array.length_toList, Array.length_toList]) ⟨rfl, rfl⟩)
theorem firsts_tup {h : Heap} : ∀ {vs : List Value}, (∀ v ∈ vs, ∃ x p, IsTupI h v (x :: p)) → ∃ fs : List Value, PySem.W.KatTups h vs fs ∧ fs.length = vs.length ∧ ∀ f ∈ fs, ∃ x t, f = Value.int x t
  | [], _ => ⟨[], PySem.W.KatTups.nil, rfl, fun _ hm => by simp at hm⟩
  | v :: vs, hp => by
    obtain ⟨fs, h1, h2, h3⟩ := firsts_tup (vs := vs) fun v' hm => hp v' (List.mem_cons_of_mem _ hm)
    obtain ⟨x, p, a, o, its, n, e, ho, hc, hd, hi⟩ := hp v (List.mem_cons_self ..)
    subst e
    cases hl : its.toList with
    | nil =>
      rw [hl] at hi
      cases hi
    | cons f r =>
      rw [hl] at hi
      cases hi with
      | cons _ t hr =>
        refine ⟨.int x t :: fs, PySem.W.KatTups.cons ho hc hd (by rw [← Array.getElem?_toList, hl]; rfl) h1, by rw [List.length_cons, List.length_cons, h2], fun g hg => ?_⟩
        rcases List.mem_cons.mp hg with rfl | hg
        · exact ⟨x, t, rfl⟩
        · exact h3 g hg
theorem tups_sortable {a : Addr} {vs : List Value} {k : Value → List Int} (h0 : 0 < vs.length) (hp : ∀ v ∈ vs, IsTupI s.heap v (k v)) (hne : ∀ v ∈ vs, k v ≠ []) (ha : ∀ o, s.heap.get? a = some o → o.cls ≠ .type "tuple") : SrtO.SortableO prog w A s a vs fun v u => HT.lexLt (k v) (k u) := by
  intro h' keep
  have hp' : ∀ v ∈ vs, IsTupI h' v (k v) := fun v hm => (hp v hm).keeps fun b o e c => keep b o (fun z => by subst z; exact ha o e c) e
  obtain ⟨fs, h1, h2, h3⟩ := firsts_tup fun v hm => by
    have x := hp' v hm
    cases e : k v with
    | nil => exact absurd e (hne v hm)
    | cons y p =>
      rw [e] at x
      exact ⟨y, p, x⟩
  refine ⟨tuples' true, fun Q E hq => ?_, tup_cmp hp'⟩
  have e0 : (Value.type "int" != Value.type "tuple") = true := by decide +kernel
  refine PySem.W.kat_kind (T := .type "int") h1 (by rw [h2]; exact h0) (fun g hg => ?_) rfl (by rw [e0]; exact hq)
  obtain ⟨x, t, rfl⟩ := h3 g hg
  exact PySem.W.Looks.now
end
/-! ### as rules of the layer -/
def unInt : V → Int
  | .int i => i
  | _ => 0
def unRef : Value → Addr
  | .ref a => a
  | _ => 0
/-- the ints of the tuple at b -/
def keyOf (H : Hp) (b : Addr) : List Int := match H b with
  | some (.tup xs) => xs.map unInt
  | _ => []
theorem keyOf_at {H : Hp} {b : Addr} {q : List Int} (h : H b = some (.tup (q.map V.int))) : keyOf H b = q := by
  unfold keyOf
  rw [h]
  show (q.map V.int).map unInt = q
  rw [List.map_map]
  have e : unInt ∘ V.int = id := rfl
  rw [e, List.map_id]
theorem unRef_map : ∀ {us : List Value} {ts : List Addr}, us = ts.map Value.ref → us.map unRef = ts
  | _, ts, rfl => by
    rw [List.map_map]
    have e : unRef ∘ Value.ref = id := rfl
    rw [e, List.map_id]
theorem ref_map : ∀ {us : List Value} {ts : List Addr}, (∀ u ∈ us, u ∈ ts.map Value.ref) → us = (us.map unRef).map Value.ref
  | [], _, _ => rfl
  | u :: us, ts, h => by
    obtain ⟨t, _, e⟩ := List.mem_map.mp (h u (List.mem_cons_self ..))
    subst e
    show _ = Value.ref t :: (us.map unRef).map Value.ref
    rw [← ref_map (ts := ts) fun v hv => h v (List.mem_cons_of_mem _ hv)]
section
variable {X : Cx}
theorem tupI_of {pins : List (Addr × Obj)} {s : Shared} {σ : L2.St} {H : Hp} (I : L2.Inv X pins σ H s) {t : Addr} {q : List Int} (ht : H t = some (.tup (q.map V.int))) : IsTupI s.heap (.ref t) (keyOf H t) := by
  rw [keyOf_at ht]
  obtain ⟨_, its2, r2, o, ho, hc, n, hd⟩ := I.hok _ _ ht
  exact ⟨t, o, _, n, rfl, ho, hc, hd, r2.ints⟩
/-- sorted(xs), a list of tuples of ints: rising -/
def rSortTI (K : PySem.W.Frag) : List V → Hp → VK → Prop := fun vs H Q => ∃ (a : Addr) (ts : List Addr), vs = [V.ref a] ∧ SqL K H a (ts.map V.ref) ∧ (∀ t ∈ ts, ∃ q : List Int, H t = some (.tup (q.map V.int))) ∧ (2 ≤ ts.length → ∀ t ∈ ts, keyOf H t ≠ []) ∧
  ∀ (ts' : List Addr) (p : Addr), ts'.Perm ts → ts'.Pairwise (fun x y => HT.lexLt (keyOf H y) (keyOf H x) = false) → H p = none → Q (.ref p) (upd H p (.lst (ts'.map V.ref)))
theorem cr_sortTI {K : PySem.W.Frag} (hK : X.K = K := by rfl) : CallR X (.builtin "sorted") (rSortTI K) := by
  subst hK
  intro pins s σ H vs us Q I r h
  obtain ⟨a, ts, rfl, hs, hx, hne, q⟩ := h
  obtain ⟨its, rv, hl, hz⟩ := I.list hs
  obtain ⟨u, rfl, ru⟩ := vals1 r
  obtain rfl : u = Value.ref a := ru
  have ei := refs_at rv
  have lz : its.length ≤ sizeLine := by
    rw [← rv.length]
    exact hz
  have hk : ∀ (h₁ : Heap), (∀ b o, s.heap.get? b = some o → h₁.get? b = some o) → ∀ v ∈ its, IsTupI h₁ v (keyOf H (unRef v)) := fun h₁ kk v hv => by
    rw [ei] at hv
    obtain ⟨t, ht, rfl⟩ := List.mem_map.mp hv
    obtain ⟨q', hq'⟩ := hx t ht
    exact (tupI_of I hq').keeps fun b o e _ => kk b o e
  refine SrtO.sorted_ord (NtL.swo_lexL fun v => keyOf H (unRef v)) hl.isList lz (fun h2 h₁ a' ha kk => ?_) fun out hs hb => ?_
  · refine tups_sortable (s := { s with heap := h₁ }) (by omega) (hk h₁ fun b o e => (kk b o e).2) (fun v hv => ?_) fun o e => ?_
    · rw [ei] at hv h2
      obtain ⟨t, ht, rfl⟩ := List.mem_map.mp hv
      rw [List.length_map] at h2
      exact hne h2 t ht
    · have e' : some o = some (seqObj "list" its.toArray 0) := e.symm.trans ha
      cases e'
      intro c
      exact absurd (Value.type.inj c) (by decide)
  · have hm : ∀ u ∈ out, u ∈ ts.map Value.ref := fun u hu => by
      rw [← ei]
      exact hb.perm.mem_iff.mp hu
    have eo := ref_map hm
    have hp : (out.map unRef).Perm ts := by
      have z := hb.perm.map unRef
      rw [unRef_map ei] at z
      exact z
    obtain ⟨n, hn⟩ := PyProof.Rows.sortedAll_at s.heap its out.toArray
    refine ⟨.ref (s.heap.objs.size + 1), upd H (s.heap.objs.size + 1) (.lst ((out.map unRef).map V.ref)), I.laid (t' := s.toks) (fun b o e => PyProof.Rows.sortedAll_old e) (Nat.le_succ _) ⟨?_, out, n, ?_, hn⟩, rfl, q _ _ hp (List.pairwise_map.mpr hs) (I.hok.fresh (Nat.le_succ _))⟩
    · rw [List.length_map, hp.length_eq, ← List.length_map (f := V.ref)]
      exact hz
    · have z := vals_refs (out.map unRef)
      rw [← eo] at z
      exact z
/-- the key tuples of a dict, as they are collected -/
theorem acc_keys {P : Program} {w : World} {es : Array DictEntry} {ks : List (List Key × Addr × Value)} {acc : Array Value} (he : es.toList = ks.map (entryOfKey (tupleKind (mixKind P w)))) (it : ItemsOf (fun i v => ∃ en : DictEntry, es[i]? = some en ∧ v = en.key) acc es.size) :
    acc.toList = (ks.map fun x => x.2.1).map Value.ref := by
  have l1 : es.size = ks.length := size_of_entries he
  apply List.ext_getElem?
  intro j
  rw [List.getElem?_map, List.getElem?_map]
  cases hj : acc.toList[j]? with
  | none =>
    have h1 := List.getElem?_eq_none_iff.mp hj
    rw [Array.length_toList, it.1] at h1
    rw [List.getElem?_eq_none (show ks.length ≤ j by omega)]
    rfl
  | some v =>
    obtain ⟨en, hen, hv⟩ := it.2 j v (by rw [← Array.getElem?_toList]; exact hj)
    have qe := entry_at he j
    rw [hen] at qe
    cases hb : ks[j]? with
    | none =>
      rw [hb] at qe
      cases qe
    | some b =>
      rw [hb] at qe
      have e2 := Option.some.inj qe
      rw [hv, e2]
      rfl
/-- the keys of a dict, tuples of ints -/
def KeysI (kvs : List (List Key × V)) (ps : List (List Int)) : Prop := kvs.map (·.1) = ps.map (List.map Sum.inl)
/-- sorted(d, reverse=True), a dict whose keys are tuples of ints: falling -/
def rSortDT : List V → List V → Hp → VK → Prop := fun vs zs H Q => ∃ (d : Addr) (kvs : List (List Key × V)) (ps : List (List Int)), vs = [V.ref d] ∧ zs = [.bl true] ∧ Rd H d (.dT kvs) ∧ KeysI kvs ps ∧ (2 ≤ ps.length → ∀ q ∈ ps, q ≠ []) ∧
  ∀ (bs : List Addr) (p : Addr), (∀ b ∈ bs, ∃ q : List Int, H b = some (.tup (q.map V.int))) → (bs.map (keyOf H)).Perm ps → bs.Pairwise (fun x y => HT.lexLt (keyOf H x) (keyOf H y) = false) → H p = none → Q (.ref p) (upd H p (.lst (bs.map V.ref)))
theorem keys_kt {H : Hp} : ∀ {kvs : List (List Key × V)} {ks : List (List Key × Addr × Value)} {ps : List (List Int)}, KT H kvs ks → KeysI kvs ps → (∀ b ∈ ks.map (fun x => x.2.1), ∃ q : List Int, H b = some (.tup (q.map V.int))) ∧ (ks.map fun x => x.2.1).map (keyOf H) = ps
  | _, _, ps, .nil, h => by
    cases ps with
    | nil => exact ⟨fun b hb => by simp at hb, rfl⟩
    | cons q ps => cases h
  | _, _, ps, .cons (a := kv) (b := x) hx t, h => by
    cases ps with
    | nil => cases h
    | cons q ps =>
      have h' : kv.1 :: _ = q.map Sum.inl :: ps.map (List.map Sum.inl) := h
      obtain ⟨e1, e2⟩ := List.cons.inj h'
      obtain ⟨i1, i2⟩ := keys_kt t e2
      have hq : H x.2.1 = some (.tup (q.map V.int)) := by
        rw [hx.2.1, e1, List.map_map]
        rfl
      refine ⟨fun b hb => ?_, ?_⟩
      · rcases List.mem_cons.mp hb with rfl | hb
        · exact ⟨q, hq⟩
        · exact i1 b hb
      · show keyOf H x.2.1 :: _ = q :: ps
        rw [keyOf_at hq, i2]
theorem cr_sortDT (hc : X.calm = true) : CallRK X (.builtin "sorted") [Str.ofString "reverse"] rSortDT := by
  intro pins s σ H vs zs us ws Q I r rz h
  obtain ⟨d, kvs, ps, rfl, rfl, hd, hK, hne, q⟩ := h
  obtain rfl := Vals.ref1 r
  obtain ⟨w1, rfl, e1⟩ := vals1 rz
  obtain rfl : w1 = Value.bool true := e1
  obtain ⟨z, hs, ks, pr, o, es, ep, ho, hx, hdt, he, hn⟩ := (show ObjOk X.prog X.w H s.heap d (.dT kvs) from hd.ok I.hok)
  have l1 : es.size = ks.length := size_of_entries he
  have l2 : kvs.length = ks.length := Paired.length pr
  obtain ⟨k1, k2⟩ := keys_kt pr hK
  have l3 : ks.length = ps.length := by
    rw [← k2, List.length_map, List.length_map]
  show wpAny (model X.prog X.w) X.A (call (.builtin "sorted") [.ref d] [(Str.ofString "reverse", .bool true)]) _ _ _
  refine PyProof.Rows.call_function_entry_kw PyProof.Rows.kind_sorted PyProof.Rows.plain_sorted PyProof.Rows.entry_sorted (PyProof.Rows.args_sorted_rev _ _) ?_
  unfold Builtin.«sorted»
  refine wpAny_bind (m := checkCount "sorted" 1 1 _) (wpAny_pure ?_)
  refine wpAny_bind (PySem.W.kdu_collect (A := X.A.in1) (kdl_raw hs hx hdt) (I.ok.hd hc) ho (by omega) fun h' tk acc hk hacc => ?_)
  have ea := acc_keys he hacc
  generalize (ks.map fun x => x.2.1) = ts at ea k1 k2
  have I1 : Inv X pins σ H { s with heap := h', toks := tk } := I.kept hk
  have lts : ts.length = ps.length := by
    rw [← k2, List.length_map]
  have lz : acc.toList.length ≤ sizeLine := by
    rw [ea, List.length_map]
    omega
  refine wpAny_bind (wpAny_newList ?_ lz)
  have hoL : (h'.push (seqObj "list" acc.toList.toArray 0)).get? h'.objs.size = some (seqObj "list" acc.toList.toArray 0) := Heap.get?_push_size _ rfl
  show wpAny _ _ _ _ _ { s with heap := h'.push (seqObj "list" acc.toList.toArray 0), toks := tk }
  have kp : ∀ b o, h'.get? b = some o → b ≠ h'.objs.size ∧ (h'.push (seqObj "list" acc.toList.toArray 0)).get? b = some o := fun b o e => ⟨Nat.ne_of_lt (Heap.lt_size e), Heap.get?_push_of_some _ e⟩
  refine wpAny_bind (wpAny_holding (wpAny_call_entry_kw PyProof.Rows.slot_list_sort ⟨_, hoL, rfl⟩ PyProof.Rows.entry_list_sort (SrtR.list_sort_ordR (b := true) (s := { s with heap := h'.push (seqObj "list" acc.toList.toArray 0), toks := tk }) (NtL.swo_lexL fun v => keyOf H (unRef v)) hoL lz (fun h2 => ?_) fun out g1 g2 => ⟨_, rfl, ?_⟩) (PyProof.Rows.args_list_sort_rev _ _)))
  · refine tups_sortable (s := { s with heap := h'.push (seqObj "list" acc.toList.toArray 0), toks := tk }) (by omega) (fun v hv => ?_) (fun v hv => ?_) fun o e => ?_
    · rw [ea] at hv
      obtain ⟨t, ht, rfl⟩ := List.mem_map.mp hv
      obtain ⟨q', hq'⟩ := k1 t ht
      exact (tupI_of I1 hq').keeps fun b o e _ => (kp b o e).2
    · rw [ea] at hv
      obtain ⟨t, ht, rfl⟩ := List.mem_map.mp hv
      rw [ea, List.length_map, lts] at h2
      refine hne h2 _ ?_
      rw [← k2]
      exact List.mem_map.mpr ⟨t, ht, rfl⟩
    · have e' : some o = some (seqObj "list" acc.toList.toArray 0) := e.symm.trans hoL
      cases e'
      intro c
      exact absurd (Value.type.inj c) (by decide)
  · rw [if_pos rfl] at g2
    have hm : ∀ u ∈ out, u ∈ ts.map Value.ref := fun u hu => by
      rw [← ea]
      exact List.mem_reverse.mp (g2.perm.mem_iff.mp hu)
    have eo := ref_map hm
    have hp : (out.map unRef).Perm ts := by
      have z := (g2.perm.trans (List.reverse_perm _)).map unRef
      rw [unRef_map ea] at z
      exact z
    obtain ⟨n, hn'⟩ := PyProof.Rows.sortedHeap_at (vs := acc.toList) (out := out.toArray.reverse) hoL
    have er : (out.toArray.reverse) = (out.reverse).toArray := by simp
    refine wpAny_pure ⟨_, rfl, .ref h'.objs.size, upd H h'.objs.size (.lst ((out.map unRef).reverse.map V.ref)), I1.laid (t' := tk) (fun b u e => ?_) (Nat.le_refl _) ⟨?_, out.reverse, n, ?_, ?_⟩, rfl, q _ _ (fun b hb => k1 b (hp.mem_iff.mp (List.mem_reverse.mp hb))) ?_ ?_ (I1.hok.fresh (Nat.le_refl _))⟩
    · have hb : b < h'.objs.size := Heap.lt_size e
      rw [if_pos rfl, PyProof.Rows.sortedHeap_old (Nat.ne_of_lt hb) (by rw [size_push']; exact Nat.lt_succ_of_lt hb)]
      exact Heap.get?_push_of_some _ e
    · rw [List.length_map, List.length_reverse, hp.length_eq]
      omega
    · have z := vals_refs (out.map unRef).reverse
      rw [List.map_reverse, List.map_reverse, ← eo] at z
      rw [List.map_reverse]
      exact z
    · rw [if_pos rfl, ← er]
      exact hn'
    · rw [← k2]
      exact ((List.reverse_perm _).trans hp).map (keyOf H)
    · rw [List.pairwise_reverse]
      exact List.pairwise_map.mpr g1
end
end Bw
set_option Elab.async false
set_option linter.all false
set_option maxRecDepth 100000
set_option maxHeartbeats 4000000
namespace Bw
open PySem PySem.Spec PyProof.Rows L2
def mergeT (kvs more : List (List Key × V)) : List (List Key × V) := more.foldl (fun acc kv => putK acc kv.1 kv.2) kvs
/-- dict(xs), a list of pairs (key, value), the keys tuples: later ones win, at the first one's place -/
def rDictPT (K : PySem.W.Frag) : List V → Hp → VK → Prop := fun vs H Q => ∃ (a : Addr) (ts : List Addr) (its : List (List Key × Addr × V)), vs = [V.ref a] ∧ SqL K H a (ts.map V.ref) ∧
  Paired (fun t (x : List Key × Addr × V) => H t = some (.tup [.ref x.2.1, x.2.2]) ∧ H x.2.1 = some (.tup (x.1.map kV))) ts its ∧ ∀ p, H p = none → Q (.ref p) (upd H p (.dT (mergeT [] (its.map fun x => (x.1, x.2.2)))))
section
variable {X : Cx} {pins : List (Addr × Obj)} {s : Shared} {σ : L2.St} {H : Hp}
theorem pairsT_of (I : L2.Inv X pins σ H s) : ∀ {ts : List Addr} {its : List (List Key × Addr × V)}, Paired (fun t (x : List Key × Addr × V) => H t = some (.tup [.ref x.2.1, x.2.2]) ∧ H x.2.1 = some (.tup (x.1.map kV))) ts its →
    ∃ ps : List (List Key × Addr × Value), Paired (fun (x : List Key × Addr × V) (q : List Key × Addr × Value) => x.1 = q.1 ∧ H q.2.1 = some (.tup (q.1.map kV)) ∧ RelV x.2.2 q.2.2) its ps ∧ ps.length = ts.length ∧
      ∀ (j : Nat) (q : List Key × Addr × Value), ps[j]? = some q → ∃ t, ts[j]? = some t ∧ s.heap.IsTuple t #[.ref q.2.1, q.2.2]
  | _, _, .nil => ⟨[], .nil, rfl, fun j q e => by simp at e⟩
  | _, _, .cons (a := t) (b := x) h r => by
    obtain ⟨ps, r1, hl, hp⟩ := pairsT_of I r
    obtain ⟨_, us, rv, hT⟩ := I.hok _ _ h.1
    obtain ⟨u1, u2, rfl, e1, e2⟩ := vals2 rv
    obtain rfl : u1 = Value.ref x.2.1 := e1
    refine ⟨(x.1, x.2.1, u2) :: ps, .cons ⟨rfl, h.2, e2⟩ r1, by rw [List.length_cons, List.length_cons, hl], fun j q e => ?_⟩
    cases j with
    | zero =>
      cases (Option.some.inj e)
      exact ⟨t, rfl, hT⟩
    | succ j => exact hp j q e
theorem kt_merge {H' : Hp} : ∀ {its : List (List Key × Addr × V)} {ps : List (List Key × Addr × Value)} {kvs : List (List Key × V)} {xs : List (List Key × Addr × Value)}, Paired (fun (x : List Key × Addr × V) (q : List Key × Addr × Value) => x.1 = q.1 ∧ H' q.2.1 = some (.tup (q.1.map kV)) ∧ RelV x.2.2 q.2.2) its ps → KT H' kvs xs →
    KT H' (mergeT kvs (its.map fun x => (x.1, x.2.2))) (storedAllH xs ps)
  | _, _, _, _, .nil, k => k
  | _, _, kvs, xs, .cons (a := x) (b := q) h r, k => by
    have z := KT.put k q.1 h.2.1 h.2.2
    rw [← h.1] at z
    have z2 := kt_merge (kvs := putK kvs x.1 x.2.2) (xs := storedH xs x.1 q.2.1 q.2.2) r z
    show KT H' (mergeT (putK kvs x.1 x.2.2) _) (storedAllH (storedH xs q.1 q.2.1 q.2.2) _)
    rw [← h.1]
    exact z2
theorem putT_len (kvs : List (List Key × V)) (k : List Key) (v : V) : (putK kvs k v).length ≤ kvs.length + 1 := length_putK kvs k v
theorem mergeT_len : ∀ (more kvs : List (List Key × V)), (mergeT kvs more).length ≤ kvs.length + more.length
  | [], kvs => Nat.le_refl _
  | m :: more, kvs => by
    show (mergeT (putK kvs m.1 m.2) more).length ≤ _
    have h1 := mergeT_len more (putK kvs m.1 m.2)
    have h2 := putT_len kvs m.1 m.2
    rw [List.length_cons]
    omega
end
theorem cr_dictPT {X : Cx} {K : PySem.W.Frag} (hc : X.calm = true) (hu : X.A.units + 64 < cLine) (hK : X.K = K := by rfl) : CallR X (.type "dict") (rDictPT K) := by
  subst hK
  intro pins s σ H vs us Q I r h
  obtain ⟨a, ts, its, rfl, hs, hp, q⟩ := h
  obtain ⟨vs, rv, hl, hz⟩ := I.list hs
  obtain ⟨u, rfl, ru⟩ := vals1 r
  obtain rfl : u = Value.ref a := ru
  have ei := refs_at rv
  obtain ⟨o, n, ho, hcl, hd, hdat⟩ := hl
  obtain ⟨ps, r1, lp, hpt⟩ := pairsT_of I hp
  have lts : ts.length ≤ sizeLine := by
    rw [List.length_map] at hz
    exact hz
  let vps : List (Value × Value) := ps.map fun q => (Value.ref q.2.1, q.2.2)
  have lv : vps.length = ts.length := by
    show (ps.map _).length = _
    rw [List.length_map, lp]
  have hkey : ∀ x ∈ ps, H x.2.1 = some (.tup (x.1.map kV)) := by
    clear hpt lp lv vps hp q
    induction r1 with
    | nil => intro x hx; simp at hx
    | cons h t ih =>
      intro x hx
      rcases List.mem_cons.mp hx with rfl | hx
      · exact h.2.1
      · exact ih x hx
  refine call_dict_pairsH (knd := tupleKind (mixKind X.prog X.w)) (ps := ps) (PairArg.list a vs.toArray (fun j => (ts[j]?).getD 0) vps) (I.ok.hd hc) (show (X.A.in1.in1).units < cLine from ?_) ⟨⟨o, n, ho, hcl, hd, hdat⟩, ?_, fun j k v e => ?_⟩ ⟨by rw [lv, lp], fun i key v e => ?_⟩ (fun h' hk x hx => ?_) (by rw [lv]; exact lts) fun h' tk hd' hk => ?_
  · show X.A.units + 1 + 1 < cLine
    omega
  · rw [List.size_toArray, ei, List.length_map, lv]
  · obtain ⟨x, ex, e2⟩ : ∃ x, ps[j]? = some x ∧ (Value.ref x.2.1, x.2.2) = (k, v) := by
      have e' : (ps.map fun q => (Value.ref q.2.1, q.2.2))[j]? = some (k, v) := e
      rw [List.getElem?_map] at e'
      cases hx : ps[j]? with
      | none =>
        rw [hx] at e'
        cases e'
      | some x =>
        rw [hx] at e'
        exact ⟨x, rfl, Option.some.inj e'⟩
    cases e2
    obtain ⟨t, et, hT⟩ := hpt j x ex
    have eg : (ts[j]?).getD 0 = t := by
      rw [et]
      rfl
    refine ⟨?_, .inl ?_⟩
    · show vs.toArray[j]? = some (Value.ref ((ts[j]?).getD 0))
      rw [eg, ei, List.getElem?_toArray, List.getElem?_map, et]
      rfl
    · show s.heap.IsTuple ((ts[j]?).getD 0) _
      rw [eg]
      exact hT
  · have e' : (ps.map fun q => (Value.ref q.2.1, q.2.2))[i]? = some (key, v) := e
    rw [List.getElem?_map] at e'
    cases hx : ps[i]? with
    | none =>
      rw [hx] at e'
      cases e'
    | some x =>
      rw [hx] at e'
      cases (Option.some.inj e')
      exact ⟨x.1, x.2.1, rfl, rfl⟩
  · have hb := key_of I.hok (hkey x hx)
    obtain ⟨ob, items, m, h1, h2, h3, h4⟩ := hb
    exact ⟨ob, items, m, hk _ _ (Nat.ne_of_lt (Heap.lt_size h1)) (by simp) h1, h2, h3, h4⟩
  · have hm : (s.heap.objs.size == sysModules) = false := beq_eq_false_iff_ne.mpr (Nat.ne_of_gt I.big)
    obtain ⟨q', es, ep, hq, h2, h3, h4, _, h5⟩ := hd'
    have hlen : (mergeT [] (its.map fun x => (x.1, x.2.2))).length ≤ sizeLine := by
      have z := mergeT_len (its.map fun x => (x.1, x.2.2)) []
      rw [List.length_map, List.length_nil, ← Paired.length hp] at z
      omega
    have hf : H s.heap.objs.size = none := I.hok.fresh (Nat.le_refl _)
    refine ⟨.ref s.heap.objs.size, upd H s.heap.objs.size (.dT (mergeT [] (its.map fun x => (x.1, x.2.2)))), I.laid (t' := tk) (fun b o e => hk b o (by simp) e) (Nat.le_refl _) ⟨hlen, hm, storedAllH [] ps, (kt_merge r1 .nil).keeps fun b ys hb => ?_, q', es, ep, hq, h2, h3, h4, h5⟩, rfl, q _ hf⟩
    rw [upd_ne (ne_of_none hb hf)]
    exact hb
end Bw
set_option Elab.async false
set_option linter.all false
set_option maxRecDepth 100000
namespace Bw
open PySem PySem.Spec PyProof.Rows L2
/-! ### a def that may be called, by its name -/
structure Cal (P : Program) (w : World) (K : PySem.W.Frag) (mg : Str → Option Value) (base : Heap) (CX : CXT) (k : Nat) (x : Str) (ps : List Str) (sp : Sp) : Prop where
  ex : ∃ (f : Addr) (fd : FuncData), FnOk P w K mg base CX k f fd ps sp ∧ mg x = some (.ref f) ∧ PySem.W.keepIn K (.ref f) = true ∧ Binds K fd ps []
section
variable {X : Cx} {x : Str} {ps : List Str} {sp : Sp} {k : Nat} {e : Expr} {es : List Expr} {p pos : Pos} {t : TA}
theorem pe_cal (C : Cal X.prog X.w X.K X.mg X.base CX0 k x ps sp) (hr : Room k X.A) (hg : Gl X x) (ha : PA X (e :: es) t) (hdb : (x == ("__debug__" : Str)) = false := by decide) (he : starEach (e :: es) X.env = (false, eval e X.env) :: starEach es X.env := by rfl)
    (hpl : (backTo pos (starEach es X.env)).any (·.1) = false := by rfl) : PE X (.Call (.Name x p) (e :: es) [] pos) (tCall sp [] E0 t) := by
  obtain ⟨f, fd, F, hm, hk, hb⟩ := C.ex
  exact pe_call F hr hg hm hk hb .nil pass0 ha hdb he hpl
end
/-! ### the rules with the written part named: within comprehensions the reading must not hang on the block -/
section
variable {X : Cx} {K : PySem.W.Frag}
def rTupOf (K : PySem.W.Frag) : List V → Hp → VK → Prop := fun xs H Q => ∃ p ys, xs = [V.ref p] ∧ ((SqL K H p ys ∧ ∀ l, H l = none → Q (.ref l) (upd H l (.tup ys))) ∨ (SqT K H p ys ∧ Q (.ref p) H))
def rLstOf (K : PySem.W.Frag) : List V → Hp → VK → Prop := fun xs H Q => ∃ p ys, xs = [V.ref p] ∧ (SqL K H p ys ∨ SqT K H p ys) ∧ ∀ l, H l = none → Q (.ref l) (upd H l (.lst ys))
def rLenOf (K : PySem.W.Frag) : List V → Hp → VK → Prop := fun xs H Q => ∃ p ys, xs = [V.ref p] ∧ (SqL K H p ys ∨ SqT K H p ys) ∧ Q (.int ys.length) H
theorem c_tup (h : X.K = K := by rfl) : CallR X (.type "tuple") (rTupOf K) := by
  subst h
  exact call_tuple_of
theorem c_lst (h : X.K = K := by rfl) : CallR X (.type "list") (rLstOf K) := by
  subst h
  exact call_list_of
theorem c_len (h : X.K = K := by rfl) : CallR X (.builtin "len") (rLenOf K) := by
  subst h
  exact call_len_seq
theorem c_isi (h : X.K = K := by rfl) : CallR X (.builtin "isinstance") (rIsi K) := by
  subst h
  exact call_isi
theorem c_isiT (h : X.K = K := by rfl) : CallR X (.builtin "isinstance") (rIsiT K) := by
  subst h
  exact call_isiT
theorem c_all (hc : X.calm = true) (h : X.K = K := by rfl) : CallR X (.builtin "all") (rAll K) := by
  subst h
  exact cr_all hc
theorem c_any (hc : X.calm = true) (h : X.K = K := by rfl) : CallR X (.builtin "any") (rAny K) := by
  subst h
  exact cr_any hc
theorem i_list (h : X.K = K := by rfl) : IxR X (rIxL K) := by
  subst h
  exact ix_list
theorem i_tup (h : X.K = K := by rfl) : IxR X (rIxT K) := by
  subst h
  exact ix_tup
theorem l_list (h : X.K = K := by rfl) : SlR X (rSlL K) := by
  subst h
  exact sl_list
theorem l_tup (h : X.K = K := by rfl) : SlR X (rSlA K) := by
  subst h
  exact sl_tupA
theorem o_cat (h : X.K = K := by rfl) : OpR X (binaryOp .Add) (rCatA K) := by
  subst h
  exact op_catA
theorem o_in (h : X.K = K := by rfl) : OpR X (compareOp .In) (rIn K false) := by
  subst h
  exact op_in_seq
theorem o_notin (h : X.K = K := by rfl) : OpR X (compareOp .NotIn) (rIn K true) := by
  subst h
  exact op_notIn_seq
theorem p_list {tg l : Expr} {tl : TE} (hl : PE X l tl) (h : X.K = K := by rfl) : PI X tg l (iList K tl) := by
  subst h
  exact pi_list hl
theorem p_tup {tg l : Expr} {tl : TE} (hl : PE X l tl) (h : X.K = K := by rfl) : PI X tg l (iTup K tl) := by
  subst h
  exact pi_tup hl
theorem g_tup {es : List Expr} {k : Nat} {t : TGs} {n : Nat} {pos : Pos} (hc : X.calm = true) (h : PGs X es t) (hn : (assignEach es X.env).length = n := by rfl) (hst : (assignEach es X.env).findIdx? (·.1) = none := by rfl) (hK : X.K = K := by rfl) : PG X (.Tuple es k pos) (gTup K n t) := by
  subst hK
  exact pg_tup hc h hn hst
theorem pe_gint {x : Str} {pos : Pos} {i : Int} (hg : Gl X x) (hm : ∃ t, X.mg x = some (.int i t)) (hdb : (x == ("__debug__" : Str)) = false := by decide) : PE X (.Name x pos) (tC (.int i)) := by
  obtain ⟨t, hm⟩ := hm
  exact pe_glob hg hm ⟨t, rfl⟩ (hd := hdb)
end
/-! ### heaps -/
theorem same_upd {H : Hp} {p : Addr} {o : HO} (h : H p = none) : Same H (upd H p o) := fun b x e => by
  rw [upd_ne (ne_of_none e h)]
  exact e
/-- all but what stands at f is as it was -/
def SameBut (f : Addr) (H H' : Hp) : Prop := ∀ b o, b ≠ f → H b = some o → H' b = some o
theorem SameBut.refl (f : Addr) (H : Hp) : SameBut f H H := fun _ _ _ h => h
theorem SameBut.trans {f : Addr} {H H1 H2 : Hp} (a : SameBut f H H1) (b : SameBut f H1 H2) : SameBut f H H2 := fun c o n h => b c o n (a c o n h)
theorem SameBut.upd {f : Addr} {H H1 : Hp} {o : HO} (a : SameBut f H H1) : SameBut f H (upd H1 f o) := fun c o n h => by
  rw [upd_ne n]
  exact a c o n h
theorem SameBut.new {f p : Addr} {H H1 : Hp} {o : HO} (a : SameBut f H H1) (h : H1 p = none) : SameBut f H (L2.upd H1 p o) := fun c o n q => by
  have z := a c o n q
  rw [upd_ne (ne_of_none z h)]
  exact z
theorem _root_.L2.Same.but {f : Addr} {H H1 : Hp} (a : Same H H1) : SameBut f H H1 := fun c o _ h => a c o h
theorem SameBut.same {f : Addr} {H0 H H1 : Hp} (a : SameBut f H H1) (h : H0 f = none) (s : Same H0 H) : Same H0 H1 := fun c o q => a c o (ne_of_none q h) (s c o q)
/-! ### what the law draws from -/
def FeedAt (H : Hp) (f l : Addr) : Prop := ∃ (ns : List Int) (i : Nat) (n m c : Int), l ≠ f ∧ H f = some (.lst [.ref l, .int i, .int n, .int m, .int c]) ∧ H l = some (.lst (ns.map V.int)) ∧ i ≤ ns.length ∧ 0 ≤ n ∧ 0 ≤ m ∧ m < 2147483647
theorem FeedAt.same {H H' : Hp} {f l : Addr} (s : Same H H') (h : FeedAt H f l) : FeedAt H' f l := by
  obtain ⟨ns, i, n, m, c, a, b, d, r⟩ := h
  exact ⟨ns, i, n, m, c, a, s _ _ b, s _ _ d, r⟩
theorem FeedAt.put {H : Hp} {f l b : Addr} {o : HO} (h : FeedAt H f l) (n1 : b ≠ f) (n2 : b ≠ l) : FeedAt (upd H b o) f l := by
  obtain ⟨ns, i, n, m, c, a, b', d, r⟩ := h
  exact ⟨ns, i, n, m, c, a, by rw [upd_ne (Ne.symm n1)]; exact b', by rw [upd_ne (Ne.symm n2)]; exact d, r⟩
theorem FeedAt.ne {H : Hp} {f l p : Addr} (h : FeedAt H f l) (n : H p = none) : p ≠ f := by
  obtain ⟨_, _, _, _, _, _, b, _⟩ := h
  exact Ne.symm (ne_of_none b n)
theorem FeedAt.ne2 {H : Hp} {f l p : Addr} (h : FeedAt H f l) (n : H p = none) : p ≠ l := by
  obtain ⟨_, _, _, _, _, _, _, d, _⟩ := h
  exact Ne.symm (ne_of_none d n)
theorem FeedAt.tup {H : Hp} {f l p : Addr} {xs : List V} (h : FeedAt H f l) (n : H p = some (.tup xs)) : p ≠ f := by
  obtain ⟨_, _, _, _, _, _, b, _⟩ := h
  exact ne_of n b (by intro z; cases z)
theorem SameBut.updN {f b : Addr} {H H1 : Hp} {o : HO} (a : SameBut f H H1) (h : H b = none) : SameBut f H (L2.upd H1 b o) := fun c o n q => by
  rw [upd_ne (ne_of_none q h)]
  exact a c o n q
theorem int_at {ns : List Int} {i : Nat} {y : V} (h : (ns.map V.int)[i]? = some y) : ∃ u, ns[i]? = some u ∧ y = .int u := by
  rw [List.getElem?_map] at h
  cases e : ns[i]? with
  | none =>
    rw [e] at h
    cases h
  | some u =>
    rw [e] at h
    exact ⟨u, rfl, (Option.some.inj h).symm⟩
end Bw
set_option Elab.async false
set_option linter.all false
set_option maxRecDepth 100000
set_option maxHeartbeats 4000000
namespace Bw
open PySem PySem.Spec PyProof.Rows L2
theorem tuple_mul1 (l : Addr) (items : Array Value) (n : Nat) (dd : Option Addr) (sl : Array (Option Value)) (u : Tok) :
    Meets (Builtin.«tuple.__mul__» ⟨[.ref l, .int 1 u], []⟩) (fun _ R s => s.heap.get? l = some { cls := .type "tuple", dict := dd, data := .seq items n, slots := sl } ∧ R (.ok (.ret (Value.ref l))) s) :=
  .of_wp fun prog w A R s h => by
    obtain ⟨hp, g, d, tk, os⟩ := s
    obtain ⟨hl, h⟩ := h
    have f1 := AutoSeq1.idx_int
    have c1 : (items.isEmpty || (1 : Int) == 1) = true := by simp
    wp_walk using wpAny_loadPart' hl
    repeat (first
      | (refine wpAny_ite_true (decide_eq_true c1) ?_; wp_walk using wpAny_loadPart' hl)
      | (refine wpAny_ite_false (by decide) ?_; wp_walk using wpAny_loadPart' hl))
    exact ⟨_, rfl, h⟩
/-- t * k, k from 1 on -/
def rRep1 (K : PySem.W.Frag) : R2 := fun x y H Q => ∃ l k xs, x = .ref l ∧ y = .int k ∧ SqT K H l xs ∧ xs ≠ [] ∧ 1 ≤ k ∧ k ≤ 1000 ∧ xs.length ≤ 1000 ∧ (k = 1 → Q (.ref l) H) ∧ (2 ≤ k → ∀ p, H p = none → Q (.ref p) (upd H p (.tup (List.replicate k.toNat xs).flatten)))
theorem o_rep {X : Cx} {K : PySem.W.Frag} (hK : X.K = K := by rfl) : OpR X (binaryOp .Mult) (rRep1 K) := by
  subst hK
  intro pins s σ H x y v u Q I rx ry h
  obtain ⟨l, k, xs, rfl, rfl, hT, hne, h1, h2, hz, q1, q2⟩ := h
  by_cases hk : k = 1
  · subst hk
    cases rx
    obtain ⟨t, rfl⟩ := ry
    obtain ⟨its, r, ⟨⟨cls, dd, data, sl⟩, ho, hc, n, hd⟩, hs⟩ := I.tuple hT
    simp only at hc hd
    subst hc hd
    refine wpAny_binaryOp_repeat_ref (T := "tuple") (U := "int") (by decide) ⟨_, ho, rfl⟩ (fun s' => typeIs_int s' 1 t) noFill_tuple_mul F.fills_int_mul F.slot_int_rmul repeat_tuple F.slot_int_index.lookup
      (call_meets F.slot_int_rmul (typeIs_int s 1 t) F.entry_int_rmul (F.args_int_rmul_2 _ _) (int_rmul_tuple 1 t l its.toArray n dd sl)
        ⟨ho, rfl, ⟨_, ho, rfl⟩, call_meets F.slot_tuple_mul ⟨_, ho, rfl⟩ F.entry_tuple_mul (F.args_tuple_mul_2 _ _) (tuple_mul1 l its.toArray n dd sl t) ⟨ho, ?_⟩⟩)
    exact ⟨.ref l, H, I, rfl, q1 rfl⟩
  · exact op_repT pins s σ H _ _ v u Q I rx ry ⟨l, k, xs, rfl, rfl, hT, hne, by omega, h2, hz, q2 (by omega)⟩
end Bw
set_option Elab.async false
set_option linter.all false
set_option maxRecDepth 100000
set_option maxHeartbeats 4000000
namespace Bw
open PySem PySem.Spec PyProof.Rows L2
/-! ### t * k, k from 0 on -/
theorem tuple_mul0 (l : Addr) (items : Array Value) (n : Nat) (dd : Option Addr) (sl : Array (Option Value)) (u : Tok) (hne : items.isEmpty = false) :
    Meets (Builtin.«tuple.__mul__» ⟨[.ref l, .int 0 u], []⟩) (fun _ R s => s.heap.get? l = some { cls := .type "tuple", dict := dd, data := .seq items n, slots := sl } ∧ R (.ok (.ret (Value.ref s.heap.objs.size))) { s with heap := s.heap.push { cls := Value.type "tuple", data := Data.seq #[] }, toks := s.toks }) :=
  .of_wp fun prog w A R s h => by
    obtain ⟨hp, g, d, tk, os⟩ := s
    obtain ⟨hl, h⟩ := h
    have f1 := AutoSeq1.idx_int
    have c1 : (items.isEmpty || (0 : Int) == 1) = false := by rw [hne]; rfl
    have c2 : (decide ((0 : Int) ≤ 0) || items.isEmpty) = true := by simp
    wp_walk using wpAny_loadPart' hl
    repeat (first
      | (refine wpAny_ite_true (decide_eq_true c2) ?_; wp_walk using wpAny_loadPart' hl)
      | (refine wpAny_ite_false (by decide) ?_; wp_walk using wpAny_loadPart' hl)
      | (refine wpAny_ite_false (decide_eq_false (by rw [c1]; exact Bool.false_ne_true)) ?_; wp_walk using wpAny_loadPart' hl))
    exact ⟨_, rfl, h⟩
def rRepZ (K : PySem.W.Frag) : R2 := fun x y H Q => ∃ l k xs, x = .ref l ∧ y = .int k ∧ SqT K H l xs ∧ xs ≠ [] ∧ 0 ≤ k ∧ k ≤ 1000 ∧ xs.length ≤ 1000 ∧ (k = 0 → ∀ p, H p = none → Q (.ref p) (upd H p (.tup []))) ∧ (k = 1 → Q (.ref l) H) ∧ (2 ≤ k → ∀ p, H p = none → Q (.ref p) (upd H p (.tup (List.replicate k.toNat xs).flatten)))
theorem o_repZ {X : Cx} {K : PySem.W.Frag} (hK : X.K = K := by rfl) : OpR X (binaryOp .Mult) (rRepZ K) := by
  subst hK
  intro pins s σ H x y v u Q I rx ry h
  obtain ⟨l, k, xs, rfl, rfl, hT, hne, h1, h2, hz, q0, q1, q2⟩ := h
  by_cases hk : k = 0
  · subst hk
    cases rx
    obtain ⟨t, rfl⟩ := ry
    obtain ⟨its, r, ⟨⟨cls, dd, data, sl⟩, ho, hc, n, hd⟩, hs⟩ := I.tuple hT
    simp only at hc hd
    subst hc hd
    have hi : its.toArray.isEmpty = false := by
      cases its with
      | nil =>
        cases r
        exact absurd rfl hne
      | cons a b => rfl
    refine wpAny_binaryOp_repeat_ref (T := "tuple") (U := "int") (by decide) ⟨_, ho, rfl⟩ (fun s' => typeIs_int s' 0 t) noFill_tuple_mul F.fills_int_mul F.slot_int_rmul repeat_tuple F.slot_int_index.lookup
      (call_meets F.slot_int_rmul (typeIs_int s 0 t) F.entry_int_rmul (F.args_int_rmul_2 _ _) (int_rmul_tuple 0 t l its.toArray n dd sl)
        ⟨ho, rfl, ⟨_, ho, rfl⟩, call_meets F.slot_tuple_mul ⟨_, ho, rfl⟩ F.entry_tuple_mul (F.args_tuple_mul_2 _ _) (tuple_mul0 l its.toArray n dd sl t hi) ⟨ho, ?_⟩⟩)
    exact ⟨.ref s.heap.objs.size, _, I.laid (t' := s.toks) (o := .tup []) (fun b ob z => Heap.get?_push_of_some _ z) (Nat.le_refl _) ⟨Nat.zero_le _, [], .nil, IsTup.new _ _⟩, rfl, q0 rfl _ (I.hok.fresh (Nat.le_refl _))⟩
  · exact o_rep (X := X) rfl pins s σ H _ _ v u Q I rx ry ⟨l, k, xs, rfl, rfl, hT, hne, by omega, h2, hz, q1, q2⟩
/-! ### len(x), x == y, x != y of own instances -/
section
variable {X : Cx} {CX : CXT} {C f : Addr} {fd : FuncData} {ps : List Str} {sp : Sp} {n : Nat} {E : XK}
def rLenOwn (C : Addr) (sp : Sp) (E : XK) : List V → Hp → VK → Prop := fun xs H Q => ∃ a dx fs, xs = [V.ref a] ∧ H a = some (.ins C dx fs) ∧ sp [.ref a] H (fun z H' => ∃ i : Int, z = .int i ∧ 0 ≤ i ∧ i < 2 ^ 63 ∧ Q (.int i) H') E
theorem c_lenOwn (hs : PySem.W.findIn X.K (.ref C) "__len__" = some (some (.ref f))) (hf : PySem.W.isFn X.K (.ref f) = true) (F : FnOk X.prog X.w X.K X.mg X.base CX n f fd ps sp) (hr : Room (n + 1) X.A) (hb : Binds X.K fd ps []) (hx : Passes CX X E) : CallR X (.builtin "len") (rLenOwn C sp E) := by
  intro pins s σ H xs us Q I r h
  obtain ⟨a, dx, fs, rfl, ha, q⟩ := h
  obtain ⟨u, rfl, ru⟩ := vals1 r
  obtain rfl : u = Value.ref a := ru
  obtain ⟨mA, J, _⟩ := ins_get I.hok ha
  obtain ⟨od, J, _⟩ := J.look
  obtain ⟨m, hF⟩ := I.fr
  refine PySem.W.len_K hF I.ok.mod.kin J hs hf ?_
  have hl := F.len _ _ _ _ q
  refine wpAny_call (codeAny_mono (F.run X.A.in1 X.stack s H ⟨[.ref a], []⟩ [.ref a] [.ref a] _ E hr.in1 I.env0.in1 (by
    have z := hb s [.ref a] I.kIn (by simpa using hl)
    simpa using z) (.cons rfl .nil) q) fun r s' hq => ?_)
  cases r with
  | error e => exact hx pins σ H s e s' I hq
  | ok fl =>
    cases fl with
    | ret w =>
      obtain ⟨z, H', I', rz, i, ei, i0, i1, qz⟩ := I.after hq
      subst ei
      obtain ⟨t, rfl⟩ := (show ∃ t, w = Value.int i t from rz)
      exact ⟨⟨i0, i1⟩, .int i, H', I'.tok _, ⟨_, rfl⟩, qz⟩
    | next => exact False.elim hq
    | brk => exact False.elim hq
    | cont => exact False.elim hq
def rEqOwn (C : Addr) (sp : Sp) (E : XK) (neg : Bool) : R2 := fun x y H Q => ∃ a dx fs b dy gs, x = .ref a ∧ y = .ref b ∧ H a = some (.ins C dx fs) ∧ H b = some (.ins C dy gs) ∧ sp [.ref a, .ref b] H (fun z H' => ∃ c : Bool, z = .bl c ∧ Q (.bl (if neg then !c else c)) H') E
theorem own_run (F : FnOk X.prog X.w X.K X.mg X.base CX n f fd ps sp) {A : Around} (hr : Room n A) (hfr : A.frames = X.A.frames) (hb : Binds X.K fd ps []) (hx : Passes CX X E) {pins : List (Addr × Obj)} {s : Shared} {σ : L2.St} {H : Hp} {a b : Addr} {Q : Bool → Hp → Prop} (I : L2.Inv X pins σ H s)
    (q : sp [.ref a, .ref b] H (fun z H' => ∃ c : Bool, z = .bl c ∧ Q c H') E) : wpAny (model X.prog X.w) A (call (.ref f) [.ref a, .ref b]) (fun v s' => ∃ (c : Bool) (H' : Hp), v = .bool c ∧ L2.Inv X pins σ H' s' ∧ Q c H') X.xe s := by
  have hl := F.len _ _ _ _ q
  have e0 : Env0 X.prog X.w X.K X.mg X.base A X.stack s H := by
    have e := I.env0
    exact ⟨by rw [hfr]; exact e.frames, e.mod, e.bs, e.bsz, e.funs, e.frf, e.hok, e.bare⟩
  refine wpAny_call (codeAny_mono (F.run A X.stack s H ⟨[.ref a, .ref b], []⟩ [.ref a, .ref b] [.ref a, .ref b] _ E hr e0 (by
    have z := hb s [.ref a, .ref b] I.kIn (by simpa using hl)
    simpa using z) (.cons rfl (.cons rfl .nil)) q) fun r s' hq => ?_)
  cases r with
  | error e => exact hx pins σ H s e s' I hq
  | ok fl =>
    cases fl with
    | ret w =>
      obtain ⟨z, H', I', rz, c, ec, qc⟩ := I.after hq
      subst ec
      obtain rfl : w = Value.bool c := rz
      exact ⟨c, H', rfl, I', qc⟩
    | next => exact False.elim hq
    | brk => exact False.elim hq
    | cont => exact False.elim hq
theorem o_eqOwn (hs : PySem.W.findIn X.K (.ref C) "__eq__" = some (some (.ref f))) (hf : PySem.W.isFn X.K (.ref f) = true) (F : FnOk X.prog X.w X.K X.mg X.base CX n f fd ps sp) (hr : Room n X.A) (hb : Binds X.K fd ps []) (hx : Passes CX X E) : OpR X (compareOp .Eq) (rEqOwn C sp E false) := by
  intro pins s σ H x y v u Q I rx ry h
  obtain ⟨a, dx, fs, b, dy, gs, rfl, rfl, ha, hb', q⟩ := h
  cases rx
  cases ry
  obtain ⟨mA, J, _⟩ := ins_get I.hok ha
  obtain ⟨mB, J', _⟩ := ins_get I.hok hb'
  obtain ⟨od, J, _⟩ := J.look
  obtain ⟨od', J', _⟩ := J'.look
  obtain ⟨m, hF⟩ := I.fr
  show wpAny _ _ (richCompare .Eq (.ref a) (.ref b)) _ _ _
  refine PySem.W.cmp_K (op := .Eq) (tb := .ref C) hr.units0 hF I.ok.mod.kin J J'.type (by simp [PySem.W.notFirst]) hs hf ?_
  refine wpAny_mono (own_run F hr rfl hb hx I q) (fun v s' z => ?_) fun _ _ z => z
  obtain ⟨c, H', rfl, I', qc⟩ := z
  exact ⟨.bl c, H', I', rfl, qc⟩
end
end Bw
set_option Elab.async false
set_option linter.all false
set_option maxRecDepth 100000
set_option maxHeartbeats 4000000
namespace Bw
open PySem PySem.Spec PyProof.Rows L2
section
variable {prog : Program} {w : World} {A : Around} {E : Value → Shared → Prop} {s : Shared} {K : PySem.W.Frag} {x C f : Addr} {ox : Obj} {od : Option Obj} {b : Value}
theorem ifBound_ne {Q : Option Value → Shared → Prop} (X : K.In s.heap) (I : PySem.W.InstAt s.heap x ox C od) (hs : PySem.W.findIn K (.ref C) "__ne__" = some (some (.builtin "object.__ne__")))
    (h : wpAny (model prog w) A (call (.builtin "object.__ne__") [.ref x, b]) (fun v => Q (some v)) E s) : wpAny (model prog w) A (callSpecialIfBound? (.ref x) "__ne__" [b]) Q E s := by
  have S := F.cmp_object.ne
  simp only [callSpecialIfBound?, bindSpecialIfBound?]
  refine wpAny_holding (wpAny_bind (wpAny_bind (wpAny_bind (I.type.here ((PySem.W.looks_findIn X hs).here ?_)))))
  simp only [S.bind]
  refine wpAny_bind (wpAny_askSetting (wpAny_ite ?_))
  have fin : wpAny (model prog w) A (call (.builtin "object.__ne__") ([.ref x] ++ [b]) >>= fun v => pure (some v)) Q E s := wpAny_bind (wpAny_mono h (fun _ _ z => wpAny_pure z) fun _ _ z => z)
  split
  · exact wpAny_bind (wpAny_pure (wpAny_pure fin))
  · exact wpAny_tryCatch (wpAny_bind (wpAny_pure (wpAny_pure fin)))
theorem call_ne {Q : Value → Shared → Prop} (hu : A.units + 1 < cLine) (X : K.In s.heap) (I : PySem.W.InstAt s.heap x ox C od) (hob : PySem.W.mroIn K C (.type "object") = some true) (hs : PySem.W.findIn K (.ref C) "__eq__" = some (some (.ref f))) (hf : PySem.W.isFn K (.ref f) = true)
    (h : wpAny (model prog w) A.in1 (call (.ref f) [.ref x, b]) (fun v s' => ∃ c, v = .bool c ∧ Q (.bool !c) s') E s) : wpAny (model prog w) A (call (.builtin "object.__ne__") [.ref x, b]) Q E s := by
  have sub : PySem.W.Looks (model prog w) s.heap (isInstance (.ref x) (.type "object")) true := I.type.andThen (PySem.W.looks_mroIn X hob)
  refine wpAny_call (codeAny_call_builtin F.cmp_object.ne.plain F.cmpEntry_ne (PySem.W.check_slot F.cmpKind_ne F.cmpSplit_ne sub (F.cmpArgs_ne _ _) ?_))
  unfold Builtin.«object.__ne__»
  have one : wpAny (model prog w) A.in1 (callSpecialIfBound? (.ref x) "__eq__" [b]) (fun r s' => ∃ c, r = some (.bool c) ∧ Q (.bool !c) s') E s := PySem.W.ifBound_K X I hs hf (wpAny_mono h (fun v s' z => by
    obtain ⟨c, rfl, q⟩ := z
    exact ⟨c, rfl, q⟩) fun _ _ z => z)
  repeat (first | with_reducible refine wpAny_cRoomFor hu ?_ | (with_reducible refine wpAny_mono one (fun r s' z => ?_) (fun _ _ e => e); obtain ⟨c, rfl, q⟩ := z) | wp_step)
  exact q
theorem rich_ne {Q : Value → Shared → Prop} (hu : A.units + 1 < cLine) (X : K.In s.heap) (I : PySem.W.InstAt s.heap x ox C od) (hb : PySem.W.Looks (model prog w) s.heap (typeOf b) (.ref C)) (hob : PySem.W.mroIn K C (.type "object") = some true)
    (hn : PySem.W.findIn K (.ref C) "__ne__" = some (some (.builtin "object.__ne__"))) (hs : PySem.W.findIn K (.ref C) "__eq__" = some (some (.ref f))) (hf : PySem.W.isFn K (.ref f) = true)
    (h : wpAny (model prog w) A.in1 (call (.ref f) [.ref x, b]) (fun v s' => ∃ c, v = .bool c ∧ Q (.bool !c) s') E s) : wpAny (model prog w) A (richCompare .NotEq (.ref x) b) Q E s := by
  have one : wpAny (model prog w) A (tryCompare (.ref x) (cmpInfo .NotEq).2.1 b) (fun r s' => ∃ c : Bool, r = some (.bool !c) ∧ Q (.bool !c) s') E s := by
    unfold tryCompare
    have two : wpAny (model prog w) A (call (.builtin "object.__ne__") [.ref x, b]) (fun v s' => ∃ c : Bool, v = .bool !c ∧ Q (.bool !c) s') E s := by
      refine call_ne hu X I hob hs hf (wpAny_mono h (fun v s' z => ?_) fun _ _ z => z)
      obtain ⟨c, e, q⟩ := z
      exact ⟨c, e, c, rfl, q⟩
    refine wpAny_bind (ifBound_ne X I hn (wpAny_mono two (fun v s' y => ?_) fun _ _ y => y))
    obtain ⟨c, rfl, q⟩ := y
    exact wpAny_pure ⟨c, rfl, q⟩
  unfold richCompare
  simp only [oneThing_ref]
  refine wpAny_holding (wpAny_bind (wpAny_cRoomFor (by omega) ?_))
  refine wpAny_bind (I.type.here (wpAny_bind (hb.here ?_)))
  split
  · rename_i q
    simp at q
  · refine wpAny_bind (wpAny_pure ?_)
    simp only [Bool.false_eq_true, if_false]
    refine wpAny_bind (wpAny_mono one (fun r s' z => ?_) fun _ _ e => e)
    obtain ⟨c, rfl, hq⟩ := z
    exact wpAny_pure hq
end
section
variable {X : Cx} {CX : CXT} {C f : Addr} {fd : FuncData} {ps : List Str} {sp : Sp} {n : Nat} {E : XK}
theorem o_neOwn (hob : PySem.W.mroIn X.K C (.type "object") = some true) (hn : PySem.W.findIn X.K (.ref C) "__ne__" = some (some (.builtin "object.__ne__"))) (hs : PySem.W.findIn X.K (.ref C) "__eq__" = some (some (.ref f))) (hf : PySem.W.isFn X.K (.ref f) = true)
    (F : FnOk X.prog X.w X.K X.mg X.base CX n f fd ps sp) (hr : Room (n + 1) X.A) (hb : Binds X.K fd ps []) (hx : Passes CX X E) : OpR X (compareOp .NotEq) (rEqOwn C sp E true) := by
  intro pins s σ H x y v u Q I rx ry h
  obtain ⟨a, dx, fs, b, dy, gs, rfl, rfl, ha, hb', q⟩ := h
  cases rx
  cases ry
  obtain ⟨mA, J, _⟩ := ins_get I.hok ha
  obtain ⟨mB, J', _⟩ := ins_get I.hok hb'
  obtain ⟨od, J, _⟩ := J.look
  obtain ⟨od', J', _⟩ := J'.look
  show wpAny _ _ (richCompare .NotEq (.ref a) (.ref b)) _ _ _
  have hu : X.A.units + 1 < cLine := by
    have z := hr.un
    omega
  refine rich_ne hu I.kIn J J'.type hob hn hs hf (wpAny_mono (own_run F hr.in1 rfl hb hx I q) (fun v s' z => ?_) fun _ _ z => z)
  obtain ⟨c, H', rfl, I', qc⟩ := z
  exact ⟨c, rfl, .bl !c, H', I', rfl, qc⟩
end
end Bw
set_option Elab.async false
set_option linter.all false
set_option maxRecDepth 100000
set_option maxHeartbeats 4000000
namespace Bw
open PySem PySem.Spec PyProof.Rows L2
/-! ### zip of a list and a tuple, either way about: by what is asked of one side -/
structure Src (P : Program) (w : World) (i l : Addr) (St : Nat → Heap → Prop) (Sq : Array Value → Heap → Prop) : Prop where
  obj : ∀ k h, St k h → ∃ o, h.get? i = some o ∧ ∀ v, o.data ≠ .cell v
  keep : ∀ k h h', St k h → (∀ o, h.get? i = some o → h'.get? i = some o) → St k h'
  keepS : ∀ xs h h', Sq xs h → (∀ o, h.get? l = some o → h'.get? l = some o) → Sq xs h'
  item : ∀ (A : Around) (E : Value → Shared → Prop) (s : Shared) (k : Nat) (xs : Array Value) (x : Value) (Q : Value → Shared → Prop), St k s.heap → Sq xs s.heap → xs[k]? = some x →
    (∀ h', St (k + 1) h' → Heap.SameBut i s.heap h' → Q x { s with heap := h' }) → wpAny (model P w) A (Builtin.SmallTypes.nextOf (.ref i)) Q E s
  fin : ∀ (A : Around) (E : Value → Shared → Prop) (s : Shared) (k : Nat) (xs : Array Value) (Q : Value → Shared → Prop), A.handled = none → St k s.heap → Sq xs s.heap → xs[k]? = none →
    (∀ h' e, Heap.ExtBut i s.heap h' → (∃ o, h'.get? e = some o ∧ o.cls = .type "StopIteration") → E (.ref e) { s with heap := h' }) → wpAny (model P w) A (Builtin.SmallTypes.nextOf (.ref i)) Q E s
theorem src_list {P : Program} {w : World} {i l : Addr} : Src P w i l (fun k h => h.IsListIter i l k) (fun xs h => h.IsList l xs) where
  obj := fun k h st => by
    obtain ⟨o, e, _, d⟩ := st
    exact ⟨o, e, fun v q => by rw [d] at q; cases q⟩
  keep := fun k h h' st kp => st.at kp
  keepS := fun xs h h' st kp => st.at kp
  item := fun A E s k xs x Q st sq hx q => wpAny_nextOf_list_item st sq hx q
  fin := fun A E s k xs Q hh st sq hx q => wpAny_nextOf_list_end hh st sq hx q
theorem src_tup {P : Program} {w : World} {i l : Addr} : Src P w i l (fun k h => h.IsTupleIter i l k) (fun xs h => h.IsTuple l xs) where
  obj := fun k h st => by
    obtain ⟨o, e, _, d⟩ := st
    exact ⟨o, e, fun v q => by rw [d] at q; cases q⟩
  keep := fun k h h' st kp => st.at kp
  keepS := fun xs h h' st kp => by
    obtain ⟨o, e, z⟩ := st
    exact ⟨o, kp o e, z⟩
  item := fun A E s k xs x Q st sq hx q => RZ.nextOf_tuple_item st sq hx q
  fin := fun A E s k xs Q hh st sq hx q => RZ.nextOf_tuple_end hh st sq hx q
section
variable {P : Program} {w : World} {A : Around} {E : Value → Shared → Prop} {s : Shared} {z TI TO i1 i2 l1 l2 : Addr} {U1 U2 : Nat → Heap → Prop} {Z1 Z2 : Array Value → Heap → Prop}
theorem zipG_item {k : Nat} {xs ys : Array Value} {x y a b : Value} {Q : Value → Shared → Prop} (S1 : Src P w i1 l1 U1 Z1) (S2 : Src P w i2 l2 U2 Z2) (D : ZipApart z TI TO i1 i2 l1 l2)
    (hz : IsZip s.heap z TI TO .none) (hTI : IsPair s.heap TI (.ref i1) (.ref i2)) (hTO : IsPair s.heap TO a b) (h1 : U1 k s.heap) (h2 : U2 k s.heap) (hl1 : Z1 xs s.heap) (hl2 : Z2 ys s.heap) (hx : xs[k]? = some x) (hy : ys[k]? = some y)
    (hQ : ∀ h', IsZip h' z TI TO (rawInt s.heap.objs.size) → IsPair h' TO x y → U1 (k + 1) h' → U2 (k + 1) h' → IsPair h' s.heap.objs.size x y →
      (∀ c o, c ≠ z → c ≠ TO → c ≠ i1 → c ≠ i2 → s.heap.get? c = some o → h'.get? c = some o) → Q (.ref s.heap.objs.size) { s with heap := h' }) :
    wpAny (model P w) A (Builtin.«zip.__next__» ⟨[.ref z], []⟩) (fun fin s' => ∃ v, fin = .done (.ret v) ∧ Q v s') E s := by
  show wpAny _ _ (field (Value.ref z) 2 >>= _) _ _ _
  refine wpAny_bind (wpAny_field hz (rfl) (x := .bool false) rfl ?_); show wpAny _ _ (field (Value.ref z) 3 >>= _) _ _ _
  refine wpAny_bind (wpAny_field hz (rfl) (x := .ref TI) rfl ?_); refine wpAny_bind (wpAny_seqItems hTI (rfl) ?_)
  show wpAny _ _ (Builtin.SmallTypes.ownedTupleIsFree (Value.ref z) >>= _) _ _ _
  refine wpAny_bind ?_; unfold Builtin.SmallTypes.ownedTupleIsFree
  refine wpAny_bind (wpAny_field hz (rfl) (x := .none) rfl (wpAny_pure ?_)); simp only [if_true]
  refine wpAny_bind (wpAny_rule ?_); refine wpAny_bind (wpAny_field hz (rfl) (x := .ref TO) rfl ?_)
  refine wpAny_bind (wpAny_setField_rec hz (by simp) fun g1 z1 b1 => ?_); replace z1 : IsZip g1 z TI TO .ellipsis := z1
  refine wpAny_bind ?_; simp only [List.zipIdx_cons, List.zipIdx_nil, List.forIn_cons, List.forIn_nil]
  refine wpAny_bind (wpAny_bind (wpAny_onRaise ?_)); show wpAny _ _ (Builtin.SmallTypes.nextOf (Value.ref i1) >>= _) _ _ _
  refine wpAny_bind (S1.item _ _ _ k xs x _ (S1.keep _ _ _ h1 fun o e => b1.extBut _ _ D.i1z e) (S1.keepS _ _ _ hl1 fun o e => b1.extBut _ _ D.l1z e) hx fun g2 u1 b2 => wpAny_pure ?_)
  have p2 : IsPair g2 TO a b := b2.extBut _ _ D.TOi1 (b1.extBut _ _ D.TOz hTO)
  refine wpAny_bind (wpAny_seqItems p2 (rfl) ?_); refine wpAny_bind (wpAny_updateSeq_pair p2 fun g3 p3 b3 => ?_); replace p3 : IsPair g3 TO x b := p3
  refine wpAny_bind (wpAny_letGo (wpAny_pure ?_)); refine wpAny_bind (wpAny_bind (wpAny_onRaise ?_)); show wpAny _ _ (Builtin.SmallTypes.nextOf (Value.ref i2) >>= _) _ _ _
  refine wpAny_bind (S2.item _ _ _ k ys y _ (S2.keep _ _ _ h2 fun o e => b3.extBut _ _ D.TOi2.symm (b2.extBut _ _ D.i12.symm (b1.extBut _ _ D.i2z e)))
    (S2.keepS _ _ _ hl2 fun o e => b3.extBut _ _ D.l2TO (b2.extBut _ _ D.l2i1 (b1.extBut _ _ D.l2z e))) hy fun g4 u2 b4 => wpAny_pure ?_)
  have p4 : IsPair g4 TO x b := b4.extBut _ _ D.TOi2 p3
  refine wpAny_bind (wpAny_seqItems p4 (rfl) ?_); refine wpAny_bind (wpAny_updateSeq_pair p4 fun g5 p5 b5 => ?_); replace p5 : IsPair g5 TO x y := p5
  refine wpAny_bind (wpAny_letGo (wpAny_pure (wpAny_pure ?_))); refine wpAny_bind (wpAny_seqItems p5 (rfl) ?_); refine wpAny_bind (wpAny_newTuple ?_)
  have sz : g5.objs.size = s.heap.objs.size := by rw [b5.1, b4.1, b3.1, b2.1, b1.1]
  have z5 : IsZip g5 z TI TO .ellipsis := b5.extBut _ _ D.TOz.symm (b4.extBut _ _ D.i2z.symm (b3.extBut _ _ D.TOz.symm (b2.extBut _ _ D.i1z.symm z1)))
  have k5 : ∀ c o, c ≠ z → c ≠ TO → c ≠ i1 → c ≠ i2 → s.heap.get? c = some o → g5.get? c = some o := fun c o c1 c2 c3 c4 e => b5.extBut _ _ c2 (b4.extBut _ _ c4 (b3.extBut _ _ c2 (b2.extBut _ _ c3 (b1.extBut _ _ c1 e))))
  have v1 : U1 (k + 1) g5 := S1.keep _ _ _ u1 fun o e => b5.extBut _ _ D.TOi1.symm (b4.extBut _ _ D.i12 (b3.extBut _ _ D.TOi1.symm e))
  have v2 : U2 (k + 1) g5 := S2.keep _ _ _ u2 fun o e => b5.extBut _ _ D.TOi2.symm e
  have zl : z < g5.objs.size := Heap.lt_size z5
  show wpAny _ _ (Builtin.SmallTypes.ownedTupleHandOut (Value.ref z) (.ref g5.objs.size) >>= _) _ _ _
  refine wpAny_bind ?_; unfold Builtin.SmallTypes.ownedTupleHandOut
  have z6 : IsZip (g5.push { cls := .type "tuple", data := .seq #[x, y] }) z TI TO .ellipsis := Heap.get?_push_of_some _ z5
  refine wpAny_bind (wpAny_setField_rec z6 (by simp) fun g7 z7 b7 => ?_); replace z7 : IsZip g7 z TI TO (rawInt g5.objs.size) := z7
  refine wpAny_setField_rec z7 (by simp) fun g8 z8 b8 => ?_; replace z8 : IsZip g8 z TI TO (rawInt g5.objs.size) := z8
  have up : ∀ c o, c ≠ z → g5.get? c = some o → g8.get? c = some o := fun c o c1 e => b8.extBut _ _ c1 (b7.extBut _ _ c1 (Heap.get?_push_of_some _ e))
  have p8 : IsPair g8 g5.objs.size x y := b8.extBut _ _ (Nat.ne_of_gt zl) (b7.extBut _ _ (Nat.ne_of_gt zl) (Heap.get?_push_size _ rfl))
  rw [sz] at z8 p8
  refine wpAny_pure ⟨_, rfl, ?_⟩; show Q (.ref g5.objs.size) _; rw [sz]
  exact hQ g8 z8 (up _ _ D.TOz p5) (S1.keep _ _ _ v1 fun o e => up _ o D.i1z e) (S2.keep _ _ _ v2 fun o e => up _ o D.i2z e) p8 fun c o c1 c2 c3 c4 e => up c o c1 (k5 c o c1 c2 c3 c4 e)
theorem zipG_end {k : Nat} {xs ys : Array Value} {a b : Value} {Q : PySem.Fin → Shared → Prop} (S1 : Src P w i1 l1 U1 Z1) (S2 : Src P w i2 l2 U2 Z2) (hh : A.handled = none) (D : ZipApart z TI TO i1 i2 l1 l2)
    (hz : IsZip s.heap z TI TO .none) (hTI : IsPair s.heap TI (.ref i1) (.ref i2)) (hTO : IsPair s.heap TO a b) (h1 : U1 k s.heap) (h2 : U2 k s.heap) (hl1 : Z1 xs s.heap) (hl2 : Z2 ys s.heap) (hend : xs[k]? = none ∨ ys[k]? = none)
    (hE : ∀ h' e, (∀ c o, c ≠ z → c ≠ TO → c ≠ i1 → c ≠ i2 → s.heap.get? c = some o → h'.get? c = some o) → (∃ o, h'.get? e = some o ∧ o.cls = .type "StopIteration") → E (.ref e) { s with heap := h' }) :
    wpAny (model P w) A (Builtin.«zip.__next__» ⟨[.ref z], []⟩) Q E s := by
  show wpAny _ _ (field (Value.ref z) 2 >>= _) _ _ _
  refine wpAny_bind (wpAny_field hz (rfl) (x := .bool false) rfl ?_); show wpAny _ _ (field (Value.ref z) 3 >>= _) _ _ _
  refine wpAny_bind (wpAny_field hz (rfl) (x := .ref TI) rfl ?_); refine wpAny_bind (wpAny_seqItems hTI (rfl) ?_)
  show wpAny _ _ (Builtin.SmallTypes.ownedTupleIsFree (Value.ref z) >>= _) _ _ _
  refine wpAny_bind ?_; unfold Builtin.SmallTypes.ownedTupleIsFree
  refine wpAny_bind (wpAny_field hz (rfl) (x := .none) rfl (wpAny_pure ?_)); simp only [if_true]
  refine wpAny_bind (wpAny_rule ?_); refine wpAny_bind (wpAny_field hz (rfl) (x := .ref TO) rfl ?_)
  refine wpAny_bind (wpAny_setField_rec hz (by simp) fun g1 z1 b1 => ?_); replace z1 : IsZip g1 z TI TO .ellipsis := z1
  refine wpAny_bind ?_; simp only [List.zipIdx_cons, List.zipIdx_nil, List.forIn_cons, List.forIn_nil]
  refine wpAny_bind (wpAny_bind (wpAny_onRaise ?_)); show wpAny _ _ (Builtin.SmallTypes.nextOf (Value.ref i1) >>= _) _ _ _
  have j1 : U1 k g1 := S1.keep _ _ _ h1 fun o e => b1.extBut _ _ D.i1z e
  have m1 : Z1 xs g1 := S1.keepS _ _ _ hl1 fun o e => b1.extBut _ _ D.l1z e
  cases hx : xs[k]? with
  | none =>
    refine wpAny_bind (S1.fin _ _ _ k xs _ hh j1 m1 hx fun g2 e b2 he => ?_); obtain ⟨oe, hoe, hce⟩ := he
    have z2 : IsZip g2 z TI TO .ellipsis := b2 _ _ D.i1z.symm z1
    have ez : e ≠ z := fun q => by subst q; rw [z2] at hoe; cases hoe; simp at hce
    refine wpAny_setField_rec z2 (by simp) fun g3 _ b3 => hE g3 e (fun c o c1 _ c3 _ q => b3.extBut _ _ c1 (b2 _ _ c3 (b1.extBut _ _ c1 q))) ⟨oe, b3.extBut _ _ ez hoe, hce⟩
  | some x =>
    have hy : ys[k]? = none := by
      rcases hend with h | h
      · rw [hx] at h; cases h
      · exact h
    refine wpAny_bind (S1.item _ _ _ k xs x _ j1 m1 hx fun g2 u1 b2 => wpAny_pure ?_)
    have p2 : IsPair g2 TO a b := b2.extBut _ _ D.TOi1 (b1.extBut _ _ D.TOz hTO)
    refine wpAny_bind (wpAny_seqItems p2 (rfl) ?_); refine wpAny_bind (wpAny_updateSeq_pair p2 fun g3 p3 b3 => ?_)
    refine wpAny_bind (wpAny_letGo (wpAny_pure ?_)); refine wpAny_bind (wpAny_bind (wpAny_onRaise ?_)); show wpAny _ _ (Builtin.SmallTypes.nextOf (Value.ref i2) >>= _) _ _ _
    refine wpAny_bind (S2.fin _ _ _ k ys _ hh (S2.keep _ _ _ h2 fun o e => b3.extBut _ _ D.TOi2.symm (b2.extBut _ _ D.i12.symm (b1.extBut _ _ D.i2z e)))
      (S2.keepS _ _ _ hl2 fun o e => b3.extBut _ _ D.l2TO (b2.extBut _ _ D.l2i1 (b1.extBut _ _ D.l2z e))) hy fun g4 e b4 he => ?_)
    obtain ⟨oe, hoe, hce⟩ := he
    have z4 : IsZip g4 z TI TO .ellipsis := b4 _ _ D.i2z.symm (b3.extBut _ _ D.TOz.symm (b2.extBut _ _ D.i1z.symm z1))
    have ez : e ≠ z := fun q => by subst q; rw [z4] at hoe; cases hoe; simp at hce
    refine wpAny_setField_rec z4 (by simp) fun g5 _ b5 => hE g5 e (fun c o c1 c2 c3 c4 q => b5.extBut _ _ c1 (b4 _ _ c4 (b3.extBut _ _ c2 (b2.extBut _ _ c3 (b1.extBut _ _ c1 q))))) ⟨oe, b5.extBut _ _ ez hoe, hce⟩
end
/-! ### the step of the hand layer -/
/-- how a side is read off the hand layer's heap -/
structure Side (l : Addr) (K : PySem.W.Frag) (R : Hp → List V → Prop) (Sq : Array Value → Heap → Prop) : Prop where
  get : ∀ (X : Cx) (pins : List (Addr × Obj)) (σ : L2.St) (H : Hp) (s : Shared) (xs : List V), X.K = K → L2.Inv X pins σ H s → R H xs → ∃ its : List Value, Vals xs its ∧ Sq its.toArray s.heap ∧ l < s.heap.objs.size
  inj : ∀ (X : Cx) (pins : List (Addr × Obj)) (σ : L2.St) (H : Hp) (s : Shared) (xs ys : List V), X.K = K → L2.Inv X pins σ H s → R H xs → R H ys → xs = ys
theorem side_list {K : PySem.W.Frag} {a : Addr} : Side a K (fun H xs => SqL K H a xs) (fun arr h => h.IsList a arr) where
  get := fun X pins σ H s xs hK I r => by
    subst hK
    obtain ⟨its, rv, p, _⟩ := I.list r
    exact ⟨its, rv, p.isList, p.lt⟩
  inj := fun X pins σ H s xs ys hK I r r' => by
    subst hK
    exact I.list_inj r r'
theorem side_tup {K : PySem.W.Frag} {a : Addr} : Side a K (fun H xs => SqT K H a xs) (fun arr h => h.IsTuple a arr) where
  get := fun X pins σ H s xs hK I r => by
    subst hK
    obtain ⟨its, rv, p, _⟩ := I.tuple r
    obtain ⟨o, ho, _⟩ := id p
    exact ⟨its, rv, p, Heap.lt_size ho⟩
  inj := fun X pins σ H s xs ys hK I r r' => by
    subst hK
    exact I.tuple_inj r r'
def ItzG (R1 R2 : Hp → List V → Prop) : It :=
  ⟨fun i H => ∃ (xs ys : List V) (x y : V), R1 H xs ∧ R2 H ys ∧ xs[i]? = some x ∧ ys[i]? = some y,
    fun i H v H' => ∃ T x y, v = .ref T ∧ H T = none ∧ H' = upd H T (.tup [x, y]) ∧ (∀ xs, R1 H xs → xs[i]? = some x) ∧ ∀ ys, R2 H ys → ys[i]? = some y,
    fun i H => ∃ xs ys : List V, R1 H xs ∧ R2 H ys ∧ (xs.length ≤ i ∨ ys.length ≤ i)⟩
theorem turn_zipG {P : Program} {w : World} {K : PySem.W.Frag} {elts : List Expr} {kk : Nat} {tpos : Pos} {a b z TI TO i1 i2 : Addr} {R1 R2 : Hp → List V → Prop} {U1 U2 : Nat → Heap → Prop} {Z1 Z2 : Array Value → Heap → Prop}
    (S1 : Src P w i1 a U1 Z1) (S2 : Src P w i2 b U2 Z2) (L1 : Side a K R1 Z1) (L2' : Side b K R2 Z2) (D : ZipApart z TI TO i1 i2 a b) :
    Turn P w K (.Tuple elts kk tpos) (ItzG R1 R2) [z, TI, TO, i1, i2] z (fun i h => IsZip h z TI TO .none ∧ IsPair h TI (.ref i1) (.ref i2) ∧ (∃ x y, IsPair h TO x y) ∧ U1 i h ∧ U2 i h) where
  mem := by simp
  obj := fun i h st c hc => by
    obtain ⟨hz, hTI, ⟨x, y, hTO⟩, e1, e2⟩ := st
    have e' : c = z ∨ c = TI ∨ c = TO ∨ c = i1 ∨ c = i2 := by simpa using hc
    rcases e' with rfl | rfl | rfl | rfl | rfl
    · exact ⟨_, hz, fun v q => nomatch q⟩
    · exact ⟨_, hTI, fun v q => nomatch q⟩
    · exact ⟨_, hTO, fun v q => nomatch q⟩
    · exact S1.obj _ _ e1
    · exact S2.obj _ _ e2
  keep := fun i h h' st k => by
    obtain ⟨hz, hTI, ⟨x, y, hTO⟩, h1, h2⟩ := st
    exact ⟨k z (by simp) _ hz, k TI (by simp) _ hTI, ⟨x, y, k TO (by simp) _ hTO⟩, S1.keep _ _ _ h1 (k i1 (by simp)), S2.keep _ _ _ h2 (k i2 (by simp))⟩
  item := by
    intro X hP hw hK hc i pins s σ H E I hf st hg
    obtain ⟨hz, hTI, ⟨x0, y0, hTO⟩, h1, h2⟩ := st
    obtain ⟨xs, ys, x, y, hqx, hqy, hx, hy⟩ := hg
    obtain ⟨its, rv, p, _⟩ := L1.get X pins σ H s xs hK I hqx
    obtain ⟨its2, rv2, p2, _⟩ := L2'.get X pins σ H s ys hK I hqy
    obtain ⟨u, hu, ru⟩ := rv.get hx
    obtain ⟨u2, hu2, ru2⟩ := rv2.get hy
    have hzl : z < s.heap.objs.size := Heap.lt_size hz
    have hT : s.TypeIs (.ref z) "zip" := ⟨_, hz, rfl⟩
    unfold pyNext
    refine wpAny_bind (wpAny_attempt (wpAny_callSpecial?_slot (name := Str.ofString "__next__") hT F.slot_zip_next (wpAny_call_entry F.slot_zip_next hT F.entry_zip_next
      (zipG_item S1 S2 D hz hTI hTO h1 h2 p p2 (x := u) (y := u2) (by simpa using hu) (by simpa using hu2) fun h' z' TO' h1' h2' hT' hk => wpAny_pure ?_) (F.args_zip_next_1 _))))
    refine ⟨_, rfl, wpAny_letOwnedTupleGo_zip (s := { s with heap := h' }) z' fun h'' z'' sb => ?_⟩
    have hT2 : h''.get? s.heap.objs.size = some { cls := .type "tuple", data := .seq #[u, u2] } := ((sb.2 _ (Nat.ne_of_gt hzl)).trans hT')
    subst hP hw hK
    have new : ObjOk X.prog X.w (upd H s.heap.objs.size (.tup [x, y])) h'' s.heap.objs.size (.tup [x, y]) := ⟨by show 2 ≤ sizeLine; decide, [u, u2], .cons ru (.cons ru2 .nil), ⟨_, hT2, rfl, _, rfl⟩⟩
    have kk' : ∀ (c : Addr) (o : Obj), c ∉ [z, TI, TO, i1, i2] → s.heap.get? c = some o → h''.get? c = some o := fun c o hb q => (sb.2 c (fun q' => hb (by simp [q']))).trans (hk c o (fun q' => hb (by simp [q'])) (fun q' => hb (by simp [q'])) (fun q' => hb (by simp [q'])) (fun q' => hb (by simp [q'])) q)
    have I1 : L2.Inv X pins σ (upd H s.heap.objs.size (.tup [x, y])) { s with heap := h'' } := I.turnedNew (t' := s.toks) (ch := [z, TI, TO, i1, i2]) kk' hf (Nat.le_refl _) new
    refine ⟨.ref s.heap.objs.size, _, I1, rfl, ⟨_, x, y, rfl, I.hok.fresh (Nat.le_refl _), rfl, fun l hl => ?_, fun l hl => ?_⟩, ⟨z'', ?_, ⟨u, u2, ?_⟩, ?_, ?_⟩, fun c hcm => ?_⟩
    · rw [L1.inj X pins σ H s l xs rfl I hl hqx]
      exact hx
    · rw [L2'.inj X pins σ H s l ys rfl I hl hqy]
      exact hy
    · exact (sb.2 _ D.TIz).trans ((hk _ _ D.TIz D.TITO D.TIi1 D.TIi2 hTI))
    · exact (sb.2 _ D.TOz).trans TO'
    · exact S1.keep _ _ _ h1' fun o q => (sb.2 _ D.i1z).trans q
    · exact S2.keep _ _ _ h2' fun o q => (sb.2 _ D.i2z).trans q
    · have hlt : c < s.heap.objs.size := by
        have e' : c = z ∨ c = TI ∨ c = TO ∨ c = i1 ∨ c = i2 := by simpa using hcm
        rcases e' with rfl | rfl | rfl | rfl | rfl
        · exact hzl
        · exact Heap.lt_size hTI
        · exact Heap.lt_size hTO
        · obtain ⟨_, e1, _⟩ := S1.obj _ _ h1; exact Heap.lt_size e1
        · obtain ⟨_, e2, _⟩ := S2.obj _ _ h2; exact Heap.lt_size e2
      rw [upd_ne (Nat.ne_of_lt hlt)]
      exact (hf c hcm).1
  done := by
    intro X hP hw hK hc i pins s σ H E I hf st hg
    obtain ⟨hz, hTI, ⟨x0, y0, hTO⟩, h1, h2⟩ := st
    obtain ⟨xs, ys, hqx, hqy, hend⟩ := hg
    obtain ⟨its, rv, p, _⟩ := L1.get X pins σ H s xs hK I hqx
    obtain ⟨its2, rv2, p2, _⟩ := L2'.get X pins σ H s ys hK I hqy
    have l1 := rv.length
    have l2 := rv2.length
    have he : its.toArray[i]? = none ∨ its2.toArray[i]? = none := by
      rcases hend with q | q
      · exact .inl (by simp; omega)
      · exact .inr (by simp; omega)
    have hT : s.TypeIs (.ref z) "zip" := ⟨_, hz, rfl⟩
    unfold pyNext
    refine wpAny_bind (wpAny_attempt (wpAny_callSpecial?_slot (name := Str.ofString "__next__") hT F.slot_zip_next
      (wpAny_call_entry F.slot_zip_next hT F.entry_zip_next (zipG_end S1 S2 (I.ok.hd hc) D hz hTI hTO h1 h2 p p2 he fun h' e hk he => ?_) (F.args_zip_next_1 _))))
    obtain ⟨o, ho, hc'⟩ := he
    refine wpAny_bind (wpAny_isInstance (T := "StopIteration") (b := true) ⟨o, ho, hc'⟩ isSubtype_stop ?_)
    refine wpAny_pure ⟨rfl, I.turnedL (t' := s.toks) (ch := [z, TI, TO, i1, i2]) (fun c o hb q => hk c o (fun q' => hb (by simp [q'])) (fun q' => hb (by simp [q'])) (fun q' => hb (by simp [q'])) (fun q' => hb (by simp [q'])) q) hf⟩
  self := fun A i s Q E st h => wpAny_pyIter_zip st.1 h
/-! ### zip of a tuple and a list made -/
abbrev zTL1 (h : Heap) (l1 : Addr) : Heap := h.push { cls := .type "tuple_iterator", data := .fields #[.ref l1, .int 0 0] }
abbrev zTL2 (h : Heap) (l1 l2 : Addr) : Heap := (zTL1 h l1).push { cls := .type "list_iterator", data := .fields #[.ref l2, .int 0 0] }
abbrev zTL3 (h : Heap) (l1 l2 : Addr) : Heap := (zTL2 h l1 l2).push { cls := .type "tuple", data := .seq #[.ref h.objs.size, .ref (zTL1 h l1).objs.size] }
abbrev zTL4 (h : Heap) (l1 l2 : Addr) : Heap := (zTL3 h l1 l2).push { cls := .type "tuple", data := .seq #[.none, .none] }
abbrev zTL5 (h : Heap) (l1 l2 : Addr) : Heap := (zTL4 h l1 l2).push { cls := .type "zip", data := .fields #[.none, .bool false, .bool false, .ref (zTL2 h l1 l2).objs.size, .ref (zTL3 h l1 l2).objs.size] }
abbrev zLT1 (h : Heap) (l1 : Addr) : Heap := h.push { cls := .type "list_iterator", data := .fields #[.ref l1, .int 0 0] }
abbrev zLT2 (h : Heap) (l1 l2 : Addr) : Heap := (zLT1 h l1).push { cls := .type "tuple_iterator", data := .fields #[.ref l2, .int 0 0] }
abbrev zLT3 (h : Heap) (l1 l2 : Addr) : Heap := (zLT2 h l1 l2).push { cls := .type "tuple", data := .seq #[.ref h.objs.size, .ref (zLT1 h l1).objs.size] }
abbrev zLT4 (h : Heap) (l1 l2 : Addr) : Heap := (zLT3 h l1 l2).push { cls := .type "tuple", data := .seq #[.none, .none] }
abbrev zLT5 (h : Heap) (l1 l2 : Addr) : Heap := (zLT4 h l1 l2).push { cls := .type "zip", data := .fields #[.none, .bool false, .bool false, .ref (zLT2 h l1 l2).objs.size, .ref (zLT3 h l1 l2).objs.size] }
theorem new_zTL (l1 l2 : Addr) (xs ys : Array Value) : Meets (Builtin.«zip.__new__» ⟨[.type "zip", .ref l1, .ref l2], []⟩) (fun _ R s => s.heap.IsTuple l1 xs ∧ s.heap.IsList l2 ys ∧ R (.ok (.ret (.ref (zTL4 s.heap l1 l2).objs.size))) { s with heap := zTL5 s.heap l1 l2 }) :=
  .of_wp fun prog w A R s h => by
    obtain ⟨hp, g, d, tk, os⟩ := s
    obtain ⟨k1, k2, h⟩ := h
    have hsub := sub_zip
    have e1 : Heap.IsTuple (Shared.heap ⟨hp, g, d, tk, os⟩) l1 xs := k1
    have e2 : Heap.IsList (Shared.heap ⟨hp.push { cls := .type "tuple_iterator", data := .fields #[.ref l1, .int 0 0] }, g, d, tk, os⟩) l2 ys := Heap.IsList.push k2 _
    wp_walk using wpAny_pyIter_tuple e1, wpAny_pyIter_list e2
    exact ⟨_, rfl, h⟩
theorem new_zLT (l1 l2 : Addr) (xs ys : Array Value) : Meets (Builtin.«zip.__new__» ⟨[.type "zip", .ref l1, .ref l2], []⟩) (fun _ R s => s.heap.IsList l1 xs ∧ s.heap.IsTuple l2 ys ∧ R (.ok (.ret (.ref (zLT4 s.heap l1 l2).objs.size))) { s with heap := zLT5 s.heap l1 l2 }) :=
  .of_wp fun prog w A R s h => by
    obtain ⟨hp, g, d, tk, os⟩ := s
    obtain ⟨k1, k2, h⟩ := h
    have hsub := sub_zip
    have e1 : Heap.IsList (Shared.heap ⟨hp, g, d, tk, os⟩) l1 xs := k1
    have e2 : Heap.IsTuple (Shared.heap ⟨hp.push { cls := .type "list_iterator", data := .fields #[.ref l1, .int 0 0] }, g, d, tk, os⟩) l2 ys := Heap.IsTuple.push k2 _
    wp_walk using wpAny_pyIter_list e1, wpAny_pyIter_tuple e2
    exact ⟨_, rfl, h⟩
section
variable {P : Program} {w : World} {A : Around} {E : Value → Shared → Prop} {s : Shared}
theorem call_zTL {l1 l2 : Addr} {xs ys : Array Value} {Q : Value → Shared → Prop} (k1 : s.heap.IsTuple l1 xs) (k2 : s.heap.IsList l2 ys)
    (h : ∀ h', IsZip h' (s.heap.objs.size + 4) (s.heap.objs.size + 2) (s.heap.objs.size + 3) .none → IsPair h' (s.heap.objs.size + 2) (.ref s.heap.objs.size) (.ref (s.heap.objs.size + 1)) → IsPair h' (s.heap.objs.size + 3) .none .none →
      h'.IsTupleIter s.heap.objs.size l1 0 → h'.IsListIter (s.heap.objs.size + 1) l2 0 → (∀ c o, s.heap.get? c = some o → h'.get? c = some o) → Q (.ref (s.heap.objs.size + 4)) { s with heap := h' }) :
    wpAny (model P w) A (call (.type "zip") [.ref l1, .ref l2]) Q E s := by
  refine callType_new F.called_zip (by decide) (F.typeCall_zip_2 _ _) (F.newCall_zip_2 _ _) (fun obj => F.args_object_init_3 obj _ _) F.entry_zip_new (new_zTL l1 l2 xs ys) ⟨k1, k2, ?_⟩
  have z1 : (zTL1 s.heap l1).objs.size = s.heap.objs.size + 1 := Heap.size_push ..
  have z2 : (zTL2 s.heap l1 l2).objs.size = s.heap.objs.size + 2 := by rw [Heap.size_push, z1]
  have z3 : (zTL3 s.heap l1 l2).objs.size = s.heap.objs.size + 3 := by rw [Heap.size_push, z2]
  have z4 : (zTL4 s.heap l1 l2).objs.size = s.heap.objs.size + 4 := by rw [Heap.size_push, z3]
  have g5 : (zTL5 s.heap l1 l2).get? (zTL4 s.heap l1 l2).objs.size = some _ := Heap.get?_push_size _ rfl
  have g4 : (zTL5 s.heap l1 l2).get? (zTL3 s.heap l1 l2).objs.size = some _ := Heap.get?_push_of_some _ (Heap.get?_push_size _ rfl)
  have g3 : (zTL5 s.heap l1 l2).get? (zTL2 s.heap l1 l2).objs.size = some _ := Heap.get?_push_of_some _ (Heap.get?_push_of_some _ (Heap.get?_push_size _ rfl))
  have g2 : (zTL5 s.heap l1 l2).get? (zTL1 s.heap l1).objs.size = some _ := Heap.get?_push_of_some _ (Heap.get?_push_of_some _ (Heap.get?_push_of_some _ (Heap.get?_push_size _ rfl)))
  have g1 : (zTL5 s.heap l1 l2).get? s.heap.objs.size = some _ := Heap.get?_push_of_some _ (Heap.get?_push_of_some _ (Heap.get?_push_of_some _ (Heap.get?_push_of_some _ (Heap.get?_push_size _ rfl))))
  show _ ∧ _
  rw [z2, z3, z4] at g5; rw [z1, z2] at g3; rw [z3] at g4; rw [z1] at g2; rw [z4]
  exact ⟨⟨_, g5, rfl⟩, h _ g5 g3 g4 ⟨_, g1, rfl, rfl⟩ ⟨_, g2, rfl, rfl⟩ fun c o x => Heap.get?_push_of_some _ (Heap.get?_push_of_some _ (Heap.get?_push_of_some _ (Heap.get?_push_of_some _ (Heap.get?_push_of_some _ x))))⟩
theorem call_zLT {l1 l2 : Addr} {xs ys : Array Value} {Q : Value → Shared → Prop} (k1 : s.heap.IsList l1 xs) (k2 : s.heap.IsTuple l2 ys)
    (h : ∀ h', IsZip h' (s.heap.objs.size + 4) (s.heap.objs.size + 2) (s.heap.objs.size + 3) .none → IsPair h' (s.heap.objs.size + 2) (.ref s.heap.objs.size) (.ref (s.heap.objs.size + 1)) → IsPair h' (s.heap.objs.size + 3) .none .none →
      h'.IsListIter s.heap.objs.size l1 0 → h'.IsTupleIter (s.heap.objs.size + 1) l2 0 → (∀ c o, s.heap.get? c = some o → h'.get? c = some o) → Q (.ref (s.heap.objs.size + 4)) { s with heap := h' }) :
    wpAny (model P w) A (call (.type "zip") [.ref l1, .ref l2]) Q E s := by
  refine callType_new F.called_zip (by decide) (F.typeCall_zip_2 _ _) (F.newCall_zip_2 _ _) (fun obj => F.args_object_init_3 obj _ _) F.entry_zip_new (new_zLT l1 l2 xs ys) ⟨k1, k2, ?_⟩
  have z1 : (zLT1 s.heap l1).objs.size = s.heap.objs.size + 1 := Heap.size_push ..
  have z2 : (zLT2 s.heap l1 l2).objs.size = s.heap.objs.size + 2 := by rw [Heap.size_push, z1]
  have z3 : (zLT3 s.heap l1 l2).objs.size = s.heap.objs.size + 3 := by rw [Heap.size_push, z2]
  have z4 : (zLT4 s.heap l1 l2).objs.size = s.heap.objs.size + 4 := by rw [Heap.size_push, z3]
  have g5 : (zLT5 s.heap l1 l2).get? (zLT4 s.heap l1 l2).objs.size = some _ := Heap.get?_push_size _ rfl
  have g4 : (zLT5 s.heap l1 l2).get? (zLT3 s.heap l1 l2).objs.size = some _ := Heap.get?_push_of_some _ (Heap.get?_push_size _ rfl)
  have g3 : (zLT5 s.heap l1 l2).get? (zLT2 s.heap l1 l2).objs.size = some _ := Heap.get?_push_of_some _ (Heap.get?_push_of_some _ (Heap.get?_push_size _ rfl))
  have g2 : (zLT5 s.heap l1 l2).get? (zLT1 s.heap l1).objs.size = some _ := Heap.get?_push_of_some _ (Heap.get?_push_of_some _ (Heap.get?_push_of_some _ (Heap.get?_push_size _ rfl)))
  have g1 : (zLT5 s.heap l1 l2).get? s.heap.objs.size = some _ := Heap.get?_push_of_some _ (Heap.get?_push_of_some _ (Heap.get?_push_of_some _ (Heap.get?_push_of_some _ (Heap.get?_push_size _ rfl))))
  show _ ∧ _
  rw [z2, z3, z4] at g5; rw [z1, z2] at g3; rw [z3] at g4; rw [z1] at g2; rw [z4]
  exact ⟨⟨_, g5, rfl⟩, h _ g5 g3 g4 ⟨_, g1, rfl, rfl⟩ ⟨_, g2, rfl, rfl⟩ fun c o x => Heap.get?_push_of_some _ (Heap.get?_push_of_some _ (Heap.get?_push_of_some _ (Heap.get?_push_of_some _ (Heap.get?_push_of_some _ x))))⟩
end
def iZipM (K : PySem.W.Frag) (ta : TA) : TI := fun σ H R => ta σ H fun vs H1 => ∃ a b xs ys, vs = [.ref a, .ref b] ∧
  ((SqT K H1 a xs ∧ SqL K H1 b ys ∧ R (ItzG (fun H xs => SqT K H a xs) (fun H xs => SqL K H b xs)) H1) ∨ (SqL K H1 a xs ∧ SqT K H1 b ys ∧ R (ItzG (fun H xs => SqL K H a xs) (fun H xs => SqT K H b xs)) H1))
theorem p_zipM {X : Cx} {K : PySem.W.Frag} {e e2 : Expr} {ta : TA} {p pos tpos : Pos} {elts : List Expr} {kk : Nat} (hg : Gl X "zip") (hm : X.mg "zip" = none) (ha : PA X [e, e2] ta) (hK : X.K = K := by rfl)
    (hs : starEach [e, e2] X.env = (false, eval e X.env) :: starEach [e2] X.env := by rfl) (hpl : (backTo pos (starEach [e2] X.env)).any (·.1) = false := by rfl) : PI X (.Tuple elts kk tpos) (.Call (.Name "zip" p) [e, e2] [] pos) (iZipM K ta) := by
  subst hK
  refine ⟨fun pins s σ H R I h => ?_⟩
  refine Call_ (ld_blt I hg hm PyProof.Rows.boot_zip (PyProof.Rows.callWith_type1 (thn (ha.run pos pins s σ H _ I h) fun us s1 ⟨vs, H1, I1, r1, q1⟩ => ?_) hs hpl))
  obtain ⟨a, b, xs, ys, rfl, q1⟩ := q1
  obtain ⟨u, u', rfl, ru, ru'⟩ : ∃ u u', us = [u, u'] ∧ RelV (.ref a) u ∧ RelV (.ref b) u' := by
    cases r1 with
    | cons r rr =>
      cases rr with
      | cons r' rr =>
        cases rr
        exact ⟨_, _, rfl, r, r'⟩
  cases ru
  cases ru'
  have fresh5 : ∀ c, c ∈ [s1.heap.objs.size + 4, s1.heap.objs.size + 2, s1.heap.objs.size + 3, s1.heap.objs.size, s1.heap.objs.size + 1] → FpOk X pins H1 c := fun c hcm => by
    have hle : s1.heap.objs.size ≤ c := by
      simp only [List.mem_cons, List.not_mem_nil, or_false] at hcm
      omega
    exact I1.fpOk hle (I1.hok.fresh hle)
  rcases q1 with ⟨hqx, hqy, q⟩ | ⟨hqx, hqy, q⟩
  · obtain ⟨its, rv, p1, la⟩ := (side_tup (a := a)).get X pins σ H1 s1 xs rfl I1 hqx
    obtain ⟨its2, rv2, p2, lb⟩ := (side_list (a := b)).get X pins σ H1 s1 ys rfl I1 hqy
    refine call_zTL p1 p2 fun h' hz hTI hTO h1 h2 hk => wpAny_pyIter_zip hz ?_
    have I2 : L2.Inv X pins σ H1 { s1 with heap := h' } := I1.kept (t' := s1.toks) hk
    exact ⟨s1.heap.objs.size + 4, [s1.heap.objs.size + 4, s1.heap.objs.size + 2, s1.heap.objs.size + 3, s1.heap.objs.size, s1.heap.objs.size + 1], _, _, H1, rfl, I2, turn_zipG src_tup src_list side_tup side_list (PySem.W.ktu_apart s1.heap.objs.size a b la lb), ⟨hz, hTI, ⟨_, _, hTO⟩, h1, h2⟩, fresh5, q⟩
  · obtain ⟨its, rv, p1, la⟩ := (side_list (a := a)).get X pins σ H1 s1 xs rfl I1 hqx
    obtain ⟨its2, rv2, p2, lb⟩ := (side_tup (a := b)).get X pins σ H1 s1 ys rfl I1 hqy
    refine call_zLT p1 p2 fun h' hz hTI hTO h1 h2 hk => wpAny_pyIter_zip hz ?_
    have I2 : L2.Inv X pins σ H1 { s1 with heap := h' } := I1.kept (t' := s1.toks) hk
    exact ⟨s1.heap.objs.size + 4, [s1.heap.objs.size + 4, s1.heap.objs.size + 2, s1.heap.objs.size + 3, s1.heap.objs.size, s1.heap.objs.size + 1], _, _, H1, rfl, I2, turn_zipG src_list src_tup side_list side_tup (PySem.W.ktu_apart s1.heap.objs.size a b la lb), ⟨hz, hTI, ⟨_, _, hTO⟩, h1, h2⟩, fresh5, q⟩
theorem walk_zipG {R1 R2 : Hp → List V → Prop} {xs ys : List V} {n : Nat} (hn : n = min xs.length ys.length) : Walk (ItzG R1 R2) n (fun H => R1 H xs ∧ R2 H ys) (YPair (fun i => xs[i]?) (fun i => ys[i]?)) := by
  subst hn
  refine ⟨fun i _ hi q => ?_, fun _ q => ⟨xs, ys, q.1, q.2, by omega⟩, fun i H v H' _ q y => ?_⟩
  · have k1 : i < xs.length := by omega
    have k2 : i < ys.length := by omega
    exact ⟨xs, ys, xs[i], ys[i], q.1, q.2, by simp [k1], by simp [k2]⟩
  · obtain ⟨T, x, u, k1, k2, k3, k4, k5⟩ := y
    exact ⟨T, x, u, k1, k2, k3, k4 xs q.1, k5 ys q.2⟩
end Bw
set_option Elab.async false
set_option linter.all false
set_option maxRecDepth 100000
set_option maxHeartbeats 4000000
namespace Bw
open PySem PySem.Spec PyProof.Rows L2
section
variable {X : Cx} {K : PySem.W.Frag}
theorem p_bm {o e : Expr} {es : List Expr} {to : TE} {t : TA} {name : Str} {apos cpos : Pos} {T id : String} {r : V → List V → Hp → VK → Prop} (pa : PlainAttrs T) (slot : Slot T name id) (hty : typeOf (.builtin id) = pure (.type "method_descriptor")) (hm : MtM X id r) (ho : PE X o to) (ha : PA X (e :: es) t) (hK : X.K = K := by rfl)
    (hbase : attributeBase o name X.env (eval o X.env) = eval o X.env := by rfl)
    (hfew : ((backTo cpos (starEach (e :: es) X.env)).all (fun x => !x.1) && (backToKw cpos (keywordEach [] X.env)).all (fun x => x.1.isSome) && decide ((e :: es).length + ([] : List Keyword).length + (if ([] : List Keyword).isEmpty then 0 else 1) < 30)) = true := by rfl)
    (hline : (apos.endLine == cpos.line) = true := by rfl) (hs : starEach (e :: es) X.env = (false, eval e X.env) :: starEach es X.env := by rfl) (hplain : (backTo cpos (starEach es X.env)).any (·.1) = false := by rfl) :
    PE X (.Call (.Attribute o name apos) (e :: es) [] cpos) (tBM K T r to t) := by
  subst hK
  exact pe_bm pa slot hty hm ho ha hbase hfew hline hs hplain
theorem p_zipA {e e2 : Expr} {ta : TA} {p pos tpos : Pos} {elts : List Expr} {kk : Nat} (hg : Gl X "zip") (hm : X.mg "zip" = none) (ha : PA X [e, e2] ta) (hK : X.K = K := by rfl)
    (hs : starEach [e, e2] X.env = (false, eval e X.env) :: starEach [e2] X.env := by rfl) (hpl : (backTo pos (starEach [e2] X.env)).any (·.1) = false := by rfl) : PI X (.Tuple elts kk tpos) (.Call (.Name "zip" p) [e, e2] [] pos) (RZ.iZipA K ta) := by
  subst hK
  exact RZ.pi_zipA hg hm ha hs hpl
/-! ### a walk over a list or a tuple -/
def SqS (K : PySem.W.Frag) (b : Bool) (H : Hp) (a : Addr) (xs : List V) : Prop := if b then SqL K H a xs else SqT K H a xs
def ItS (K : PySem.W.Frag) (b : Bool) (a : Addr) : It := if b then Itl K a else Itt K a
def oS (b : Bool) (xs : List V) : HO := if b then .lst xs else .tup xs
theorem SqS.of {K : PySem.W.Frag} {b : Bool} {H : Hp} {a : Addr} {xs : List V} (h : H a = some (oS b xs)) : SqS K b H a xs := by
  cases b
  · exact SqT.of h
  · exact SqL.of h
theorem SqS.or {K : PySem.W.Frag} {b : Bool} {H : Hp} {a : Addr} {xs : List V} (h : SqS K b H a xs) : SqL K H a xs ∨ SqT K H a xs := by
  cases b
  · exact .inr h
  · exact .inl h
theorem walk_seq {b : Bool} {a : Addr} {xs : List V} : Walk (ItS K b a) xs.length (fun H => SqS K b H a xs) (YAt xs) := by
  cases b
  · exact walk_tup
  · exact walk_list
def iSeq (K : PySem.W.Frag) (tl : TE) : TI := fun σ H R => tl σ H fun v H1 => ∃ (a : Addr) (xs : List V) (b : Bool), v = .ref a ∧ SqS K b H1 a xs ∧ R (ItS K b a) H1
theorem p_seq {tg l : Expr} {tl : TE} (hl : PE X l tl) (hK : X.K = K := by rfl) : PI X tg l (iSeq K tl) := by
  subst hK
  refine ⟨fun pins s σ H R I h => thn (hl.run pins s σ H _ I h) fun v s1 ⟨x, H1, I1, r1, q1⟩ => ?_⟩
  obtain ⟨a, xs, b, rfl, hq, q⟩ := q1
  cases r1
  have hf : ∀ c ∈ [s1.heap.objs.size], FpOk X pins H1 c := fun c hc => by
    rw [List.mem_singleton.mp hc]
    exact I1.fpOk (Nat.le_refl _) (I1.hok.fresh (Nat.le_refl _))
  cases b
  · obtain ⟨its, rv, p, hz⟩ := I1.tuple hq
    exact wpAny_pyIter_tuple (show s1.heap.IsTuple a its.toArray from p) ⟨s1.heap.objs.size, [s1.heap.objs.size], _, _, H1, rfl, I1.kept (t' := s1.toks) fun b o e => Heap.get?_push_of_some _ e, turn_tuple a _, ⟨_, Heap.get?_push_size _ rfl, rfl, rfl⟩, hf, q⟩
  · obtain ⟨its, rv, p, hz⟩ := I1.list hq
    exact wpAny_pyIter_list p.isList ⟨s1.heap.objs.size, [s1.heap.objs.size], _, _, H1, rfl, I1.kept (t' := s1.toks) fun b o e => Heap.get?_push_of_some _ e, turn_list a _, ⟨_, Heap.get?_push_size _ rfl, rfl, rfl⟩, hf, q⟩
end
end Bw
set_option Elab.async false
set_option linter.all false
set_option maxRecDepth 100000
set_option maxHeartbeats 4000000
namespace Bw
open PySem PySem.Spec PyProof.Rows L2
/-! ### o.m(k=v): a method called by one keyword -/
def tMethK (C : Addr) (m : Str) (sp : Sp) (gV : List V → List V → List V) (E : XK) (ta : TE) (tk : TA) : TE := fun σ H Q => ta σ H fun x H1 => ∃ a dx fs, x = .ref a ∧ H1 a = some (.ins C dx fs) ∧ fs.lookup m = none ∧ tk σ H1 fun zs H2 => sp (gV [x] zs) H2 Q E
theorem pe_methK0 {X : Cx} {CX : CXT} {k : Nat} {C f : Addr} {fd : FuncData} {ps ks : List Str} {sp : Sp} {E : XK} {m : Str} {o : Expr} {ta : TE} {apos pos : Pos} {kws : List Keyword} {tk : TA} {g : List Value → List Value → List Value} {gV : List V → List V → List V} {pl : Sem Bool}
    (he : PE X o ta) (c : Cls X.K C) (hm : Meth X.K C m f) (F : FnOk X.prog X.w X.K X.mg X.base CX k f fd ps sp) (hr : Room k X.A) (hb : KBinds X.K fd ps ks g gV) (hx : Passes CX X E)
    (hkw : PK X kws tk) (hall : (backToKw pos (keywordEach kws X.env)).all (·.1.isSome) = true := by rfl) (hks : (backToKw pos (keywordEach kws X.env)).filterMap (·.1) = ks := by rfl)
    (hpl : ((backTo pos (starEach [] X.env)).any (·.1) || (backToKw pos (keywordEach kws X.env)).any (·.1.isNone)) = false := by rfl)
    (ht : eval (.Call (.Attribute o m apos) [] kws pos) X.env = (do
      let ov ← eval o X.env
      standAt apos.atName
      let (f, first) ← holding [ov] (getMethod ov m pl)
      callWith pos f first (backTo pos (starEach [] X.env)) (backToKw pos (keywordEach kws X.env))) := by rfl) :
    PE X (.Call (.Attribute o m apos) [] kws pos) (tMethK C m sp gV E ta tk) := by
  refine ⟨fun pins s σ H Q I h => ?_⟩
  refine PySem.W.methodCall_KW (pl := pl) (thn (he.run pins s σ H _ I h) fun u s1 ⟨x, H1, I1, rx, a, dx, fs, ex, ea, l, q⟩ => ?_) ht
  subst ex
  obtain rfl : u = Value.ref a := rx
  refine getmeth_ok I1 ea c hm l ?_
  refine PySem.W.callWith_KW0 (h₀ := X.base) (first := [.ref a]) I.ok.mod.kin hm.kp hall (thn (hkw.run pos pins s1 σ H1 _ I1 q) fun ws s2 ⟨zs, H2, I2, rz, q2⟩ => ⟨I2.kIn, ?_⟩) hpl
  rw [hks]
  exact run_fnk (us := [.ref a]) (vs := [.ref a]) F hr hb hx I2 (.cons rfl .nil) rz q2
/-! ### {k: v}, k a tuple -/
def tDisp1T (tk tv : TE) : TE := fun σ H Q => ∀ p, H p = none → tk σ (upd H p (.dT [])) fun x H1 => tv σ H1 fun y H2 => H2 p = some (.dT []) ∧ ∃ (b : Addr) (q : List Key), x = .ref b ∧ H2 b = some (.tup (q.map kV)) ∧ Q (.ref p) (upd H2 p (.dT [(q, y)]))
theorem pe_disp1T {X : Cx} {pos : Pos} {k v : Expr} {tk tv : TE} (hu : X.A.units < cLine) (hk : PE X k tk) (hv : PE X v tv) : PE X (.Dict [some k] [v] pos) (tDisp1T tk tv) := by
  refine ⟨fun pins s σ H Q I q => ?_⟩
  have hn := I.hok.fresh (Nat.le_refl s.heap.objs.size)
  have I1 := I.laid (a := s.heap.objs.size) (o := .dT []) (h' := s.heap.push { cls := .type "dict", data := .dict #[] }) (t' := s.toks) (fun _ _ q => Heap.get?_push_of_some _ q) (Nat.le_refl _) (dt_empty s.heap I.big)
  have h : PPs X pos [some k] [v] [(tk, tv)] := pps_cons hk hv pps_nil
  let Qp : List (V × V) → Hp → Prop := fun ps H2 => match ps with
    | [(x, y)] => H2 s.heap.objs.size = some (.dT []) ∧ ∃ (b : Addr) (q : List Key), x = .ref b ∧ H2 b = some (.tup (q.map kV)) ∧ Q (.ref s.heap.objs.size) (upd H2 s.heap.objs.size (.dT [(q, y)]))
    | _ => False
  have rd : tPairs [(tk, tv)] σ (upd H s.heap.objs.size (.dT [])) Qp := q _ hn
  rw [arm_eval_Dict, zip_pairTrees [some k] [v] X.env pos rfl rfl, dictDisplay_pairs _ (by simp [pairTrees]) (by show 1 < 17; decide)]
  refine wpAny_bind (wpAny_standAt (wpAny_bind ?_))
  unfold subDict
  refine wpAny_bind (wpAny_alloc ?_)
  refine wpAny_bind (wpAny_holding ?_)
  rw [if_pos (by show 1 ≤ 15; decide)]
  refine wpAny_bind (thn (h.run pins _ σ _ _ I1 rd) fun ws s2 ⟨ps, H2, I2, rel, qp⟩ => ?_)
  obtain ⟨b, qk, y, ep, e, eb, q2⟩ : ∃ (b : Addr) (qk : List Key) (y : V), ps = [(.ref b, y)] ∧ H2 s.heap.objs.size = some (.dT []) ∧ H2 b = some (.tup (qk.map kV)) ∧ Q (.ref s.heap.objs.size) (upd H2 s.heap.objs.size (.dT [(qk, y)])) := by
    match ps, qp with
    | [(x, y)], qp =>
      obtain ⟨e, b, qk, rfl, eb, q2⟩ := qp
      exact ⟨b, qk, y, rfl, e, eb, q2⟩
  subst ep
  obtain ⟨u, r, rfl, hur⟩ : ∃ u r, ws = [(u, r)] ∧ RelV (.ref b) u ∧ RelV y r := by
    cases rel with
    | cons h t =>
      cases t
      exact ⟨_, _, rfl, h⟩
  obtain ⟨ru, rr⟩ := hur
  obtain rfl : u = Value.ref b := ru
  refine wpAny_holding ?_
  rw [List.forIn_cons]
  obtain ⟨z, hd, xs, rel2, dd⟩ := dt_of I2.hok e
  have hx : xs = [] := by
    cases rel2
    rfl
  subst hx
  refine wpAny_bind (wpAny_bind (wpAny_bind (wpAny_dictSet_heap (hsz := Nat.zero_le _) (knd := tupleKind (mixKind X.prog X.w)) (show X.A.units < cLine from hu) (key_of I2.hok eb) dd fun h' dd' hs => wpAny_pure ?_)))
  show wpAny _ _ (forIn ([] : List (Value × Value)) PUnit.unit _) _ _ _
  rw [List.forIn_nil]
  refine wpAny_pure (wpAny_pure (wpAny_pure (wpAny_pure ?_)))
  obtain ⟨qo, es, ep, hq, h2, h3, h4, _, h5⟩ := dd'
  refine ⟨.ref s.heap.objs.size, _, ?_, rfl, q2⟩
  refine d_write I2 (by rw [e]; exact True.intro) hs ⟨qo, hq⟩ ⟨by show 1 ≤ sizeLine; decide, hd, _, (KT.put rel2 qk eb rr).keeps fun c ys ec => ?_, qo, es, ep, hq, h2, h3, h4, h5⟩
  rw [upd_ne (ne_of ec e (fun z => nomatch z))]
  exact ec
end Bw
set_option Elab.async false
set_option linter.all false
set_option maxRecDepth 100000
namespace Bw
open PySem PySem.Spec PyProof.Rows L2
def topS (i : Nat) : Stmt := PySem.Challenge.pw_budwright_k11_whole_barred_or_weighed.main.body.getD i (.Pass ⟨0, 0, 0, 0⟩)
structure Tx (mg : Str → Option Value) : Prop where
  len : mg "len" = none
  range : mg "range" = none
  zip : mg "zip" = none
  abs : mg "abs" = none
  all : mg "all" = none
  any : mg "any" = none
  max : mg "max" = none
  min : mg "min" = none
  sorted : mg "sorted" = none
  isinstance : mg "isinstance" = none
  int : mg "int" = none
  bool : mg "bool" = none
  tuple : mg "tuple" = none
  list : mg "list" = none
  dict : mg "dict" = none
  str : mg "str" = none
  ValueError : mg "ValueError" = none
  MOST_TIE : ∃ t, mg "MOST_TIE" = some (.int 50 t)
  MOST_BUDS : ∃ t, mg "MOST_BUDS" = some (.int 4 t)
  MOST_ROOTS : ∃ t, mg "MOST_ROOTS" = some (.int 4 t)
  MOST_WALK : ∃ t, mg "MOST_WALK" = some (.int 60 t)
  WIDE : ∃ t, mg "WIDE" = some (.int 400 t)
  IndexError : mg "IndexError" = none
  enumerate : mg "enumerate" = none
end Bw
set_option Elab.async false
set_option linter.all false
set_option maxRecDepth 100000
set_option maxHeartbeats 0
namespace Hd
open PySem PySem.W PySem.Calls PyProof.Rows L2
abbrev Rw : OpenRow := OpenLaw.row PySem.Challenge.rw_budwright_k11_whole_barred_or_weighed
abbrev S (x : String) : PySem.Str := PySem.Str.ofString x
abbrev R (a : Nat) : Value := Value.ref a
abbrev E (P : Params) (x : String) (t : Nat) (v : Value) : DictEntry := DictEntry.mk (PyData.keyHash P (PySem.Str.ofString x)) (Value.str (PySem.Str.ofString x) t) v
abbrev T (i : Nat) : Stmt := Bw.topS i
abbrev M (i j : Nat) : Stmt := inClass (Bw.topS i) j
abbrev o2 (P : Params) : Obj := Obj.mk Value.none none (Data.dict (List.toArray [E P "type.__subclasses__.ZeroDivisionError.0" 466 (Value.int (Int.ofNat 229) 0), E P "type.__subclasses__.ZeroDivisionError.n" 467 (Value.int (Int.ofNat 1) 0), E P "type.__subclasses__.IndexError.0" 496 (Value.int (Int.ofNat 249) 0), E P "type.__subclasses__.IndexError.n" 497 (Value.int (Int.ofNat 1) 0)]) 4) (List.toArray [])
abbrev o3 (P : Params) : Obj := Obj.mk (Value.type "dict") none (Data.dict (List.toArray [E P "__name__" 165 (Value.str (S "law_budwright_k11_whole_barred_or_weighed") 1801), E P "__doc__" 166 Value.none, E P "__package__" 167 Value.none, E P "__loader__" 168 (Value.builtin "__main__.__loader__#opaque"), E P "__spec__" 169 Value.none, E P "__annotations__" 170 (R 6), E P "__builtins__" 171 (R 4), E P "__file__" 173 (Value.str (S "/claim/cut.py") 172), E P "__cached__" 174 Value.none, E P "_wall" 193 (R 21), E P "BudError" 222 (R 38), E P "BadSum" 245 (R 58), E P "BadTable" 268 (R 77), E P "Uneven" 293 (R 96), E P "Great" 316 (R 115), E P "Held" 341 (R 134), E P "BadOrder" 364 (R 153), E P "Mixed" 387 (R 172), E P "Endless" 416 (R 191), E P "Full" 441 (R 210), E P "NoPart" 469 (R 229), E P "NoPlace" 499 (R 249), E P "Lacking" 528 (R 269), E P "NothingLeft" 554 (R 289), E P "CHUNK_FIGURES" 558 (Value.int (Int.ofNat 64) 557), E P "CHUNK" 562 (Value.int (Int.ofNat 10000000000000000000000000000000000000000000000000000000000000000) 561), E P "is_number" 569 (R 299), E P "whole_text" 578 (R 306), E P "row_text" 584 (R 311), E P "rows_text" 590 (R 316), E P "common" 600 (R 323), E P "power_of" 609 (R 330), E P "lowest_terms" 619 (R 337), E P "MOST_TIE" 623 (Value.int (Int.ofNat 50) 622), E P "MOST_BUDS" 625 (Value.int (Int.ofNat 4) 624), E P "MOST_ROOTS" 627 (Value.int (Int.ofNat 4) 626), E P "is_row" 633 (R 342), E P "check_form" 639 (R 347), E P "check_table" 647 (R 354), E P "check_bud" 655 (R 361), E P "check_order" 661 (R 366), E P "bud_count" 668 (R 373), E P "unlike_rows" 674 (R 378), E P "pair_bars" 685 (R 385), E P "ring_bars" 697 (R 392), E P "barred" 708 (R 399), E P "lot_weights" 714 (R 404), E P "weights" 720 (R 409), E P "weights_tables" 721 (R 409), E P "turned_row" 727 (R 414), E P "turned_table" 733 (R 419), E P "turned" 741 (R 426), E P "reordered" 747 (R 431), E P "beside" 753 (R 436), E P "unit_rows" 759 (R 441), E P "principal" 767 (R 448), E P "opposite" 773 (R 453), E P "table_text" 780 (R 460), E P "COUNTS" 823 (R 461), E P "ENDLESS_TIES" 826 (Value.int (Int.negSucc 3) 825), E P "tied_pairs" 832 (R 476), E P "endless_pair" 841 (R 483), E P "lot_of" 847 (R 488), E P "lots" 853 (R 493), E P "family" 859 (R 498), E P "lot_letter" 865 (R 503), E P "finite_told" 875 (R 510), E P "add_turned" 886 (R 517), E P "kind" 892 (R 522), E P "is_bud" 900 (R 529), E P "rows_behind" 909 (R 536), E P "endless_holds" 920 (R 543), E P "first_seed" 930 (R 550), E P "sign_of" 937 (R 557), E P "minus" 943 (R 562), E P "added_often" 949 (R 567), E P "turned_hues" 955 (R 572), E P "fresh_lean" 969 (R 579), E P "turned_leans" 979 (R 586), E P "turned_seed" 990 (R 593), E P "is_number_below" 1000 (R 600), E P "fallen_seed" 1006 (R 605), E P "draw_exchange" 1022 (R 612), E P "drawn_rows" 1028 (R 617), E P "distances" 1041 (R 624), E P "WebMap" 1128 (R 693), E P "map_holds" 1134 (R 702), E P "added_powers" 1142 (R 707), E P "lessened_powers" 1148 (R 712), E P "gathered" 1154 (R 717), E P "lowest_powers" 1160 (R 722), E P "highest_powers" 1166 (R 727), E P "multiplied" 1172 (R 732), E P "multiplied_within" 1187 (R 739), E P "taken_off" 1201 (R 746), E P "quotient" 1207 (R 751), E P "weighed" 1213 (R 756), E P "worth_at" 1219 (R 761), E P "LETTERS" 1223 (Value.str (S "abcdefghijklmnopqrstuvwxyz") 1222), E P "letters_text" 1233 (R 768), E P "product_text" 1242 (R 775), E P "sum_pieces" 1252 (R 782), E P "WIDE" 1256 (Value.int (Int.ofNat 400) 1255), E P "Sum" 1405 (R 907), E P "check_width" 1413 (R 918), E P "letter" 1421 (R 924), E P "constant" 1429 (R 931), E P "MOST_TERMS" 1433 (Value.int (Int.ofNat 100) 1432), E P "MOST_WALK" 1435 (Value.int (Int.ofNat 60) 1434), E P "first_sums" 1441 (R 936), E P "side_products" 1453 (R 943), E P "new_bud" 1459 (R 948), E P "exchanged" 1468 (R 955), E P "Web" 1663 (R 1119), E P "GREAT_WORTH" 1669 (Value.int (Int.ofNat 1000000000000000000000000000000000000000000000000000000000000) 1668), E P "RING_LENGTHS" 1685 (R 1124), E P "inner_sum" 1691 (R 1129), E P "inner" 1697 (R 1134), E P "replaced_powers" 1703 (R 1139), E P "parted" 1709 (R 1144), E P "side_worth" 1721 (R 1151), E P "new_worth" 1727 (R 1156), E P "worth_step" 1738 (R 1163), E P "walked" 1750 (R 1170), E P "side_total" 1756 (R 1175), E P "leaned" 1763 (R 1181), E P "frieze" 1769 (R 1186), E P "belt_round" 1775 (R 1191), E P "belt" 1791 (R 1199), E P "ring_length" 1800 (R 1206), E P "_law_feed" 1809 (R 1213), E P "_law_draw" 1820 (R 1220), E P "_law_pick" 1828 (R 1227), E P "_law_word" 1836 (R 1234), E P "_law_gcd" 1844 (R 1241), E P "_law_even" 1850 (R 1246), E P "_law_roots" 1856 (R 1251), E P "_law_is_bar" 1862 (R 1256), E P "_law_other_doors" 1871 (R 1263), E P "_law_all_refuse" 1882 (R 1270), E P "law" 1888 (R 1275)]) 141) (List.toArray [])
abbrev o15 (P : Params) : Obj := Obj.mk (Value.type "tuple") none (Data.seq (List.toArray []) 0) (List.toArray [])
abbrev o17 (P : Params) : Obj := Obj.mk (Value.type "tuple") none (Data.seq (List.toArray [(Value.str (S "k") 190)]) 0) (List.toArray [])
abbrev o18 (P : Params) : Obj := Obj.mk (Value.type "tuple") none (Data.seq (List.toArray []) 0) (List.toArray [])
abbrev o20 (P : Params) : Obj := Obj.mk (Value.type "code") none (Data.fields (List.toArray [(Value.str (S "_wall") 187), (Value.str (S "_wall") 188), (Value.str (S "/claim/cut.py") 189), (Value.int (Int.ofNat 1) 0), (Value.int (Int.ofNat 1) 0), (Value.int (Int.ofNat 0) 0), (Value.int (Int.ofNat 0) 0), (Value.int (Int.ofNat 3) 0), (R 15), (Value.bool true), (Value.int (Int.ofNat 181) 0), (R 16), Value.none, (R 17), (R 18), (R 19), (Value.int (Int.ofNat 191) 0), (Value.int (Int.ofNat 1) 0), (Value.str (S "/claim/cut.py") 192)])) (List.toArray [])
abbrev o21 (P : Params) : Obj := Obj.mk (Value.type "function") none (Data.func (FuncData.mk (S "_wall") (S "_wall") (defArgs (T 0)) (FuncBody.stmts (defBody (T 0))) (defScope (T 0)) 3 [] Value.none Value.none Value.none (Value.str (S "__main__") 164) none (R 20) Value.none 0)) (List.toArray [])
abbrev o22 (P : Params) : Obj := Obj.mk (Value.type "tuple") none (Data.seq (List.toArray [(Value.type "ValueError")]) 0) (List.toArray [])
abbrev o29 (P : Params) : Obj := Obj.mk (Value.type "tuple") none (Data.seq (List.toArray []) 0) (List.toArray [])
abbrev o31 (P : Params) : Obj := Obj.mk (Value.type "tuple") none (Data.seq (List.toArray [(Value.str (S "self") 211), (Value.str (S "word") 212)]) 0) (List.toArray [])
abbrev o32 (P : Params) : Obj := Obj.mk (Value.type "tuple") none (Data.seq (List.toArray []) 0) (List.toArray [])
abbrev o34 (P : Params) : Obj := Obj.mk (Value.type "code") none (Data.fields (List.toArray [(Value.str (S "__init__") 208), (Value.str (S "BudError.__init__") 209), (Value.str (S "/claim/cut.py") 210), (Value.int (Int.ofNat 7) 0), (Value.int (Int.ofNat 2) 0), (Value.int (Int.ofNat 0) 0), (Value.int (Int.ofNat 0) 0), (Value.int (Int.ofNat 3) 0), (R 29), (Value.bool true), (Value.int (Int.ofNat 181) 0), (R 30), Value.none, (R 31), (R 32), (R 33), (Value.int (Int.ofNat 213) 0), (Value.int (Int.ofNat 7) 0), (Value.str (S "/claim/cut.py") 214)])) (List.toArray [])
abbrev o35 (P : Params) : Obj := Obj.mk (Value.type "function") none (Data.func (FuncData.mk (S "__init__") (S "BudError.__init__") (defArgs (M 2 0)) (FuncBody.stmts (defBody (M 2 0))) (defScope (M 2 0)) 3 [] Value.none Value.none Value.none (Value.str (S "budwright.errors") 194) none (R 34) Value.none 0)) (List.toArray [])
abbrev o36 (P : Params) : Obj := Obj.mk (Value.type "tuple") none (Data.seq (List.toArray [(Value.str (S "word") 216)]) 0) (List.toArray [])
abbrev o37 (P : Params) : Obj := Obj.mk (Value.type "dict") none (Data.dict (List.toArray [E P "__module__" 203 (Value.str (S "budwright.errors") 194), E P "__firstlineno__" 207 (Value.int (Int.ofNat 5) 206), E P "__init__" 215 (R 35), E P "__static_attributes__" 217 (R 36), E P "__weakref__" 219 (R 39), E P "__doc__" 220 Value.none]) 3) (List.toArray [])
abbrev o38 (P : Params) : Obj := Obj.mk (Value.type "type") none (Data.cls (ClassData.mk (S "BudError") [(Value.type "ValueError")] [(R 38), (Value.type "ValueError"), (Value.type "Exception"), (Value.type "BaseException"), (Value.type "object")] 37 (S "BudError") true [] [(R 58), (R 77), (R 96), (R 115), (R 134), (R 153), (R 172), (R 191), (R 210)] false none false)) (List.toArray [(some (R 22)), none, (some (Value.str (S "BudError") 196)), (some (Value.str (S "BudError") 204)), (some (Value.builtin "ValueError.__new__")), (some (Value.bool true))])
abbrev o39 (P : Params) : Obj := Obj.mk (Value.type "getset_descriptor") none (Data.fields (List.toArray [(Value.str (S "__weakref__") 218), (R 38), (Value.builtin "ExceptionGroup.__weakref__"), Value.none])) (List.toArray [])
abbrev o42 (P : Params) : Obj := Obj.mk (Value.type "tuple") none (Data.seq (List.toArray [(R 38)]) 0) (List.toArray [])
abbrev o49 (P : Params) : Obj := Obj.mk (Value.type "tuple") none (Data.seq (List.toArray []) 0) (List.toArray [])
abbrev o51 (P : Params) : Obj := Obj.mk (Value.type "tuple") none (Data.seq (List.toArray [(Value.str (S "self") 238)]) 0) (List.toArray [])
abbrev o52 (P : Params) : Obj := Obj.mk (Value.type "tuple") none (Data.seq (List.toArray []) 0) (List.toArray [])
abbrev o54 (P : Params) : Obj := Obj.mk (Value.type "code") none (Data.fields (List.toArray [(Value.str (S "__init__") 235), (Value.str (S "BadSum.__init__") 236), (Value.str (S "/claim/cut.py") 237), (Value.int (Int.ofNat 12) 0), (Value.int (Int.ofNat 1) 0), (Value.int (Int.ofNat 0) 0), (Value.int (Int.ofNat 0) 0), (Value.int (Int.ofNat 3) 0), (R 49), (Value.bool true), (Value.int (Int.ofNat 181) 0), (R 50), Value.none, (R 51), (R 52), (R 53), (Value.int (Int.ofNat 239) 0), (Value.int (Int.ofNat 12) 0), (Value.str (S "/claim/cut.py") 240)])) (List.toArray [])
abbrev o55 (P : Params) : Obj := Obj.mk (Value.type "function") none (Data.func (FuncData.mk (S "__init__") (S "BadSum.__init__") (defArgs (M 3 0)) (FuncBody.stmts (defBody (M 3 0))) (defScope (M 3 0)) 3 [] Value.none Value.none Value.none (Value.str (S "budwright.errors") 194) none (R 54) Value.none 0)) (List.toArray [])
abbrev o56 (P : Params) : Obj := Obj.mk (Value.type "tuple") none (Data.seq (List.toArray []) 0) (List.toArray [])
abbrev o57 (P : Params) : Obj := Obj.mk (Value.type "dict") none (Data.dict (List.toArray [E P "__module__" 230 (Value.str (S "budwright.errors") 194), E P "__firstlineno__" 234 (Value.int (Int.ofNat 10) 233), E P "__init__" 241 (R 55), E P "__static_attributes__" 242 (R 56), E P "__doc__" 243 Value.none]) 2) (List.toArray [])
abbrev o58 (P : Params) : Obj := Obj.mk (Value.type "type") none (Data.cls (ClassData.mk (S "BadSum") [(R 38)] [(R 58), (R 38), (Value.type "ValueError"), (Value.type "Exception"), (Value.type "BaseException"), (Value.type "object")] 57 (S "BadSum") true [] [] false none false)) (List.toArray [(some (R 42)), none, (some (Value.str (S "BadSum") 223)), (some (Value.str (S "BadSum") 231)), (some (Value.builtin "ValueError.__new__")), (some (Value.bool true))])
abbrev o61 (P : Params) : Obj := Obj.mk (Value.type "tuple") none (Data.seq (List.toArray [(R 38)]) 0) (List.toArray [])
abbrev o68 (P : Params) : Obj := Obj.mk (Value.type "tuple") none (Data.seq (List.toArray []) 0) (List.toArray [])
abbrev o70 (P : Params) : Obj := Obj.mk (Value.type "tuple") none (Data.seq (List.toArray [(Value.str (S "self") 261)]) 0) (List.toArray [])
abbrev o71 (P : Params) : Obj := Obj.mk (Value.type "tuple") none (Data.seq (List.toArray []) 0) (List.toArray [])
abbrev o73 (P : Params) : Obj := Obj.mk (Value.type "code") none (Data.fields (List.toArray [(Value.str (S "__init__") 258), (Value.str (S "BadTable.__init__") 259), (Value.str (S "/claim/cut.py") 260), (Value.int (Int.ofNat 16) 0), (Value.int (Int.ofNat 1) 0), (Value.int (Int.ofNat 0) 0), (Value.int (Int.ofNat 0) 0), (Value.int (Int.ofNat 3) 0), (R 68), (Value.bool true), (Value.int (Int.ofNat 181) 0), (R 69), Value.none, (R 70), (R 71), (R 72), (Value.int (Int.ofNat 262) 0), (Value.int (Int.ofNat 16) 0), (Value.str (S "/claim/cut.py") 263)])) (List.toArray [])
abbrev o74 (P : Params) : Obj := Obj.mk (Value.type "function") none (Data.func (FuncData.mk (S "__init__") (S "BadTable.__init__") (defArgs (M 4 0)) (FuncBody.stmts (defBody (M 4 0))) (defScope (M 4 0)) 3 [] Value.none Value.none Value.none (Value.str (S "budwright.errors") 194) none (R 73) Value.none 0)) (List.toArray [])
abbrev o75 (P : Params) : Obj := Obj.mk (Value.type "tuple") none (Data.seq (List.toArray []) 0) (List.toArray [])
abbrev o76 (P : Params) : Obj := Obj.mk (Value.type "dict") none (Data.dict (List.toArray [E P "__module__" 253 (Value.str (S "budwright.errors") 194), E P "__firstlineno__" 257 (Value.int (Int.ofNat 14) 256), E P "__init__" 264 (R 74), E P "__static_attributes__" 265 (R 75), E P "__doc__" 266 Value.none]) 2) (List.toArray [])
abbrev o77 (P : Params) : Obj := Obj.mk (Value.type "type") none (Data.cls (ClassData.mk (S "BadTable") [(R 38)] [(R 77), (R 38), (Value.type "ValueError"), (Value.type "Exception"), (Value.type "BaseException"), (Value.type "object")] 76 (S "BadTable") true [] [] false none false)) (List.toArray [(some (R 61)), none, (some (Value.str (S "BadTable") 246)), (some (Value.str (S "BadTable") 254)), (some (Value.builtin "ValueError.__new__")), (some (Value.bool true))])
abbrev o80 (P : Params) : Obj := Obj.mk (Value.type "tuple") none (Data.seq (List.toArray [(R 38)]) 0) (List.toArray [])
abbrev o87 (P : Params) : Obj := Obj.mk (Value.type "tuple") none (Data.seq (List.toArray []) 0) (List.toArray [])
abbrev o89 (P : Params) : Obj := Obj.mk (Value.type "tuple") none (Data.seq (List.toArray [(Value.str (S "self") 284), (Value.str (S "ring") 285)]) 0) (List.toArray [])
abbrev o90 (P : Params) : Obj := Obj.mk (Value.type "tuple") none (Data.seq (List.toArray []) 0) (List.toArray [])
abbrev o92 (P : Params) : Obj := Obj.mk (Value.type "code") none (Data.fields (List.toArray [(Value.str (S "__init__") 281), (Value.str (S "Uneven.__init__") 282), (Value.str (S "/claim/cut.py") 283), (Value.int (Int.ofNat 20) 0), (Value.int (Int.ofNat 2) 0), (Value.int (Int.ofNat 0) 0), (Value.int (Int.ofNat 0) 0), (Value.int (Int.ofNat 3) 0), (R 87), (Value.bool true), (Value.int (Int.ofNat 181) 0), (R 88), Value.none, (R 89), (R 90), (R 91), (Value.int (Int.ofNat 286) 0), (Value.int (Int.ofNat 20) 0), (Value.str (S "/claim/cut.py") 287)])) (List.toArray [])
abbrev o93 (P : Params) : Obj := Obj.mk (Value.type "function") none (Data.func (FuncData.mk (S "__init__") (S "Uneven.__init__") (defArgs (M 5 0)) (FuncBody.stmts (defBody (M 5 0))) (defScope (M 5 0)) 3 [] Value.none Value.none Value.none (Value.str (S "budwright.errors") 194) none (R 92) Value.none 0)) (List.toArray [])
abbrev o94 (P : Params) : Obj := Obj.mk (Value.type "tuple") none (Data.seq (List.toArray [(Value.str (S "ring") 289)]) 0) (List.toArray [])
abbrev o95 (P : Params) : Obj := Obj.mk (Value.type "dict") none (Data.dict (List.toArray [E P "__module__" 276 (Value.str (S "budwright.errors") 194), E P "__firstlineno__" 280 (Value.int (Int.ofNat 18) 279), E P "__init__" 288 (R 93), E P "__static_attributes__" 290 (R 94), E P "__doc__" 291 Value.none]) 2) (List.toArray [])
abbrev o96 (P : Params) : Obj := Obj.mk (Value.type "type") none (Data.cls (ClassData.mk (S "Uneven") [(R 38)] [(R 96), (R 38), (Value.type "ValueError"), (Value.type "Exception"), (Value.type "BaseException"), (Value.type "object")] 95 (S "Uneven") true [] [] false none false)) (List.toArray [(some (R 80)), none, (some (Value.str (S "Uneven") 269)), (some (Value.str (S "Uneven") 277)), (some (Value.builtin "ValueError.__new__")), (some (Value.bool true))])
abbrev o99 (P : Params) : Obj := Obj.mk (Value.type "tuple") none (Data.seq (List.toArray [(R 38)]) 0) (List.toArray [])
abbrev o106 (P : Params) : Obj := Obj.mk (Value.type "tuple") none (Data.seq (List.toArray []) 0) (List.toArray [])
abbrev o108 (P : Params) : Obj := Obj.mk (Value.type "tuple") none (Data.seq (List.toArray [(Value.str (S "self") 309)]) 0) (List.toArray [])
abbrev o109 (P : Params) : Obj := Obj.mk (Value.type "tuple") none (Data.seq (List.toArray []) 0) (List.toArray [])
abbrev o111 (P : Params) : Obj := Obj.mk (Value.type "code") none (Data.fields (List.toArray [(Value.str (S "__init__") 306), (Value.str (S "Great.__init__") 307), (Value.str (S "/claim/cut.py") 308), (Value.int (Int.ofNat 25) 0), (Value.int (Int.ofNat 1) 0), (Value.int (Int.ofNat 0) 0), (Value.int (Int.ofNat 0) 0), (Value.int (Int.ofNat 3) 0), (R 106), (Value.bool true), (Value.int (Int.ofNat 181) 0), (R 107), Value.none, (R 108), (R 109), (R 110), (Value.int (Int.ofNat 310) 0), (Value.int (Int.ofNat 25) 0), (Value.str (S "/claim/cut.py") 311)])) (List.toArray [])
abbrev o112 (P : Params) : Obj := Obj.mk (Value.type "function") none (Data.func (FuncData.mk (S "__init__") (S "Great.__init__") (defArgs (M 6 0)) (FuncBody.stmts (defBody (M 6 0))) (defScope (M 6 0)) 3 [] Value.none Value.none Value.none (Value.str (S "budwright.errors") 194) none (R 111) Value.none 0)) (List.toArray [])
abbrev o113 (P : Params) : Obj := Obj.mk (Value.type "tuple") none (Data.seq (List.toArray []) 0) (List.toArray [])
abbrev o114 (P : Params) : Obj := Obj.mk (Value.type "dict") none (Data.dict (List.toArray [E P "__module__" 301 (Value.str (S "budwright.errors") 194), E P "__firstlineno__" 305 (Value.int (Int.ofNat 23) 304), E P "__init__" 312 (R 112), E P "__static_attributes__" 313 (R 113), E P "__doc__" 314 Value.none]) 2) (List.toArray [])
abbrev o115 (P : Params) : Obj := Obj.mk (Value.type "type") none (Data.cls (ClassData.mk (S "Great") [(R 38)] [(R 115), (R 38), (Value.type "ValueError"), (Value.type "Exception"), (Value.type "BaseException"), (Value.type "object")] 114 (S "Great") true [] [] false none false)) (List.toArray [(some (R 99)), none, (some (Value.str (S "Great") 294)), (some (Value.str (S "Great") 302)), (some (Value.builtin "ValueError.__new__")), (some (Value.bool true))])
abbrev o118 (P : Params) : Obj := Obj.mk (Value.type "tuple") none (Data.seq (List.toArray [(R 38)]) 0) (List.toArray [])
abbrev o125 (P : Params) : Obj := Obj.mk (Value.type "tuple") none (Data.seq (List.toArray []) 0) (List.toArray [])
abbrev o127 (P : Params) : Obj := Obj.mk (Value.type "tuple") none (Data.seq (List.toArray [(Value.str (S "self") 332), (Value.str (S "place") 333)]) 0) (List.toArray [])
abbrev o128 (P : Params) : Obj := Obj.mk (Value.type "tuple") none (Data.seq (List.toArray []) 0) (List.toArray [])
abbrev o130 (P : Params) : Obj := Obj.mk (Value.type "code") none (Data.fields (List.toArray [(Value.str (S "__init__") 329), (Value.str (S "Held.__init__") 330), (Value.str (S "/claim/cut.py") 331), (Value.int (Int.ofNat 29) 0), (Value.int (Int.ofNat 2) 0), (Value.int (Int.ofNat 0) 0), (Value.int (Int.ofNat 0) 0), (Value.int (Int.ofNat 3) 0), (R 125), (Value.bool true), (Value.int (Int.ofNat 181) 0), (R 126), Value.none, (R 127), (R 128), (R 129), (Value.int (Int.ofNat 334) 0), (Value.int (Int.ofNat 29) 0), (Value.str (S "/claim/cut.py") 335)])) (List.toArray [])
abbrev o131 (P : Params) : Obj := Obj.mk (Value.type "function") none (Data.func (FuncData.mk (S "__init__") (S "Held.__init__") (defArgs (M 7 0)) (FuncBody.stmts (defBody (M 7 0))) (defScope (M 7 0)) 3 [] Value.none Value.none Value.none (Value.str (S "budwright.errors") 194) none (R 130) Value.none 0)) (List.toArray [])
abbrev o132 (P : Params) : Obj := Obj.mk (Value.type "tuple") none (Data.seq (List.toArray [(Value.str (S "place") 337)]) 0) (List.toArray [])
abbrev o133 (P : Params) : Obj := Obj.mk (Value.type "dict") none (Data.dict (List.toArray [E P "__module__" 324 (Value.str (S "budwright.errors") 194), E P "__firstlineno__" 328 (Value.int (Int.ofNat 27) 327), E P "__init__" 336 (R 131), E P "__static_attributes__" 338 (R 132), E P "__doc__" 339 Value.none]) 2) (List.toArray [])
abbrev o134 (P : Params) : Obj := Obj.mk (Value.type "type") none (Data.cls (ClassData.mk (S "Held") [(R 38)] [(R 134), (R 38), (Value.type "ValueError"), (Value.type "Exception"), (Value.type "BaseException"), (Value.type "object")] 133 (S "Held") true [] [] false none false)) (List.toArray [(some (R 118)), none, (some (Value.str (S "Held") 317)), (some (Value.str (S "Held") 325)), (some (Value.builtin "ValueError.__new__")), (some (Value.bool true))])
abbrev o137 (P : Params) : Obj := Obj.mk (Value.type "tuple") none (Data.seq (List.toArray [(R 38)]) 0) (List.toArray [])
abbrev o144 (P : Params) : Obj := Obj.mk (Value.type "tuple") none (Data.seq (List.toArray []) 0) (List.toArray [])
abbrev o146 (P : Params) : Obj := Obj.mk (Value.type "tuple") none (Data.seq (List.toArray [(Value.str (S "self") 357)]) 0) (List.toArray [])
abbrev o147 (P : Params) : Obj := Obj.mk (Value.type "tuple") none (Data.seq (List.toArray []) 0) (List.toArray [])
abbrev o149 (P : Params) : Obj := Obj.mk (Value.type "code") none (Data.fields (List.toArray [(Value.str (S "__init__") 354), (Value.str (S "BadOrder.__init__") 355), (Value.str (S "/claim/cut.py") 356), (Value.int (Int.ofNat 34) 0), (Value.int (Int.ofNat 1) 0), (Value.int (Int.ofNat 0) 0), (Value.int (Int.ofNat 0) 0), (Value.int (Int.ofNat 3) 0), (R 144), (Value.bool true), (Value.int (Int.ofNat 181) 0), (R 145), Value.none, (R 146), (R 147), (R 148), (Value.int (Int.ofNat 358) 0), (Value.int (Int.ofNat 34) 0), (Value.str (S "/claim/cut.py") 359)])) (List.toArray [])
abbrev o150 (P : Params) : Obj := Obj.mk (Value.type "function") none (Data.func (FuncData.mk (S "__init__") (S "BadOrder.__init__") (defArgs (M 8 0)) (FuncBody.stmts (defBody (M 8 0))) (defScope (M 8 0)) 3 [] Value.none Value.none Value.none (Value.str (S "budwright.errors") 194) none (R 149) Value.none 0)) (List.toArray [])
abbrev o151 (P : Params) : Obj := Obj.mk (Value.type "tuple") none (Data.seq (List.toArray []) 0) (List.toArray [])
abbrev o152 (P : Params) : Obj := Obj.mk (Value.type "dict") none (Data.dict (List.toArray [E P "__module__" 349 (Value.str (S "budwright.errors") 194), E P "__firstlineno__" 353 (Value.int (Int.ofNat 32) 352), E P "__init__" 360 (R 150), E P "__static_attributes__" 361 (R 151), E P "__doc__" 362 Value.none]) 2) (List.toArray [])
abbrev o153 (P : Params) : Obj := Obj.mk (Value.type "type") none (Data.cls (ClassData.mk (S "BadOrder") [(R 38)] [(R 153), (R 38), (Value.type "ValueError"), (Value.type "Exception"), (Value.type "BaseException"), (Value.type "object")] 152 (S "BadOrder") true [] [] false none false)) (List.toArray [(some (R 137)), none, (some (Value.str (S "BadOrder") 342)), (some (Value.str (S "BadOrder") 350)), (some (Value.builtin "ValueError.__new__")), (some (Value.bool true))])
abbrev o156 (P : Params) : Obj := Obj.mk (Value.type "tuple") none (Data.seq (List.toArray [(R 38)]) 0) (List.toArray [])
abbrev o163 (P : Params) : Obj := Obj.mk (Value.type "tuple") none (Data.seq (List.toArray []) 0) (List.toArray [])
abbrev o165 (P : Params) : Obj := Obj.mk (Value.type "tuple") none (Data.seq (List.toArray [(Value.str (S "self") 380)]) 0) (List.toArray [])
abbrev o166 (P : Params) : Obj := Obj.mk (Value.type "tuple") none (Data.seq (List.toArray []) 0) (List.toArray [])
abbrev o168 (P : Params) : Obj := Obj.mk (Value.type "code") none (Data.fields (List.toArray [(Value.str (S "__init__") 377), (Value.str (S "Mixed.__init__") 378), (Value.str (S "/claim/cut.py") 379), (Value.int (Int.ofNat 38) 0), (Value.int (Int.ofNat 1) 0), (Value.int (Int.ofNat 0) 0), (Value.int (Int.ofNat 0) 0), (Value.int (Int.ofNat 3) 0), (R 163), (Value.bool true), (Value.int (Int.ofNat 181) 0), (R 164), Value.none, (R 165), (R 166), (R 167), (Value.int (Int.ofNat 381) 0), (Value.int (Int.ofNat 38) 0), (Value.str (S "/claim/cut.py") 382)])) (List.toArray [])
abbrev o169 (P : Params) : Obj := Obj.mk (Value.type "function") none (Data.func (FuncData.mk (S "__init__") (S "Mixed.__init__") (defArgs (M 9 0)) (FuncBody.stmts (defBody (M 9 0))) (defScope (M 9 0)) 3 [] Value.none Value.none Value.none (Value.str (S "budwright.errors") 194) none (R 168) Value.none 0)) (List.toArray [])
abbrev o170 (P : Params) : Obj := Obj.mk (Value.type "tuple") none (Data.seq (List.toArray []) 0) (List.toArray [])
abbrev o171 (P : Params) : Obj := Obj.mk (Value.type "dict") none (Data.dict (List.toArray [E P "__module__" 372 (Value.str (S "budwright.errors") 194), E P "__firstlineno__" 376 (Value.int (Int.ofNat 36) 375), E P "__init__" 383 (R 169), E P "__static_attributes__" 384 (R 170), E P "__doc__" 385 Value.none]) 2) (List.toArray [])
abbrev o172 (P : Params) : Obj := Obj.mk (Value.type "type") none (Data.cls (ClassData.mk (S "Mixed") [(R 38)] [(R 172), (R 38), (Value.type "ValueError"), (Value.type "Exception"), (Value.type "BaseException"), (Value.type "object")] 171 (S "Mixed") true [] [] false none false)) (List.toArray [(some (R 156)), none, (some (Value.str (S "Mixed") 365)), (some (Value.str (S "Mixed") 373)), (some (Value.builtin "ValueError.__new__")), (some (Value.bool true))])
abbrev o175 (P : Params) : Obj := Obj.mk (Value.type "tuple") none (Data.seq (List.toArray [(R 38)]) 0) (List.toArray [])
abbrev o182 (P : Params) : Obj := Obj.mk (Value.type "tuple") none (Data.seq (List.toArray []) 0) (List.toArray [])
abbrev o184 (P : Params) : Obj := Obj.mk (Value.type "tuple") none (Data.seq (List.toArray [(Value.str (S "self") 403), (Value.str (S "steps") 404), (Value.str (S "one") 405), (Value.str (S "other") 406)]) 0) (List.toArray [])
abbrev o185 (P : Params) : Obj := Obj.mk (Value.type "tuple") none (Data.seq (List.toArray []) 0) (List.toArray [])
abbrev o187 (P : Params) : Obj := Obj.mk (Value.type "code") none (Data.fields (List.toArray [(Value.str (S "__init__") 400), (Value.str (S "Endless.__init__") 401), (Value.str (S "/claim/cut.py") 402), (Value.int (Int.ofNat 42) 0), (Value.int (Int.ofNat 4) 0), (Value.int (Int.ofNat 0) 0), (Value.int (Int.ofNat 0) 0), (Value.int (Int.ofNat 3) 0), (R 182), (Value.bool true), (Value.int (Int.ofNat 181) 0), (R 183), Value.none, (R 184), (R 185), (R 186), (Value.int (Int.ofNat 407) 0), (Value.int (Int.ofNat 42) 0), (Value.str (S "/claim/cut.py") 408)])) (List.toArray [])
abbrev o188 (P : Params) : Obj := Obj.mk (Value.type "function") none (Data.func (FuncData.mk (S "__init__") (S "Endless.__init__") (defArgs (M 10 0)) (FuncBody.stmts (defBody (M 10 0))) (defScope (M 10 0)) 3 [] Value.none Value.none Value.none (Value.str (S "budwright.errors") 194) none (R 187) Value.none 0)) (List.toArray [])
abbrev o189 (P : Params) : Obj := Obj.mk (Value.type "tuple") none (Data.seq (List.toArray [(Value.str (S "one") 410), (Value.str (S "other") 411), (Value.str (S "steps") 412)]) 0) (List.toArray [])
abbrev o190 (P : Params) : Obj := Obj.mk (Value.type "dict") none (Data.dict (List.toArray [E P "__module__" 395 (Value.str (S "budwright.errors") 194), E P "__firstlineno__" 399 (Value.int (Int.ofNat 40) 398), E P "__init__" 409 (R 188), E P "__static_attributes__" 413 (R 189), E P "__doc__" 414 Value.none]) 2) (List.toArray [])
abbrev o191 (P : Params) : Obj := Obj.mk (Value.type "type") none (Data.cls (ClassData.mk (S "Endless") [(R 38)] [(R 191), (R 38), (Value.type "ValueError"), (Value.type "Exception"), (Value.type "BaseException"), (Value.type "object")] 190 (S "Endless") true [] [] false none false)) (List.toArray [(some (R 175)), none, (some (Value.str (S "Endless") 388)), (some (Value.str (S "Endless") 396)), (some (Value.builtin "ValueError.__new__")), (some (Value.bool true))])
abbrev o194 (P : Params) : Obj := Obj.mk (Value.type "tuple") none (Data.seq (List.toArray [(R 38)]) 0) (List.toArray [])
abbrev o201 (P : Params) : Obj := Obj.mk (Value.type "tuple") none (Data.seq (List.toArray []) 0) (List.toArray [])
abbrev o203 (P : Params) : Obj := Obj.mk (Value.type "tuple") none (Data.seq (List.toArray [(Value.str (S "self") 432), (Value.str (S "most") 433)]) 0) (List.toArray [])
abbrev o204 (P : Params) : Obj := Obj.mk (Value.type "tuple") none (Data.seq (List.toArray []) 0) (List.toArray [])
abbrev o206 (P : Params) : Obj := Obj.mk (Value.type "code") none (Data.fields (List.toArray [(Value.str (S "__init__") 429), (Value.str (S "Full.__init__") 430), (Value.str (S "/claim/cut.py") 431), (Value.int (Int.ofNat 49) 0), (Value.int (Int.ofNat 2) 0), (Value.int (Int.ofNat 0) 0), (Value.int (Int.ofNat 0) 0), (Value.int (Int.ofNat 3) 0), (R 201), (Value.bool true), (Value.int (Int.ofNat 181) 0), (R 202), Value.none, (R 203), (R 204), (R 205), (Value.int (Int.ofNat 434) 0), (Value.int (Int.ofNat 49) 0), (Value.str (S "/claim/cut.py") 435)])) (List.toArray [])
abbrev o207 (P : Params) : Obj := Obj.mk (Value.type "function") none (Data.func (FuncData.mk (S "__init__") (S "Full.__init__") (defArgs (M 11 0)) (FuncBody.stmts (defBody (M 11 0))) (defScope (M 11 0)) 3 [] Value.none Value.none Value.none (Value.str (S "budwright.errors") 194) none (R 206) Value.none 0)) (List.toArray [])
abbrev o208 (P : Params) : Obj := Obj.mk (Value.type "tuple") none (Data.seq (List.toArray [(Value.str (S "most") 437)]) 0) (List.toArray [])
abbrev o209 (P : Params) : Obj := Obj.mk (Value.type "dict") none (Data.dict (List.toArray [E P "__module__" 424 (Value.str (S "budwright.errors") 194), E P "__firstlineno__" 428 (Value.int (Int.ofNat 47) 427), E P "__init__" 436 (R 207), E P "__static_attributes__" 438 (R 208), E P "__doc__" 439 Value.none]) 2) (List.toArray [])
abbrev o210 (P : Params) : Obj := Obj.mk (Value.type "type") none (Data.cls (ClassData.mk (S "Full") [(R 38)] [(R 210), (R 38), (Value.type "ValueError"), (Value.type "Exception"), (Value.type "BaseException"), (Value.type "object")] 209 (S "Full") true [] [] false none false)) (List.toArray [(some (R 194)), none, (some (Value.str (S "Full") 417)), (some (Value.str (S "Full") 425)), (some (Value.builtin "ValueError.__new__")), (some (Value.bool true))])
abbrev o213 (P : Params) : Obj := Obj.mk (Value.type "tuple") none (Data.seq (List.toArray [(Value.type "ZeroDivisionError")]) 0) (List.toArray [])
abbrev o220 (P : Params) : Obj := Obj.mk (Value.type "tuple") none (Data.seq (List.toArray []) 0) (List.toArray [])
abbrev o222 (P : Params) : Obj := Obj.mk (Value.type "tuple") none (Data.seq (List.toArray [(Value.str (S "self") 457)]) 0) (List.toArray [])
abbrev o223 (P : Params) : Obj := Obj.mk (Value.type "tuple") none (Data.seq (List.toArray []) 0) (List.toArray [])
abbrev o225 (P : Params) : Obj := Obj.mk (Value.type "code") none (Data.fields (List.toArray [(Value.str (S "__init__") 454), (Value.str (S "NoPart.__init__") 455), (Value.str (S "/claim/cut.py") 456), (Value.int (Int.ofNat 54) 0), (Value.int (Int.ofNat 1) 0), (Value.int (Int.ofNat 0) 0), (Value.int (Int.ofNat 0) 0), (Value.int (Int.ofNat 3) 0), (R 220), (Value.bool true), (Value.int (Int.ofNat 181) 0), (R 221), Value.none, (R 222), (R 223), (R 224), (Value.int (Int.ofNat 458) 0), (Value.int (Int.ofNat 54) 0), (Value.str (S "/claim/cut.py") 459)])) (List.toArray [])
abbrev o226 (P : Params) : Obj := Obj.mk (Value.type "function") none (Data.func (FuncData.mk (S "__init__") (S "NoPart.__init__") (defArgs (M 12 0)) (FuncBody.stmts (defBody (M 12 0))) (defScope (M 12 0)) 3 [] Value.none Value.none Value.none (Value.str (S "budwright.errors") 194) none (R 225) Value.none 0)) (List.toArray [])
abbrev o227 (P : Params) : Obj := Obj.mk (Value.type "tuple") none (Data.seq (List.toArray [(Value.str (S "word") 461)]) 0) (List.toArray [])
abbrev o228 (P : Params) : Obj := Obj.mk (Value.type "dict") none (Data.dict (List.toArray [E P "__module__" 449 (Value.str (S "budwright.errors") 194), E P "__firstlineno__" 453 (Value.int (Int.ofNat 52) 452), E P "__init__" 460 (R 226), E P "__static_attributes__" 462 (R 227), E P "__weakref__" 464 (R 230), E P "__doc__" 465 Value.none]) 3) (List.toArray [])
abbrev o229 (P : Params) : Obj := Obj.mk (Value.type "type") none (Data.cls (ClassData.mk (S "NoPart") [(Value.type "ZeroDivisionError")] [(R 229), (Value.type "ZeroDivisionError"), (Value.type "ArithmeticError"), (Value.type "Exception"), (Value.type "BaseException"), (Value.type "object")] 228 (S "NoPart") true [] [] false none false)) (List.toArray [(some (R 213)), none, (some (Value.str (S "NoPart") 442)), (some (Value.str (S "NoPart") 450)), (some (Value.builtin "ZeroDivisionError.__new__")), (some (Value.bool true))])
abbrev o230 (P : Params) : Obj := Obj.mk (Value.type "getset_descriptor") none (Data.fields (List.toArray [(Value.str (S "__weakref__") 463), (R 229), (Value.builtin "ExceptionGroup.__weakref__"), Value.none])) (List.toArray [])
abbrev o233 (P : Params) : Obj := Obj.mk (Value.type "tuple") none (Data.seq (List.toArray [(Value.type "IndexError")]) 0) (List.toArray [])
abbrev o240 (P : Params) : Obj := Obj.mk (Value.type "tuple") none (Data.seq (List.toArray []) 0) (List.toArray [])
abbrev o242 (P : Params) : Obj := Obj.mk (Value.type "tuple") none (Data.seq (List.toArray [(Value.str (S "self") 485), (Value.str (S "place") 486)]) 0) (List.toArray [])
abbrev o243 (P : Params) : Obj := Obj.mk (Value.type "tuple") none (Data.seq (List.toArray []) 0) (List.toArray [])
abbrev o245 (P : Params) : Obj := Obj.mk (Value.type "code") none (Data.fields (List.toArray [(Value.str (S "__init__") 482), (Value.str (S "NoPlace.__init__") 483), (Value.str (S "/claim/cut.py") 484), (Value.int (Int.ofNat 59) 0), (Value.int (Int.ofNat 2) 0), (Value.int (Int.ofNat 0) 0), (Value.int (Int.ofNat 0) 0), (Value.int (Int.ofNat 3) 0), (R 240), (Value.bool true), (Value.int (Int.ofNat 181) 0), (R 241), Value.none, (R 242), (R 243), (R 244), (Value.int (Int.ofNat 487) 0), (Value.int (Int.ofNat 59) 0), (Value.str (S "/claim/cut.py") 488)])) (List.toArray [])
abbrev o246 (P : Params) : Obj := Obj.mk (Value.type "function") none (Data.func (FuncData.mk (S "__init__") (S "NoPlace.__init__") (defArgs (M 13 0)) (FuncBody.stmts (defBody (M 13 0))) (defScope (M 13 0)) 3 [] Value.none Value.none Value.none (Value.str (S "budwright.errors") 194) none (R 245) Value.none 0)) (List.toArray [])
abbrev o247 (P : Params) : Obj := Obj.mk (Value.type "tuple") none (Data.seq (List.toArray [(Value.str (S "place") 490), (Value.str (S "word") 491)]) 0) (List.toArray [])
abbrev o248 (P : Params) : Obj := Obj.mk (Value.type "dict") none (Data.dict (List.toArray [E P "__module__" 477 (Value.str (S "budwright.errors") 194), E P "__firstlineno__" 481 (Value.int (Int.ofNat 57) 480), E P "__init__" 489 (R 246), E P "__static_attributes__" 492 (R 247), E P "__weakref__" 494 (R 250), E P "__doc__" 495 Value.none]) 3) (List.toArray [])
abbrev o249 (P : Params) : Obj := Obj.mk (Value.type "type") none (Data.cls (ClassData.mk (S "NoPlace") [(Value.type "IndexError")] [(R 249), (Value.type "IndexError"), (Value.type "LookupError"), (Value.type "Exception"), (Value.type "BaseException"), (Value.type "object")] 248 (S "NoPlace") true [] [] false none false)) (List.toArray [(some (R 233)), none, (some (Value.str (S "NoPlace") 470)), (some (Value.str (S "NoPlace") 478)), (some (Value.builtin "IndexError.__new__")), (some (Value.bool true))])
abbrev o250 (P : Params) : Obj := Obj.mk (Value.type "getset_descriptor") none (Data.fields (List.toArray [(Value.str (S "__weakref__") 493), (R 249), (Value.builtin "ExceptionGroup.__weakref__"), Value.none])) (List.toArray [])
abbrev o253 (P : Params) : Obj := Obj.mk (Value.type "tuple") none (Data.seq (List.toArray [(Value.type "LookupError")]) 0) (List.toArray [])
abbrev o260 (P : Params) : Obj := Obj.mk (Value.type "tuple") none (Data.seq (List.toArray []) 0) (List.toArray [])
abbrev o262 (P : Params) : Obj := Obj.mk (Value.type "tuple") none (Data.seq (List.toArray [(Value.str (S "self") 515), (Value.str (S "word") 516), (Value.str (S "name") 517)]) 0) (List.toArray [])
abbrev o263 (P : Params) : Obj := Obj.mk (Value.type "tuple") none (Data.seq (List.toArray []) 0) (List.toArray [])
abbrev o265 (P : Params) : Obj := Obj.mk (Value.type "code") none (Data.fields (List.toArray [(Value.str (S "__init__") 512), (Value.str (S "Lacking.__init__") 513), (Value.str (S "/claim/cut.py") 514), (Value.int (Int.ofNat 65) 0), (Value.int (Int.ofNat 3) 0), (Value.int (Int.ofNat 0) 0), (Value.int (Int.ofNat 0) 0), (Value.int (Int.ofNat 3) 0), (R 260), (Value.bool true), (Value.int (Int.ofNat 181) 0), (R 261), Value.none, (R 262), (R 263), (R 264), (Value.int (Int.ofNat 518) 0), (Value.int (Int.ofNat 65) 0), (Value.str (S "/claim/cut.py") 519)])) (List.toArray [])
abbrev o266 (P : Params) : Obj := Obj.mk (Value.type "function") none (Data.func (FuncData.mk (S "__init__") (S "Lacking.__init__") (defArgs (M 14 0)) (FuncBody.stmts (defBody (M 14 0))) (defScope (M 14 0)) 3 [] Value.none Value.none Value.none (Value.str (S "budwright.errors") 194) none (R 265) Value.none 0)) (List.toArray [])
abbrev o267 (P : Params) : Obj := Obj.mk (Value.type "tuple") none (Data.seq (List.toArray [(Value.str (S "name") 521), (Value.str (S "word") 522)]) 0) (List.toArray [])
abbrev o268 (P : Params) : Obj := Obj.mk (Value.type "dict") none (Data.dict (List.toArray [E P "__module__" 507 (Value.str (S "budwright.errors") 194), E P "__firstlineno__" 511 (Value.int (Int.ofNat 63) 510), E P "__init__" 520 (R 266), E P "__static_attributes__" 523 (R 267), E P "__weakref__" 525 (R 270), E P "__doc__" 526 Value.none]) 3) (List.toArray [])
abbrev o269 (P : Params) : Obj := Obj.mk (Value.type "type") none (Data.cls (ClassData.mk (S "Lacking") [(Value.type "LookupError")] [(R 269), (Value.type "LookupError"), (Value.type "Exception"), (Value.type "BaseException"), (Value.type "object")] 268 (S "Lacking") true [] [] false none false)) (List.toArray [(some (R 253)), none, (some (Value.str (S "Lacking") 500)), (some (Value.str (S "Lacking") 508)), (some (Value.builtin "LookupError.__new__")), (some (Value.bool true))])
abbrev o270 (P : Params) : Obj := Obj.mk (Value.type "getset_descriptor") none (Data.fields (List.toArray [(Value.str (S "__weakref__") 524), (R 269), (Value.builtin "ExceptionGroup.__weakref__"), Value.none])) (List.toArray [])
abbrev o273 (P : Params) : Obj := Obj.mk (Value.type "tuple") none (Data.seq (List.toArray [(Value.type "RuntimeError")]) 0) (List.toArray [])
abbrev o280 (P : Params) : Obj := Obj.mk (Value.type "tuple") none (Data.seq (List.toArray []) 0) (List.toArray [])
abbrev o282 (P : Params) : Obj := Obj.mk (Value.type "tuple") none (Data.seq (List.toArray [(Value.str (S "self") 544)]) 0) (List.toArray [])
abbrev o283 (P : Params) : Obj := Obj.mk (Value.type "tuple") none (Data.seq (List.toArray []) 0) (List.toArray [])
abbrev o285 (P : Params) : Obj := Obj.mk (Value.type "code") none (Data.fields (List.toArray [(Value.str (S "__init__") 541), (Value.str (S "NothingLeft.__init__") 542), (Value.str (S "/claim/cut.py") 543), (Value.int (Int.ofNat 71) 0), (Value.int (Int.ofNat 1) 0), (Value.int (Int.ofNat 0) 0), (Value.int (Int.ofNat 0) 0), (Value.int (Int.ofNat 3) 0), (R 280), (Value.bool true), (Value.int (Int.ofNat 181) 0), (R 281), Value.none, (R 282), (R 283), (R 284), (Value.int (Int.ofNat 545) 0), (Value.int (Int.ofNat 71) 0), (Value.str (S "/claim/cut.py") 546)])) (List.toArray [])
abbrev o286 (P : Params) : Obj := Obj.mk (Value.type "function") none (Data.func (FuncData.mk (S "__init__") (S "NothingLeft.__init__") (defArgs (M 15 0)) (FuncBody.stmts (defBody (M 15 0))) (defScope (M 15 0)) 3 [] Value.none Value.none Value.none (Value.str (S "budwright.errors") 194) none (R 285) Value.none 0)) (List.toArray [])
abbrev o287 (P : Params) : Obj := Obj.mk (Value.type "tuple") none (Data.seq (List.toArray [(Value.str (S "word") 548)]) 0) (List.toArray [])
abbrev o288 (P : Params) : Obj := Obj.mk (Value.type "dict") none (Data.dict (List.toArray [E P "__module__" 536 (Value.str (S "budwright.errors") 194), E P "__firstlineno__" 540 (Value.int (Int.ofNat 69) 539), E P "__init__" 547 (R 286), E P "__static_attributes__" 549 (R 287), E P "__weakref__" 551 (R 290), E P "__doc__" 552 Value.none]) 3) (List.toArray [])
abbrev o289 (P : Params) : Obj := Obj.mk (Value.type "type") none (Data.cls (ClassData.mk (S "NothingLeft") [(Value.type "RuntimeError")] [(R 289), (Value.type "RuntimeError"), (Value.type "Exception"), (Value.type "BaseException"), (Value.type "object")] 288 (S "NothingLeft") true [] [] false none false)) (List.toArray [(some (R 273)), none, (some (Value.str (S "NothingLeft") 529)), (some (Value.str (S "NothingLeft") 537)), (some (Value.builtin "RuntimeError.__new__")), (some (Value.bool true))])
abbrev o290 (P : Params) : Obj := Obj.mk (Value.type "getset_descriptor") none (Data.fields (List.toArray [(Value.str (S "__weakref__") 550), (R 289), (Value.builtin "ExceptionGroup.__weakref__"), Value.none])) (List.toArray [])
abbrev o293 (P : Params) : Obj := Obj.mk (Value.type "tuple") none (Data.seq (List.toArray []) 0) (List.toArray [])
abbrev o295 (P : Params) : Obj := Obj.mk (Value.type "tuple") none (Data.seq (List.toArray [(Value.str (S "thing") 566)]) 0) (List.toArray [])
abbrev o296 (P : Params) : Obj := Obj.mk (Value.type "tuple") none (Data.seq (List.toArray []) 0) (List.toArray [])
abbrev o298 (P : Params) : Obj := Obj.mk (Value.type "code") none (Data.fields (List.toArray [(Value.str (S "is_number") 563), (Value.str (S "is_number") 564), (Value.str (S "/claim/cut.py") 565), (Value.int (Int.ofNat 77) 0), (Value.int (Int.ofNat 1) 0), (Value.int (Int.ofNat 0) 0), (Value.int (Int.ofNat 0) 0), (Value.int (Int.ofNat 3) 0), (R 293), (Value.bool true), (Value.int (Int.ofNat 181) 0), (R 294), Value.none, (R 295), (R 296), (R 297), (Value.int (Int.ofNat 567) 0), (Value.int (Int.ofNat 77) 0), (Value.str (S "/claim/cut.py") 568)])) (List.toArray [])
abbrev o299 (P : Params) : Obj := Obj.mk (Value.type "function") none (Data.func (FuncData.mk (S "is_number") (S "is_number") (defArgs (T 19)) (FuncBody.stmts (defBody (T 19))) (defScope (T 19)) 3 [] Value.none Value.none Value.none (Value.str (S "budwright.figures") 555) none (R 298) Value.none 0)) (List.toArray [])
abbrev o300 (P : Params) : Obj := Obj.mk (Value.type "tuple") none (Data.seq (List.toArray []) 0) (List.toArray [])
abbrev o302 (P : Params) : Obj := Obj.mk (Value.type "tuple") none (Data.seq (List.toArray [(Value.str (S "number") 573), (Value.str (S "pieces") 574), (Value.str (S "low") 575)]) 0) (List.toArray [])
abbrev o303 (P : Params) : Obj := Obj.mk (Value.type "tuple") none (Data.seq (List.toArray []) 0) (List.toArray [])
abbrev o305 (P : Params) : Obj := Obj.mk (Value.type "code") none (Data.fields (List.toArray [(Value.str (S "whole_text") 570), (Value.str (S "whole_text") 571), (Value.str (S "/claim/cut.py") 572), (Value.int (Int.ofNat 79) 0), (Value.int (Int.ofNat 1) 0), (Value.int (Int.ofNat 0) 0), (Value.int (Int.ofNat 0) 0), (Value.int (Int.ofNat 3) 0), (R 300), (Value.bool true), (Value.int (Int.ofNat 181) 0), (R 301), Value.none, (R 302), (R 303), (R 304), (Value.int (Int.ofNat 576) 0), (Value.int (Int.ofNat 79) 0), (Value.str (S "/claim/cut.py") 577)])) (List.toArray [])
abbrev o306 (P : Params) : Obj := Obj.mk (Value.type "function") none (Data.func (FuncData.mk (S "whole_text") (S "whole_text") (defArgs (T 20)) (FuncBody.stmts (defBody (T 20))) (defScope (T 20)) 3 [] Value.none Value.none Value.none (Value.str (S "budwright.figures") 555) none (R 305) Value.none 0)) (List.toArray [])
abbrev o307 (P : Params) : Obj := Obj.mk (Value.type "tuple") none (Data.seq (List.toArray []) 0) (List.toArray [])
abbrev o310 (P : Params) : Obj := Obj.mk (Value.type "code") none (Data.fields (List.toArray [(Value.str (S "row_text") 579), (Value.str (S "row_text") 580), (Value.str (S "/claim/cut.py") 581), (Value.int (Int.ofNat 86) 0), (Value.int (Int.ofNat 1) 0), (Value.int (Int.ofNat 0) 0), (Value.int (Int.ofNat 0) 0), (Value.int (Int.ofNat 3) 0), (R 307), (Value.bool true), (Value.int (Int.ofNat 181) 0), (R 308), Value.none, Value.none, Value.none, (R 309), (Value.int (Int.ofNat 582) 0), (Value.int (Int.ofNat 86) 0), (Value.str (S "/claim/cut.py") 583)])) (List.toArray [])
abbrev o311 (P : Params) : Obj := Obj.mk (Value.type "function") none (Data.func (FuncData.mk (S "row_text") (S "row_text") (defArgs (T 21)) (FuncBody.stmts (defBody (T 21))) (defScope (T 21)) 3 [] Value.none Value.none Value.none (Value.str (S "budwright.figures") 555) none (R 310) Value.none 0)) (List.toArray [])
abbrev o312 (P : Params) : Obj := Obj.mk (Value.type "tuple") none (Data.seq (List.toArray []) 0) (List.toArray [])
abbrev o315 (P : Params) : Obj := Obj.mk (Value.type "code") none (Data.fields (List.toArray [(Value.str (S "rows_text") 585), (Value.str (S "rows_text") 586), (Value.str (S "/claim/cut.py") 587), (Value.int (Int.ofNat 88) 0), (Value.int (Int.ofNat 1) 0), (Value.int (Int.ofNat 0) 0), (Value.int (Int.ofNat 0) 0), (Value.int (Int.ofNat 3) 0), (R 312), (Value.bool true), (Value.int (Int.ofNat 181) 0), (R 313), Value.none, Value.none, Value.none, (R 314), (Value.int (Int.ofNat 588) 0), (Value.int (Int.ofNat 88) 0), (Value.str (S "/claim/cut.py") 589)])) (List.toArray [])
abbrev o316 (P : Params) : Obj := Obj.mk (Value.type "function") none (Data.func (FuncData.mk (S "rows_text") (S "rows_text") (defArgs (T 22)) (FuncBody.stmts (defBody (T 22))) (defScope (T 22)) 3 [] Value.none Value.none Value.none (Value.str (S "budwright.figures") 555) none (R 315) Value.none 0)) (List.toArray [])
abbrev o317 (P : Params) : Obj := Obj.mk (Value.type "tuple") none (Data.seq (List.toArray []) 0) (List.toArray [])
abbrev o319 (P : Params) : Obj := Obj.mk (Value.type "tuple") none (Data.seq (List.toArray [(Value.str (S "one") 596), (Value.str (S "other") 597)]) 0) (List.toArray [])
abbrev o320 (P : Params) : Obj := Obj.mk (Value.type "tuple") none (Data.seq (List.toArray []) 0) (List.toArray [])
abbrev o322 (P : Params) : Obj := Obj.mk (Value.type "code") none (Data.fields (List.toArray [(Value.str (S "common") 593), (Value.str (S "common") 594), (Value.str (S "/claim/cut.py") 595), (Value.int (Int.ofNat 91) 0), (Value.int (Int.ofNat 2) 0), (Value.int (Int.ofNat 0) 0), (Value.int (Int.ofNat 0) 0), (Value.int (Int.ofNat 3) 0), (R 317), (Value.bool true), (Value.int (Int.ofNat 181) 0), (R 318), Value.none, (R 319), (R 320), (R 321), (Value.int (Int.ofNat 598) 0), (Value.int (Int.ofNat 91) 0), (Value.str (S "/claim/cut.py") 599)])) (List.toArray [])
abbrev o323 (P : Params) : Obj := Obj.mk (Value.type "function") none (Data.func (FuncData.mk (S "common") (S "common") (defArgs (T 24)) (FuncBody.stmts (defBody (T 24))) (defScope (T 24)) 3 [] Value.none Value.none Value.none (Value.str (S "budwright.parts") 591) none (R 322) Value.none 0)) (List.toArray [])
abbrev o324 (P : Params) : Obj := Obj.mk (Value.type "tuple") none (Data.seq (List.toArray []) 0) (List.toArray [])
abbrev o326 (P : Params) : Obj := Obj.mk (Value.type "tuple") none (Data.seq (List.toArray [(Value.str (S "base") 604), (Value.str (S "many") 605), (Value.str (S "result") 606)]) 0) (List.toArray [])
abbrev o327 (P : Params) : Obj := Obj.mk (Value.type "tuple") none (Data.seq (List.toArray []) 0) (List.toArray [])
abbrev o329 (P : Params) : Obj := Obj.mk (Value.type "code") none (Data.fields (List.toArray [(Value.str (S "power_of") 601), (Value.str (S "power_of") 602), (Value.str (S "/claim/cut.py") 603), (Value.int (Int.ofNat 97) 0), (Value.int (Int.ofNat 2) 0), (Value.int (Int.ofNat 0) 0), (Value.int (Int.ofNat 0) 0), (Value.int (Int.ofNat 3) 0), (R 324), (Value.bool true), (Value.int (Int.ofNat 181) 0), (R 325), Value.none, (R 326), (R 327), (R 328), (Value.int (Int.ofNat 607) 0), (Value.int (Int.ofNat 97) 0), (Value.str (S "/claim/cut.py") 608)])) (List.toArray [])
abbrev o330 (P : Params) : Obj := Obj.mk (Value.type "function") none (Data.func (FuncData.mk (S "power_of") (S "power_of") (defArgs (T 25)) (FuncBody.stmts (defBody (T 25))) (defScope (T 25)) 3 [] Value.none Value.none Value.none (Value.str (S "budwright.parts") 591) none (R 329) Value.none 0)) (List.toArray [])
abbrev o331 (P : Params) : Obj := Obj.mk (Value.type "tuple") none (Data.seq (List.toArray []) 0) (List.toArray [])
abbrev o333 (P : Params) : Obj := Obj.mk (Value.type "tuple") none (Data.seq (List.toArray [(Value.str (S "top") 613), (Value.str (S "under") 614), (Value.str (S "root") 615), (Value.str (S "shared") 616)]) 0) (List.toArray [])
abbrev o334 (P : Params) : Obj := Obj.mk (Value.type "tuple") none (Data.seq (List.toArray []) 0) (List.toArray [])
abbrev o336 (P : Params) : Obj := Obj.mk (Value.type "code") none (Data.fields (List.toArray [(Value.str (S "lowest_terms") 610), (Value.str (S "lowest_terms") 611), (Value.str (S "/claim/cut.py") 612), (Value.int (Int.ofNat 106) 0), (Value.int (Int.ofNat 3) 0), (Value.int (Int.ofNat 0) 0), (Value.int (Int.ofNat 0) 0), (Value.int (Int.ofNat 3) 0), (R 331), (Value.bool true), (Value.int (Int.ofNat 181) 0), (R 332), Value.none, (R 333), (R 334), (R 335), (Value.int (Int.ofNat 617) 0), (Value.int (Int.ofNat 106) 0), (Value.str (S "/claim/cut.py") 618)])) (List.toArray [])
abbrev o337 (P : Params) : Obj := Obj.mk (Value.type "function") none (Data.func (FuncData.mk (S "lowest_terms") (S "lowest_terms") (defArgs (T 26)) (FuncBody.stmts (defBody (T 26))) (defScope (T 26)) 3 [] Value.none Value.none Value.none (Value.str (S "budwright.parts") 591) none (R 336) Value.none 0)) (List.toArray [])
abbrev o338 (P : Params) : Obj := Obj.mk (Value.type "tuple") none (Data.seq (List.toArray []) 0) (List.toArray [])
abbrev o341 (P : Params) : Obj := Obj.mk (Value.type "code") none (Data.fields (List.toArray [(Value.str (S "is_row") 628), (Value.str (S "is_row") 629), (Value.str (S "/claim/cut.py") 630), (Value.int (Int.ofNat 121) 0), (Value.int (Int.ofNat 2) 0), (Value.int (Int.ofNat 0) 0), (Value.int (Int.ofNat 0) 0), (Value.int (Int.ofNat 3) 0), (R 338), (Value.bool true), (Value.int (Int.ofNat 181) 0), (R 339), Value.none, Value.none, Value.none, (R 340), (Value.int (Int.ofNat 631) 0), (Value.int (Int.ofNat 121) 0), (Value.str (S "/claim/cut.py") 632)])) (List.toArray [])
abbrev o342 (P : Params) : Obj := Obj.mk (Value.type "function") none (Data.func (FuncData.mk (S "is_row") (S "is_row") (defArgs (T 31)) (FuncBody.stmts (defBody (T 31))) (defScope (T 31)) 3 [] Value.none Value.none Value.none (Value.str (S "budwright.tables") 620) none (R 341) Value.none 0)) (List.toArray [])
abbrev o343 (P : Params) : Obj := Obj.mk (Value.type "tuple") none (Data.seq (List.toArray []) 0) (List.toArray [])
abbrev o346 (P : Params) : Obj := Obj.mk (Value.type "code") none (Data.fields (List.toArray [(Value.str (S "check_form") 634), (Value.str (S "check_form") 635), (Value.str (S "/claim/cut.py") 636), (Value.int (Int.ofNat 125) 0), (Value.int (Int.ofNat 1) 0), (Value.int (Int.ofNat 0) 0), (Value.int (Int.ofNat 0) 0), (Value.int (Int.ofNat 3) 0), (R 343), (Value.bool true), (Value.int (Int.ofNat 181) 0), (R 344), Value.none, Value.none, Value.none, (R 345), (Value.int (Int.ofNat 637) 0), (Value.int (Int.ofNat 125) 0), (Value.str (S "/claim/cut.py") 638)])) (List.toArray [])
abbrev o347 (P : Params) : Obj := Obj.mk (Value.type "function") none (Data.func (FuncData.mk (S "check_form") (S "check_form") (defArgs (T 32)) (FuncBody.stmts (defBody (T 32))) (defScope (T 32)) 3 [] Value.none Value.none Value.none (Value.str (S "budwright.tables") 620) none (R 346) Value.none 0)) (List.toArray [])
abbrev o348 (P : Params) : Obj := Obj.mk (Value.type "tuple") none (Data.seq (List.toArray []) 0) (List.toArray [])
abbrev o350 (P : Params) : Obj := Obj.mk (Value.type "tuple") none (Data.seq (List.toArray [(Value.str (S "table") 643), (Value.str (S "ring") 644)]) 0) (List.toArray [])
abbrev o351 (P : Params) : Obj := Obj.mk (Value.type "tuple") none (Data.seq (List.toArray []) 0) (List.toArray [])
abbrev o353 (P : Params) : Obj := Obj.mk (Value.type "code") none (Data.fields (List.toArray [(Value.str (S "check_table") 640), (Value.str (S "check_table") 641), (Value.str (S "/claim/cut.py") 642), (Value.int (Int.ofNat 133) 0), (Value.int (Int.ofNat 1) 0), (Value.int (Int.ofNat 0) 0), (Value.int (Int.ofNat 0) 0), (Value.int (Int.ofNat 3) 0), (R 348), (Value.bool true), (Value.int (Int.ofNat 181) 0), (R 349), Value.none, (R 350), (R 351), (R 352), (Value.int (Int.ofNat 645) 0), (Value.int (Int.ofNat 133) 0), (Value.str (S "/claim/cut.py") 646)])) (List.toArray [])
abbrev o354 (P : Params) : Obj := Obj.mk (Value.type "function") none (Data.func (FuncData.mk (S "check_table") (S "check_table") (defArgs (T 33)) (FuncBody.stmts (defBody (T 33))) (defScope (T 33)) 3 [] Value.none Value.none Value.none (Value.str (S "budwright.tables") 620) none (R 353) Value.none 0)) (List.toArray [])
abbrev o355 (P : Params) : Obj := Obj.mk (Value.type "tuple") none (Data.seq (List.toArray []) 0) (List.toArray [])
abbrev o357 (P : Params) : Obj := Obj.mk (Value.type "tuple") none (Data.seq (List.toArray [(Value.str (S "table") 651), (Value.str (S "place") 652)]) 0) (List.toArray [])
abbrev o358 (P : Params) : Obj := Obj.mk (Value.type "tuple") none (Data.seq (List.toArray []) 0) (List.toArray [])
abbrev o360 (P : Params) : Obj := Obj.mk (Value.type "code") none (Data.fields (List.toArray [(Value.str (S "check_bud") 648), (Value.str (S "check_bud") 649), (Value.str (S "/claim/cut.py") 650), (Value.int (Int.ofNat 137) 0), (Value.int (Int.ofNat 2) 0), (Value.int (Int.ofNat 0) 0), (Value.int (Int.ofNat 0) 0), (Value.int (Int.ofNat 3) 0), (R 355), (Value.bool true), (Value.int (Int.ofNat 181) 0), (R 356), Value.none, (R 357), (R 358), (R 359), (Value.int (Int.ofNat 653) 0), (Value.int (Int.ofNat 137) 0), (Value.str (S "/claim/cut.py") 654)])) (List.toArray [])
abbrev o361 (P : Params) : Obj := Obj.mk (Value.type "function") none (Data.func (FuncData.mk (S "check_bud") (S "check_bud") (defArgs (T 34)) (FuncBody.stmts (defBody (T 34))) (defScope (T 34)) 3 [] Value.none Value.none Value.none (Value.str (S "budwright.tables") 620) none (R 360) Value.none 0)) (List.toArray [])
abbrev o362 (P : Params) : Obj := Obj.mk (Value.type "tuple") none (Data.seq (List.toArray []) 0) (List.toArray [])
abbrev o365 (P : Params) : Obj := Obj.mk (Value.type "code") none (Data.fields (List.toArray [(Value.str (S "check_order") 656), (Value.str (S "check_order") 657), (Value.str (S "/claim/cut.py") 658), (Value.int (Int.ofNat 140) 0), (Value.int (Int.ofNat 2) 0), (Value.int (Int.ofNat 0) 0), (Value.int (Int.ofNat 0) 0), (Value.int (Int.ofNat 3) 0), (R 362), (Value.bool true), (Value.int (Int.ofNat 181) 0), (R 363), Value.none, Value.none, Value.none, (R 364), (Value.int (Int.ofNat 659) 0), (Value.int (Int.ofNat 140) 0), (Value.str (S "/claim/cut.py") 660)])) (List.toArray [])
abbrev o366 (P : Params) : Obj := Obj.mk (Value.type "function") none (Data.func (FuncData.mk (S "check_order") (S "check_order") (defArgs (T 35)) (FuncBody.stmts (defBody (T 35))) (defScope (T 35)) 3 [] Value.none Value.none Value.none (Value.str (S "budwright.tables") 620) none (R 365) Value.none 0)) (List.toArray [])
abbrev o367 (P : Params) : Obj := Obj.mk (Value.type "tuple") none (Data.seq (List.toArray []) 0) (List.toArray [])
abbrev o369 (P : Params) : Obj := Obj.mk (Value.type "tuple") none (Data.seq (List.toArray [(Value.str (S "table") 665)]) 0) (List.toArray [])
abbrev o370 (P : Params) : Obj := Obj.mk (Value.type "tuple") none (Data.seq (List.toArray []) 0) (List.toArray [])
abbrev o372 (P : Params) : Obj := Obj.mk (Value.type "code") none (Data.fields (List.toArray [(Value.str (S "bud_count") 662), (Value.str (S "bud_count") 663), (Value.str (S "/claim/cut.py") 664), (Value.int (Int.ofNat 145) 0), (Value.int (Int.ofNat 1) 0), (Value.int (Int.ofNat 0) 0), (Value.int (Int.ofNat 0) 0), (Value.int (Int.ofNat 3) 0), (R 367), (Value.bool true), (Value.int (Int.ofNat 181) 0), (R 368), Value.none, (R 369), (R 370), (R 371), (Value.int (Int.ofNat 666) 0), (Value.int (Int.ofNat 145) 0), (Value.str (S "/claim/cut.py") 667)])) (List.toArray [])
abbrev o373 (P : Params) : Obj := Obj.mk (Value.type "function") none (Data.func (FuncData.mk (S "bud_count") (S "bud_count") (defArgs (T 36)) (FuncBody.stmts (defBody (T 36))) (defScope (T 36)) 3 [] Value.none Value.none Value.none (Value.str (S "budwright.tables") 620) none (R 372) Value.none 0)) (List.toArray [])
abbrev o374 (P : Params) : Obj := Obj.mk (Value.type "tuple") none (Data.seq (List.toArray []) 0) (List.toArray [])
abbrev o377 (P : Params) : Obj := Obj.mk (Value.type "code") none (Data.fields (List.toArray [(Value.str (S "unlike_rows") 669), (Value.str (S "unlike_rows") 670), (Value.str (S "/claim/cut.py") 671), (Value.int (Int.ofNat 147) 0), (Value.int (Int.ofNat 2) 0), (Value.int (Int.ofNat 0) 0), (Value.int (Int.ofNat 0) 0), (Value.int (Int.ofNat 3) 0), (R 374), (Value.bool true), (Value.int (Int.ofNat 181) 0), (R 375), Value.none, Value.none, Value.none, (R 376), (Value.int (Int.ofNat 672) 0), (Value.int (Int.ofNat 147) 0), (Value.str (S "/claim/cut.py") 673)])) (List.toArray [])
abbrev o378 (P : Params) : Obj := Obj.mk (Value.type "function") none (Data.func (FuncData.mk (S "unlike_rows") (S "unlike_rows") (defArgs (T 37)) (FuncBody.stmts (defBody (T 37))) (defScope (T 37)) 3 [] Value.none Value.none Value.none (Value.str (S "budwright.tables") 620) none (R 377) Value.none 0)) (List.toArray [])
abbrev o379 (P : Params) : Obj := Obj.mk (Value.type "tuple") none (Data.seq (List.toArray []) 0) (List.toArray [])
abbrev o381 (P : Params) : Obj := Obj.mk (Value.type "tuple") none (Data.seq (List.toArray [(Value.str (S "table") 678), (Value.str (S "i") 679), (Value.str (S "j") 680), (Value.str (S "one") 681), (Value.str (S "other") 682)]) 0) (List.toArray [])
abbrev o382 (P : Params) : Obj := Obj.mk (Value.type "tuple") none (Data.seq (List.toArray []) 0) (List.toArray [])
abbrev o384 (P : Params) : Obj := Obj.mk (Value.type "code") none (Data.fields (List.toArray [(Value.str (S "pair_bars") 675), (Value.str (S "pair_bars") 676), (Value.str (S "/claim/cut.py") 677), (Value.int (Int.ofNat 152) 0), (Value.int (Int.ofNat 3) 0), (Value.int (Int.ofNat 0) 0), (Value.int (Int.ofNat 0) 0), (Value.int (Int.ofNat 3) 0), (R 379), (Value.bool true), (Value.int (Int.ofNat 181) 0), (R 380), Value.none, (R 381), (R 382), (R 383), (Value.int (Int.ofNat 683) 0), (Value.int (Int.ofNat 152) 0), (Value.str (S "/claim/cut.py") 684)])) (List.toArray [])
abbrev o385 (P : Params) : Obj := Obj.mk (Value.type "function") none (Data.func (FuncData.mk (S "pair_bars") (S "pair_bars") (defArgs (T 38)) (FuncBody.stmts (defBody (T 38))) (defScope (T 38)) 3 [] Value.none Value.none Value.none (Value.str (S "budwright.tables") 620) none (R 384) Value.none 0)) (List.toArray [])
abbrev o386 (P : Params) : Obj := Obj.mk (Value.type "tuple") none (Data.seq (List.toArray []) 0) (List.toArray [])
abbrev o388 (P : Params) : Obj := Obj.mk (Value.type "tuple") none (Data.seq (List.toArray [(Value.str (S "table") 689), (Value.str (S "ring") 690), (Value.str (S "onward") 691), (Value.str (S "back") 692), (Value.str (S "i") 693), (Value.str (S "j") 694)]) 0) (List.toArray [])
abbrev o389 (P : Params) : Obj := Obj.mk (Value.type "tuple") none (Data.seq (List.toArray []) 0) (List.toArray [])
abbrev o391 (P : Params) : Obj := Obj.mk (Value.type "code") none (Data.fields (List.toArray [(Value.str (S "ring_bars") 686), (Value.str (S "ring_bars") 687), (Value.str (S "/claim/cut.py") 688), (Value.int (Int.ofNat 156) 0), (Value.int (Int.ofNat 2) 0), (Value.int (Int.ofNat 0) 0), (Value.int (Int.ofNat 0) 0), (Value.int (Int.ofNat 3) 0), (R 386), (Value.bool true), (Value.int (Int.ofNat 181) 0), (R 387), Value.none, (R 388), (R 389), (R 390), (Value.int (Int.ofNat 695) 0), (Value.int (Int.ofNat 156) 0), (Value.str (S "/claim/cut.py") 696)])) (List.toArray [])
abbrev o392 (P : Params) : Obj := Obj.mk (Value.type "function") none (Data.func (FuncData.mk (S "ring_bars") (S "ring_bars") (defArgs (T 39)) (FuncBody.stmts (defBody (T 39))) (defScope (T 39)) 3 [] Value.none Value.none Value.none (Value.str (S "budwright.tables") 620) none (R 391) Value.none 0)) (List.toArray [])
abbrev o393 (P : Params) : Obj := Obj.mk (Value.type "tuple") none (Data.seq (List.toArray []) 0) (List.toArray [])
abbrev o395 (P : Params) : Obj := Obj.mk (Value.type "tuple") none (Data.seq (List.toArray [(Value.str (S "table") 701), (Value.str (S "many") 702), (Value.str (S "i") 703), (Value.str (S "j") 704), (Value.str (S "ring") 705)]) 0) (List.toArray [])
abbrev o396 (P : Params) : Obj := Obj.mk (Value.type "tuple") none (Data.seq (List.toArray []) 0) (List.toArray [])
abbrev o398 (P : Params) : Obj := Obj.mk (Value.type "code") none (Data.fields (List.toArray [(Value.str (S "barred") 698), (Value.str (S "barred") 699), (Value.str (S "/claim/cut.py") 700), (Value.int (Int.ofNat 163) 0), (Value.int (Int.ofNat 1) 0), (Value.int (Int.ofNat 0) 0), (Value.int (Int.ofNat 0) 0), (Value.int (Int.ofNat 3) 0), (R 393), (Value.bool true), (Value.int (Int.ofNat 181) 0), (R 394), Value.none, (R 395), (R 396), (R 397), (Value.int (Int.ofNat 706) 0), (Value.int (Int.ofNat 163) 0), (Value.str (S "/claim/cut.py") 707)])) (List.toArray [])
abbrev o399 (P : Params) : Obj := Obj.mk (Value.type "function") none (Data.func (FuncData.mk (S "barred") (S "barred") (defArgs (T 40)) (FuncBody.stmts (defBody (T 40))) (defScope (T 40)) 3 [] Value.none Value.none Value.none (Value.str (S "budwright.tables") 620) none (R 398) Value.none 0)) (List.toArray [])
abbrev o400 (P : Params) : Obj := Obj.mk (Value.type "tuple") none (Data.seq (List.toArray []) 0) (List.toArray [])
abbrev o403 (P : Params) : Obj := Obj.mk (Value.type "code") none (Data.fields (List.toArray [(Value.str (S "lot_weights") 709), (Value.str (S "lot_weights") 710), (Value.str (S "/claim/cut.py") 711), (Value.int (Int.ofNat 174) 0), (Value.int (Int.ofNat 2) 0), (Value.int (Int.ofNat 0) 0), (Value.int (Int.ofNat 0) 0), (Value.int (Int.ofNat 3) 0), (R 400), (Value.bool true), (Value.int (Int.ofNat 181) 0), (R 401), Value.none, Value.none, Value.none, (R 402), (Value.int (Int.ofNat 712) 0), (Value.int (Int.ofNat 174) 0), (Value.str (S "/claim/cut.py") 713)])) (List.toArray [])
abbrev o404 (P : Params) : Obj := Obj.mk (Value.type "function") none (Data.func (FuncData.mk (S "lot_weights") (S "lot_weights") (defArgs (T 41)) (FuncBody.stmts (defBody (T 41))) (defScope (T 41)) 3 [] Value.none Value.none Value.none (Value.str (S "budwright.tables") 620) none (R 403) Value.none 0)) (List.toArray [])
abbrev o405 (P : Params) : Obj := Obj.mk (Value.type "tuple") none (Data.seq (List.toArray []) 0) (List.toArray [])
abbrev o408 (P : Params) : Obj := Obj.mk (Value.type "code") none (Data.fields (List.toArray [(Value.str (S "weights") 715), (Value.str (S "weights") 716), (Value.str (S "/claim/cut.py") 717), (Value.int (Int.ofNat 189) 0), (Value.int (Int.ofNat 1) 0), (Value.int (Int.ofNat 0) 0), (Value.int (Int.ofNat 0) 0), (Value.int (Int.ofNat 3) 0), (R 405), (Value.bool true), (Value.int (Int.ofNat 181) 0), (R 406), Value.none, Value.none, Value.none, (R 407), (Value.int (Int.ofNat 718) 0), (Value.int (Int.ofNat 189) 0), (Value.str (S "/claim/cut.py") 719)])) (List.toArray [])
abbrev o409 (P : Params) : Obj := Obj.mk (Value.type "function") none (Data.func (FuncData.mk (S "weights") (S "weights") (defArgs (T 42)) (FuncBody.stmts (defBody (T 42))) (defScope (T 42)) 3 [] Value.none Value.none Value.none (Value.str (S "budwright.tables") 620) none (R 408) Value.none 0)) (List.toArray [])
abbrev o410 (P : Params) : Obj := Obj.mk (Value.type "tuple") none (Data.seq (List.toArray []) 0) (List.toArray [])
abbrev o413 (P : Params) : Obj := Obj.mk (Value.type "code") none (Data.fields (List.toArray [(Value.str (S "turned_row") 722), (Value.str (S "turned_row") 723), (Value.str (S "/claim/cut.py") 724), (Value.int (Int.ofNat 197) 0), (Value.int (Int.ofNat 4) 0), (Value.int (Int.ofNat 0) 0), (Value.int (Int.ofNat 0) 0), (Value.int (Int.ofNat 3) 0), (R 410), (Value.bool true), (Value.int (Int.ofNat 181) 0), (R 411), Value.none, Value.none, Value.none, (R 412), (Value.int (Int.ofNat 725) 0), (Value.int (Int.ofNat 197) 0), (Value.str (S "/claim/cut.py") 726)])) (List.toArray [])
abbrev o414 (P : Params) : Obj := Obj.mk (Value.type "function") none (Data.func (FuncData.mk (S "turned_row") (S "turned_row") (defArgs (T 44)) (FuncBody.stmts (defBody (T 44))) (defScope (T 44)) 3 [] Value.none Value.none Value.none (Value.str (S "budwright.tables") 620) none (R 413) Value.none 0)) (List.toArray [])
abbrev o415 (P : Params) : Obj := Obj.mk (Value.type "tuple") none (Data.seq (List.toArray []) 0) (List.toArray [])
abbrev o418 (P : Params) : Obj := Obj.mk (Value.type "code") none (Data.fields (List.toArray [(Value.str (S "turned_table") 728), (Value.str (S "turned_table") 729), (Value.str (S "/claim/cut.py") 730), (Value.int (Int.ofNat 202) 0), (Value.int (Int.ofNat 2) 0), (Value.int (Int.ofNat 0) 0), (Value.int (Int.ofNat 0) 0), (Value.int (Int.ofNat 3) 0), (R 415), (Value.bool true), (Value.int (Int.ofNat 181) 0), (R 416), Value.none, Value.none, Value.none, (R 417), (Value.int (Int.ofNat 731) 0), (Value.int (Int.ofNat 202) 0), (Value.str (S "/claim/cut.py") 732)])) (List.toArray [])
abbrev o419 (P : Params) : Obj := Obj.mk (Value.type "function") none (Data.func (FuncData.mk (S "turned_table") (S "turned_table") (defArgs (T 45)) (FuncBody.stmts (defBody (T 45))) (defScope (T 45)) 3 [] Value.none Value.none Value.none (Value.str (S "budwright.tables") 620) none (R 418) Value.none 0)) (List.toArray [])
abbrev o420 (P : Params) : Obj := Obj.mk (Value.type "tuple") none (Data.seq (List.toArray []) 0) (List.toArray [])
abbrev o422 (P : Params) : Obj := Obj.mk (Value.type "tuple") none (Data.seq (List.toArray [(Value.str (S "table") 737), (Value.str (S "place") 738)]) 0) (List.toArray [])
abbrev o423 (P : Params) : Obj := Obj.mk (Value.type "tuple") none (Data.seq (List.toArray []) 0) (List.toArray [])
abbrev o425 (P : Params) : Obj := Obj.mk (Value.type "code") none (Data.fields (List.toArray [(Value.str (S "turned") 734), (Value.str (S "turned") 735), (Value.str (S "/claim/cut.py") 736), (Value.int (Int.ofNat 213) 0), (Value.int (Int.ofNat 2) 0), (Value.int (Int.ofNat 0) 0), (Value.int (Int.ofNat 0) 0), (Value.int (Int.ofNat 3) 0), (R 420), (Value.bool true), (Value.int (Int.ofNat 181) 0), (R 421), Value.none, (R 422), (R 423), (R 424), (Value.int (Int.ofNat 739) 0), (Value.int (Int.ofNat 213) 0), (Value.str (S "/claim/cut.py") 740)])) (List.toArray [])
abbrev o426 (P : Params) : Obj := Obj.mk (Value.type "function") none (Data.func (FuncData.mk (S "turned") (S "turned") (defArgs (T 46)) (FuncBody.stmts (defBody (T 46))) (defScope (T 46)) 3 [] Value.none Value.none Value.none (Value.str (S "budwright.tables") 620) none (R 425) Value.none 0)) (List.toArray [])
abbrev o427 (P : Params) : Obj := Obj.mk (Value.type "tuple") none (Data.seq (List.toArray []) 0) (List.toArray [])
abbrev o430 (P : Params) : Obj := Obj.mk (Value.type "code") none (Data.fields (List.toArray [(Value.str (S "reordered") 742), (Value.str (S "reordered") 743), (Value.str (S "/claim/cut.py") 744), (Value.int (Int.ofNat 217) 0), (Value.int (Int.ofNat 2) 0), (Value.int (Int.ofNat 0) 0), (Value.int (Int.ofNat 0) 0), (Value.int (Int.ofNat 3) 0), (R 427), (Value.bool true), (Value.int (Int.ofNat 181) 0), (R 428), Value.none, Value.none, Value.none, (R 429), (Value.int (Int.ofNat 745) 0), (Value.int (Int.ofNat 217) 0), (Value.str (S "/claim/cut.py") 746)])) (List.toArray [])
abbrev o431 (P : Params) : Obj := Obj.mk (Value.type "function") none (Data.func (FuncData.mk (S "reordered") (S "reordered") (defArgs (T 47)) (FuncBody.stmts (defBody (T 47))) (defScope (T 47)) 3 [] Value.none Value.none Value.none (Value.str (S "budwright.tables") 620) none (R 430) Value.none 0)) (List.toArray [])
abbrev o432 (P : Params) : Obj := Obj.mk (Value.type "tuple") none (Data.seq (List.toArray []) 0) (List.toArray [])
abbrev o435 (P : Params) : Obj := Obj.mk (Value.type "code") none (Data.fields (List.toArray [(Value.str (S "beside") 748), (Value.str (S "beside") 749), (Value.str (S "/claim/cut.py") 750), (Value.int (Int.ofNat 222) 0), (Value.int (Int.ofNat 2) 0), (Value.int (Int.ofNat 0) 0), (Value.int (Int.ofNat 0) 0), (Value.int (Int.ofNat 3) 0), (R 432), (Value.bool true), (Value.int (Int.ofNat 181) 0), (R 433), Value.none, Value.none, Value.none, (R 434), (Value.int (Int.ofNat 751) 0), (Value.int (Int.ofNat 222) 0), (Value.str (S "/claim/cut.py") 752)])) (List.toArray [])
abbrev o436 (P : Params) : Obj := Obj.mk (Value.type "function") none (Data.func (FuncData.mk (S "beside") (S "beside") (defArgs (T 48)) (FuncBody.stmts (defBody (T 48))) (defScope (T 48)) 3 [] Value.none Value.none Value.none (Value.str (S "budwright.tables") 620) none (R 435) Value.none 0)) (List.toArray [])
abbrev o437 (P : Params) : Obj := Obj.mk (Value.type "tuple") none (Data.seq (List.toArray []) 0) (List.toArray [])
abbrev o440 (P : Params) : Obj := Obj.mk (Value.type "code") none (Data.fields (List.toArray [(Value.str (S "unit_rows") 754), (Value.str (S "unit_rows") 755), (Value.str (S "/claim/cut.py") 756), (Value.int (Int.ofNat 232) 0), (Value.int (Int.ofNat 1) 0), (Value.int (Int.ofNat 0) 0), (Value.int (Int.ofNat 0) 0), (Value.int (Int.ofNat 3) 0), (R 437), (Value.bool true), (Value.int (Int.ofNat 181) 0), (R 438), Value.none, Value.none, Value.none, (R 439), (Value.int (Int.ofNat 757) 0), (Value.int (Int.ofNat 232) 0), (Value.str (S "/claim/cut.py") 758)])) (List.toArray [])
abbrev o441 (P : Params) : Obj := Obj.mk (Value.type "function") none (Data.func (FuncData.mk (S "unit_rows") (S "unit_rows") (defArgs (T 49)) (FuncBody.stmts (defBody (T 49))) (defScope (T 49)) 3 [] Value.none Value.none Value.none (Value.str (S "budwright.tables") 620) none (R 440) Value.none 0)) (List.toArray [])
abbrev o442 (P : Params) : Obj := Obj.mk (Value.type "tuple") none (Data.seq (List.toArray []) 0) (List.toArray [])
abbrev o444 (P : Params) : Obj := Obj.mk (Value.type "tuple") none (Data.seq (List.toArray [(Value.str (S "table") 763), (Value.str (S "many") 764)]) 0) (List.toArray [])
abbrev o445 (P : Params) : Obj := Obj.mk (Value.type "tuple") none (Data.seq (List.toArray []) 0) (List.toArray [])
abbrev o447 (P : Params) : Obj := Obj.mk (Value.type "code") none (Data.fields (List.toArray [(Value.str (S "principal") 760), (Value.str (S "principal") 761), (Value.str (S "/claim/cut.py") 762), (Value.int (Int.ofNat 234) 0), (Value.int (Int.ofNat 1) 0), (Value.int (Int.ofNat 0) 0), (Value.int (Int.ofNat 0) 0), (Value.int (Int.ofNat 3) 0), (R 442), (Value.bool true), (Value.int (Int.ofNat 181) 0), (R 443), Value.none, (R 444), (R 445), (R 446), (Value.int (Int.ofNat 765) 0), (Value.int (Int.ofNat 234) 0), (Value.str (S "/claim/cut.py") 766)])) (List.toArray [])
abbrev o448 (P : Params) : Obj := Obj.mk (Value.type "function") none (Data.func (FuncData.mk (S "principal") (S "principal") (defArgs (T 50)) (FuncBody.stmts (defBody (T 50))) (defScope (T 50)) 3 [] Value.none Value.none Value.none (Value.str (S "budwright.tables") 620) none (R 447) Value.none 0)) (List.toArray [])
abbrev o449 (P : Params) : Obj := Obj.mk (Value.type "tuple") none (Data.seq (List.toArray []) 0) (List.toArray [])
abbrev o452 (P : Params) : Obj := Obj.mk (Value.type "code") none (Data.fields (List.toArray [(Value.str (S "opposite") 768), (Value.str (S "opposite") 769), (Value.str (S "/claim/cut.py") 770), (Value.int (Int.ofNat 238) 0), (Value.int (Int.ofNat 1) 0), (Value.int (Int.ofNat 0) 0), (Value.int (Int.ofNat 0) 0), (Value.int (Int.ofNat 3) 0), (R 449), (Value.bool true), (Value.int (Int.ofNat 181) 0), (R 450), Value.none, Value.none, Value.none, (R 451), (Value.int (Int.ofNat 771) 0), (Value.int (Int.ofNat 238) 0), (Value.str (S "/claim/cut.py") 772)])) (List.toArray [])
abbrev o453 (P : Params) : Obj := Obj.mk (Value.type "function") none (Data.func (FuncData.mk (S "opposite") (S "opposite") (defArgs (T 51)) (FuncBody.stmts (defBody (T 51))) (defScope (T 51)) 3 [] Value.none Value.none Value.none (Value.str (S "budwright.tables") 620) none (R 452) Value.none 0)) (List.toArray [])
abbrev o454 (P : Params) : Obj := Obj.mk (Value.type "tuple") none (Data.seq (List.toArray []) 0) (List.toArray [])
abbrev o456 (P : Params) : Obj := Obj.mk (Value.type "tuple") none (Data.seq (List.toArray [(Value.str (S "table") 777)]) 0) (List.toArray [])
abbrev o457 (P : Params) : Obj := Obj.mk (Value.type "tuple") none (Data.seq (List.toArray []) 0) (List.toArray [])
abbrev o459 (P : Params) : Obj := Obj.mk (Value.type "code") none (Data.fields (List.toArray [(Value.str (S "table_text") 774), (Value.str (S "table_text") 775), (Value.str (S "/claim/cut.py") 776), (Value.int (Int.ofNat 241) 0), (Value.int (Int.ofNat 1) 0), (Value.int (Int.ofNat 0) 0), (Value.int (Int.ofNat 0) 0), (Value.int (Int.ofNat 3) 0), (R 454), (Value.bool true), (Value.int (Int.ofNat 181) 0), (R 455), Value.none, (R 456), (R 457), (R 458), (Value.int (Int.ofNat 778) 0), (Value.int (Int.ofNat 241) 0), (Value.str (S "/claim/cut.py") 779)])) (List.toArray [])
abbrev o460 (P : Params) : Obj := Obj.mk (Value.type "function") none (Data.func (FuncData.mk (S "table_text") (S "table_text") (defArgs (T 52)) (FuncBody.stmts (defBody (T 52))) (defScope (T 52)) 3 [] Value.none Value.none Value.none (Value.str (S "budwright.tables") 620) none (R 459) Value.none 0)) (List.toArray [])
abbrev o461 (P : Params) : Obj := Obj.mk (Value.type "dict") none (Data.dict (List.toArray [E P "A1" 783 (R 462), E P "A2" 786 (R 463), E P "A3" 789 (R 464), E P "A4" 792 (R 465), E P "B2" 795 (R 466), E P "B3" 798 (R 467), E P "B4" 801 (R 468), E P "D4" 804 (R 469), E P "F4" 807 (R 470), E P "G2" 810 (R 471)]) 10) (List.toArray [])
abbrev o462 (P : Params) : Obj := Obj.mk (Value.type "tuple") none (Data.seq (List.toArray [(Value.int (Int.ofNat 2) 784), (Value.int (Int.ofNat 2) 785)]) 0) (List.toArray [])
abbrev o463 (P : Params) : Obj := Obj.mk (Value.type "tuple") none (Data.seq (List.toArray [(Value.int (Int.ofNat 5) 787), (Value.int (Int.ofNat 5) 788)]) 0) (List.toArray [])
abbrev o464 (P : Params) : Obj := Obj.mk (Value.type "tuple") none (Data.seq (List.toArray [(Value.int (Int.ofNat 9) 790), (Value.int (Int.ofNat 14) 791)]) 0) (List.toArray [])
abbrev o465 (P : Params) : Obj := Obj.mk (Value.type "tuple") none (Data.seq (List.toArray [(Value.int (Int.ofNat 14) 793), (Value.int (Int.ofNat 42) 794)]) 0) (List.toArray [])
abbrev o466 (P : Params) : Obj := Obj.mk (Value.type "tuple") none (Data.seq (List.toArray [(Value.int (Int.ofNat 6) 796), (Value.int (Int.ofNat 6) 797)]) 0) (List.toArray [])
abbrev o467 (P : Params) : Obj := Obj.mk (Value.type "tuple") none (Data.seq (List.toArray [(Value.int (Int.ofNat 12) 799), (Value.int (Int.ofNat 20) 800)]) 0) (List.toArray [])
abbrev o468 (P : Params) : Obj := Obj.mk (Value.type "tuple") none (Data.seq (List.toArray [(Value.int (Int.ofNat 20) 802), (Value.int (Int.ofNat 70) 803)]) 0) (List.toArray [])
abbrev o469 (P : Params) : Obj := Obj.mk (Value.type "tuple") none (Data.seq (List.toArray [(Value.int (Int.ofNat 16) 805), (Value.int (Int.ofNat 50) 806)]) 0) (List.toArray [])
abbrev o470 (P : Params) : Obj := Obj.mk (Value.type "tuple") none (Data.seq (List.toArray [(Value.int (Int.ofNat 28) 808), (Value.int (Int.ofNat 105) 809)]) 0) (List.toArray [])
abbrev o471 (P : Params) : Obj := Obj.mk (Value.type "tuple") none (Data.seq (List.toArray [(Value.int (Int.ofNat 8) 811), (Value.int (Int.ofNat 8) 812)]) 0) (List.toArray [])
abbrev o472 (P : Params) : Obj := Obj.mk (Value.type "tuple") none (Data.seq (List.toArray []) 0) (List.toArray [])
abbrev o475 (P : Params) : Obj := Obj.mk (Value.type "code") none (Data.fields (List.toArray [(Value.str (S "tied_pairs") 827), (Value.str (S "tied_pairs") 828), (Value.str (S "/claim/cut.py") 829), (Value.int (Int.ofNat 247) 0), (Value.int (Int.ofNat 2) 0), (Value.int (Int.ofNat 0) 0), (Value.int (Int.ofNat 0) 0), (Value.int (Int.ofNat 3) 0), (R 472), (Value.bool true), (Value.int (Int.ofNat 181) 0), (R 473), Value.none, Value.none, Value.none, (R 474), (Value.int (Int.ofNat 830) 0), (Value.int (Int.ofNat 247) 0), (Value.str (S "/claim/cut.py") 831)])) (List.toArray [])
abbrev o476 (P : Params) : Obj := Obj.mk (Value.type "function") none (Data.func (FuncData.mk (S "tied_pairs") (S "tied_pairs") (defArgs (T 56)) (FuncBody.stmts (defBody (T 56))) (defScope (T 56)) 3 [] Value.none Value.none Value.none (Value.str (S "budwright.kinds") 781) none (R 475) Value.none 0)) (List.toArray [])
abbrev o477 (P : Params) : Obj := Obj.mk (Value.type "tuple") none (Data.seq (List.toArray []) 0) (List.toArray [])
abbrev o479 (P : Params) : Obj := Obj.mk (Value.type "tuple") none (Data.seq (List.toArray [(Value.str (S "rows") 836), (Value.str (S "i") 837), (Value.str (S "j") 838)]) 0) (List.toArray [])
abbrev o480 (P : Params) : Obj := Obj.mk (Value.type "tuple") none (Data.seq (List.toArray []) 0) (List.toArray [])
abbrev o482 (P : Params) : Obj := Obj.mk (Value.type "code") none (Data.fields (List.toArray [(Value.str (S "endless_pair") 833), (Value.str (S "endless_pair") 834), (Value.str (S "/claim/cut.py") 835), (Value.int (Int.ofNat 249) 0), (Value.int (Int.ofNat 1) 0), (Value.int (Int.ofNat 0) 0), (Value.int (Int.ofNat 0) 0), (Value.int (Int.ofNat 3) 0), (R 477), (Value.bool true), (Value.int (Int.ofNat 181) 0), (R 478), Value.none, (R 479), (R 480), (R 481), (Value.int (Int.ofNat 839) 0), (Value.int (Int.ofNat 249) 0), (Value.str (S "/claim/cut.py") 840)])) (List.toArray [])
abbrev o483 (P : Params) : Obj := Obj.mk (Value.type "function") none (Data.func (FuncData.mk (S "endless_pair") (S "endless_pair") (defArgs (T 57)) (FuncBody.stmts (defBody (T 57))) (defScope (T 57)) 3 [] Value.none Value.none Value.none (Value.str (S "budwright.kinds") 781) none (R 482) Value.none 0)) (List.toArray [])
abbrev o484 (P : Params) : Obj := Obj.mk (Value.type "tuple") none (Data.seq (List.toArray []) 0) (List.toArray [])
abbrev o487 (P : Params) : Obj := Obj.mk (Value.type "code") none (Data.fields (List.toArray [(Value.str (S "lot_of") 842), (Value.str (S "lot_of") 843), (Value.str (S "/claim/cut.py") 844), (Value.int (Int.ofNat 254) 0), (Value.int (Int.ofNat 2) 0), (Value.int (Int.ofNat 0) 0), (Value.int (Int.ofNat 0) 0), (Value.int (Int.ofNat 3) 0), (R 484), (Value.bool true), (Value.int (Int.ofNat 181) 0), (R 485), Value.none, Value.none, Value.none, (R 486), (Value.int (Int.ofNat 845) 0), (Value.int (Int.ofNat 254) 0), (Value.str (S "/claim/cut.py") 846)])) (List.toArray [])
abbrev o488 (P : Params) : Obj := Obj.mk (Value.type "function") none (Data.func (FuncData.mk (S "lot_of") (S "lot_of") (defArgs (T 58)) (FuncBody.stmts (defBody (T 58))) (defScope (T 58)) 3 [] Value.none Value.none Value.none (Value.str (S "budwright.kinds") 781) none (R 487) Value.none 0)) (List.toArray [])
abbrev o489 (P : Params) : Obj := Obj.mk (Value.type "tuple") none (Data.seq (List.toArray []) 0) (List.toArray [])
abbrev o492 (P : Params) : Obj := Obj.mk (Value.type "code") none (Data.fields (List.toArray [(Value.str (S "lots") 848), (Value.str (S "lots") 849), (Value.str (S "/claim/cut.py") 850), (Value.int (Int.ofNat 261) 0), (Value.int (Int.ofNat 1) 0), (Value.int (Int.ofNat 0) 0), (Value.int (Int.ofNat 0) 0), (Value.int (Int.ofNat 3) 0), (R 489), (Value.bool true), (Value.int (Int.ofNat 181) 0), (R 490), Value.none, Value.none, Value.none, (R 491), (Value.int (Int.ofNat 851) 0), (Value.int (Int.ofNat 261) 0), (Value.str (S "/claim/cut.py") 852)])) (List.toArray [])
abbrev o493 (P : Params) : Obj := Obj.mk (Value.type "function") none (Data.func (FuncData.mk (S "lots") (S "lots") (defArgs (T 59)) (FuncBody.stmts (defBody (T 59))) (defScope (T 59)) 3 [] Value.none Value.none Value.none (Value.str (S "budwright.kinds") 781) none (R 492) Value.none 0)) (List.toArray [])
abbrev o494 (P : Params) : Obj := Obj.mk (Value.type "tuple") none (Data.seq (List.toArray []) 0) (List.toArray [])
abbrev o497 (P : Params) : Obj := Obj.mk (Value.type "code") none (Data.fields (List.toArray [(Value.str (S "family") 854), (Value.str (S "family") 855), (Value.str (S "/claim/cut.py") 856), (Value.int (Int.ofNat 264) 0), (Value.int (Int.ofNat 2) 0), (Value.int (Int.ofNat 0) 0), (Value.int (Int.ofNat 0) 0), (Value.int (Int.ofNat 3) 0), (R 494), (Value.bool true), (Value.int (Int.ofNat 181) 0), (R 495), Value.none, Value.none, Value.none, (R 496), (Value.int (Int.ofNat 857) 0), (Value.int (Int.ofNat 264) 0), (Value.str (S "/claim/cut.py") 858)])) (List.toArray [])
abbrev o498 (P : Params) : Obj := Obj.mk (Value.type "function") none (Data.func (FuncData.mk (S "family") (S "family") (defArgs (T 60)) (FuncBody.stmts (defBody (T 60))) (defScope (T 60)) 3 [] Value.none Value.none Value.none (Value.str (S "budwright.kinds") 781) none (R 497) Value.none 0)) (List.toArray [])
abbrev o499 (P : Params) : Obj := Obj.mk (Value.type "tuple") none (Data.seq (List.toArray []) 0) (List.toArray [])
abbrev o502 (P : Params) : Obj := Obj.mk (Value.type "code") none (Data.fields (List.toArray [(Value.str (S "lot_letter") 860), (Value.str (S "lot_letter") 861), (Value.str (S "/claim/cut.py") 862), (Value.int (Int.ofNat 273) 0), (Value.int (Int.ofNat 2) 0), (Value.int (Int.ofNat 0) 0), (Value.int (Int.ofNat 0) 0), (Value.int (Int.ofNat 3) 0), (R 499), (Value.bool true), (Value.int (Int.ofNat 181) 0), (R 500), Value.none, Value.none, Value.none, (R 501), (Value.int (Int.ofNat 863) 0), (Value.int (Int.ofNat 273) 0), (Value.str (S "/claim/cut.py") 864)])) (List.toArray [])
abbrev o503 (P : Params) : Obj := Obj.mk (Value.type "function") none (Data.func (FuncData.mk (S "lot_letter") (S "lot_letter") (defArgs (T 61)) (FuncBody.stmts (defBody (T 61))) (defScope (T 61)) 3 [] Value.none Value.none Value.none (Value.str (S "budwright.kinds") 781) none (R 502) Value.none 0)) (List.toArray [])
abbrev o504 (P : Params) : Obj := Obj.mk (Value.type "tuple") none (Data.seq (List.toArray []) 0) (List.toArray [])
abbrev o506 (P : Params) : Obj := Obj.mk (Value.type "tuple") none (Data.seq (List.toArray [(Value.str (S "letters") 869), (Value.str (S "buds") 870), (Value.str (S "webs") 871), (Value.str (S "name") 872)]) 0) (List.toArray [])
abbrev o507 (P : Params) : Obj := Obj.mk (Value.type "tuple") none (Data.seq (List.toArray []) 0) (List.toArray [])
abbrev o509 (P : Params) : Obj := Obj.mk (Value.type "code") none (Data.fields (List.toArray [(Value.str (S "finite_told") 866), (Value.str (S "finite_told") 867), (Value.str (S "/claim/cut.py") 868), (Value.int (Int.ofNat 280) 0), (Value.int (Int.ofNat 1) 0), (Value.int (Int.ofNat 0) 0), (Value.int (Int.ofNat 0) 0), (Value.int (Int.ofNat 3) 0), (R 504), (Value.bool true), (Value.int (Int.ofNat 181) 0), (R 505), Value.none, (R 506), (R 507), (R 508), (Value.int (Int.ofNat 873) 0), (Value.int (Int.ofNat 280) 0), (Value.str (S "/claim/cut.py") 874)])) (List.toArray [])
abbrev o510 (P : Params) : Obj := Obj.mk (Value.type "function") none (Data.func (FuncData.mk (S "finite_told") (S "finite_told") (defArgs (T 62)) (FuncBody.stmts (defBody (T 62))) (defScope (T 62)) 3 [] Value.none Value.none Value.none (Value.str (S "budwright.kinds") 781) none (R 509) Value.none 0)) (List.toArray [])
abbrev o511 (P : Params) : Obj := Obj.mk (Value.type "tuple") none (Data.seq (List.toArray []) 0) (List.toArray [])
abbrev o513 (P : Params) : Obj := Obj.mk (Value.type "tuple") none (Data.seq (List.toArray [(Value.str (S "walks") 879), (Value.str (S "waiting") 880), (Value.str (S "now") 881), (Value.str (S "place") 882), (Value.str (S "after") 883)]) 0) (List.toArray [])
abbrev o514 (P : Params) : Obj := Obj.mk (Value.type "tuple") none (Data.seq (List.toArray []) 0) (List.toArray [])
abbrev o516 (P : Params) : Obj := Obj.mk (Value.type "code") none (Data.fields (List.toArray [(Value.str (S "add_turned") 876), (Value.str (S "add_turned") 877), (Value.str (S "/claim/cut.py") 878), (Value.int (Int.ofNat 287) 0), (Value.int (Int.ofNat 3) 0), (Value.int (Int.ofNat 0) 0), (Value.int (Int.ofNat 0) 0), (Value.int (Int.ofNat 3) 0), (R 511), (Value.bool true), (Value.int (Int.ofNat 181) 0), (R 512), Value.none, (R 513), (R 514), (R 515), (Value.int (Int.ofNat 884) 0), (Value.int (Int.ofNat 287) 0), (Value.str (S "/claim/cut.py") 885)])) (List.toArray [])
abbrev o517 (P : Params) : Obj := Obj.mk (Value.type "function") none (Data.func (FuncData.mk (S "add_turned") (S "add_turned") (defArgs (T 63)) (FuncBody.stmts (defBody (T 63))) (defScope (T 63)) 3 [] Value.none Value.none Value.none (Value.str (S "budwright.kinds") 781) none (R 516) Value.none 0)) (List.toArray [])
abbrev o518 (P : Params) : Obj := Obj.mk (Value.type "tuple") none (Data.seq (List.toArray []) 0) (List.toArray [])
abbrev o521 (P : Params) : Obj := Obj.mk (Value.type "code") none (Data.fields (List.toArray [(Value.str (S "kind") 887), (Value.str (S "kind") 888), (Value.str (S "/claim/cut.py") 889), (Value.int (Int.ofNat 293) 0), (Value.int (Int.ofNat 1) 0), (Value.int (Int.ofNat 0) 0), (Value.int (Int.ofNat 0) 0), (Value.int (Int.ofNat 3) 0), (R 518), (Value.bool true), (Value.int (Int.ofNat 181) 0), (R 519), Value.none, Value.none, Value.none, (R 520), (Value.int (Int.ofNat 890) 0), (Value.int (Int.ofNat 293) 0), (Value.str (S "/claim/cut.py") 891)])) (List.toArray [])
abbrev o522 (P : Params) : Obj := Obj.mk (Value.type "function") none (Data.func (FuncData.mk (S "kind") (S "kind") (defArgs (T 64)) (FuncBody.stmts (defBody (T 64))) (defScope (T 64)) 3 [] Value.none Value.none Value.none (Value.str (S "budwright.kinds") 781) none (R 521) Value.none 0)) (List.toArray [])
abbrev o523 (P : Params) : Obj := Obj.mk (Value.type "tuple") none (Data.seq (List.toArray []) 0) (List.toArray [])
abbrev o525 (P : Params) : Obj := Obj.mk (Value.type "tuple") none (Data.seq (List.toArray [(Value.str (S "rows") 896), (Value.str (S "number") 897)]) 0) (List.toArray [])
abbrev o526 (P : Params) : Obj := Obj.mk (Value.type "tuple") none (Data.seq (List.toArray []) 0) (List.toArray [])
abbrev o528 (P : Params) : Obj := Obj.mk (Value.type "code") none (Data.fields (List.toArray [(Value.str (S "is_bud") 893), (Value.str (S "is_bud") 894), (Value.str (S "/claim/cut.py") 895), (Value.int (Int.ofNat 310) 0), (Value.int (Int.ofNat 2) 0), (Value.int (Int.ofNat 0) 0), (Value.int (Int.ofNat 0) 0), (Value.int (Int.ofNat 3) 0), (R 523), (Value.bool true), (Value.int (Int.ofNat 181) 0), (R 524), Value.none, (R 525), (R 526), (R 527), (Value.int (Int.ofNat 898) 0), (Value.int (Int.ofNat 310) 0), (Value.str (S "/claim/cut.py") 899)])) (List.toArray [])
abbrev o529 (P : Params) : Obj := Obj.mk (Value.type "function") none (Data.func (FuncData.mk (S "is_bud") (S "is_bud") (defArgs (T 65)) (FuncBody.stmts (defBody (T 65))) (defScope (T 65)) 3 [] Value.none Value.none Value.none (Value.str (S "budwright.kinds") 781) none (R 528) Value.none 0)) (List.toArray [])
abbrev o530 (P : Params) : Obj := Obj.mk (Value.type "tuple") none (Data.seq (List.toArray []) 0) (List.toArray [])
abbrev o532 (P : Params) : Obj := Obj.mk (Value.type "tuple") none (Data.seq (List.toArray [(Value.str (S "rows") 904), (Value.str (S "walk") 905), (Value.str (S "place") 906)]) 0) (List.toArray [])
abbrev o533 (P : Params) : Obj := Obj.mk (Value.type "tuple") none (Data.seq (List.toArray []) 0) (List.toArray [])
abbrev o535 (P : Params) : Obj := Obj.mk (Value.type "code") none (Data.fields (List.toArray [(Value.str (S "rows_behind") 901), (Value.str (S "rows_behind") 902), (Value.str (S "/claim/cut.py") 903), (Value.int (Int.ofNat 312) 0), (Value.int (Int.ofNat 2) 0), (Value.int (Int.ofNat 0) 0), (Value.int (Int.ofNat 0) 0), (Value.int (Int.ofNat 3) 0), (R 530), (Value.bool true), (Value.int (Int.ofNat 181) 0), (R 531), Value.none, (R 532), (R 533), (R 534), (Value.int (Int.ofNat 907) 0), (Value.int (Int.ofNat 312) 0), (Value.str (S "/claim/cut.py") 908)])) (List.toArray [])
abbrev o536 (P : Params) : Obj := Obj.mk (Value.type "function") none (Data.func (FuncData.mk (S "rows_behind") (S "rows_behind") (defArgs (T 66)) (FuncBody.stmts (defBody (T 66))) (defScope (T 66)) 3 [] Value.none Value.none Value.none (Value.str (S "budwright.kinds") 781) none (R 535) Value.none 0)) (List.toArray [])
abbrev o537 (P : Params) : Obj := Obj.mk (Value.type "tuple") none (Data.seq (List.toArray []) 0) (List.toArray [])
abbrev o539 (P : Params) : Obj := Obj.mk (Value.type "tuple") none (Data.seq (List.toArray [(Value.str (S "table") 913), (Value.str (S "walk") 914), (Value.str (S "one") 915), (Value.str (S "other") 916), (Value.str (S "rows") 917)]) 0) (List.toArray [])
abbrev o540 (P : Params) : Obj := Obj.mk (Value.type "tuple") none (Data.seq (List.toArray []) 0) (List.toArray [])
abbrev o542 (P : Params) : Obj := Obj.mk (Value.type "code") none (Data.fields (List.toArray [(Value.str (S "endless_holds") 910), (Value.str (S "endless_holds") 911), (Value.str (S "/claim/cut.py") 912), (Value.int (Int.ofNat 321) 0), (Value.int (Int.ofNat 4) 0), (Value.int (Int.ofNat 0) 0), (Value.int (Int.ofNat 0) 0), (Value.int (Int.ofNat 3) 0), (R 537), (Value.bool true), (Value.int (Int.ofNat 181) 0), (R 538), Value.none, (R 539), (R 540), (R 541), (Value.int (Int.ofNat 918) 0), (Value.int (Int.ofNat 321) 0), (Value.str (S "/claim/cut.py") 919)])) (List.toArray [])
abbrev o543 (P : Params) : Obj := Obj.mk (Value.type "function") none (Data.func (FuncData.mk (S "endless_holds") (S "endless_holds") (defArgs (T 67)) (FuncBody.stmts (defBody (T 67))) (defScope (T 67)) 3 [] Value.none Value.none Value.none (Value.str (S "budwright.kinds") 781) none (R 542) Value.none 0)) (List.toArray [])
abbrev o544 (P : Params) : Obj := Obj.mk (Value.type "tuple") none (Data.seq (List.toArray []) 0) (List.toArray [])
abbrev o546 (P : Params) : Obj := Obj.mk (Value.type "tuple") none (Data.seq (List.toArray [(Value.str (S "table") 926), (Value.str (S "units") 927)]) 0) (List.toArray [])
abbrev o547 (P : Params) : Obj := Obj.mk (Value.type "tuple") none (Data.seq (List.toArray []) 0) (List.toArray [])
abbrev o549 (P : Params) : Obj := Obj.mk (Value.type "code") none (Data.fields (List.toArray [(Value.str (S "first_seed") 923), (Value.str (S "first_seed") 924), (Value.str (S "/claim/cut.py") 925), (Value.int (Int.ofNat 328) 0), (Value.int (Int.ofNat 1) 0), (Value.int (Int.ofNat 0) 0), (Value.int (Int.ofNat 0) 0), (Value.int (Int.ofNat 3) 0), (R 544), (Value.bool true), (Value.int (Int.ofNat 181) 0), (R 545), Value.none, (R 546), (R 547), (R 548), (Value.int (Int.ofNat 928) 0), (Value.int (Int.ofNat 328) 0), (Value.str (S "/claim/cut.py") 929)])) (List.toArray [])
abbrev o550 (P : Params) : Obj := Obj.mk (Value.type "function") none (Data.func (FuncData.mk (S "first_seed") (S "first_seed") (defArgs (T 69)) (FuncBody.stmts (defBody (T 69))) (defScope (T 69)) 3 [] Value.none Value.none Value.none (Value.str (S "budwright.seeds") 921) none (R 549) Value.none 0)) (List.toArray [])
abbrev o551 (P : Params) : Obj := Obj.mk (Value.type "tuple") none (Data.seq (List.toArray []) 0) (List.toArray [])
abbrev o553 (P : Params) : Obj := Obj.mk (Value.type "tuple") none (Data.seq (List.toArray [(Value.str (S "hue") 934)]) 0) (List.toArray [])
abbrev o554 (P : Params) : Obj := Obj.mk (Value.type "tuple") none (Data.seq (List.toArray []) 0) (List.toArray [])
abbrev o556 (P : Params) : Obj := Obj.mk (Value.type "code") none (Data.fields (List.toArray [(Value.str (S "sign_of") 931), (Value.str (S "sign_of") 932), (Value.str (S "/claim/cut.py") 933), (Value.int (Int.ofNat 331) 0), (Value.int (Int.ofNat 1) 0), (Value.int (Int.ofNat 0) 0), (Value.int (Int.ofNat 0) 0), (Value.int (Int.ofNat 3) 0), (R 551), (Value.bool true), (Value.int (Int.ofNat 181) 0), (R 552), Value.none, (R 553), (R 554), (R 555), (Value.int (Int.ofNat 935) 0), (Value.int (Int.ofNat 331) 0), (Value.str (S "/claim/cut.py") 936)])) (List.toArray [])
abbrev o557 (P : Params) : Obj := Obj.mk (Value.type "function") none (Data.func (FuncData.mk (S "sign_of") (S "sign_of") (defArgs (T 70)) (FuncBody.stmts (defBody (T 70))) (defScope (T 70)) 3 [] Value.none Value.none Value.none (Value.str (S "budwright.seeds") 921) none (R 556) Value.none 0)) (List.toArray [])
abbrev o558 (P : Params) : Obj := Obj.mk (Value.type "tuple") none (Data.seq (List.toArray []) 0) (List.toArray [])
abbrev o561 (P : Params) : Obj := Obj.mk (Value.type "code") none (Data.fields (List.toArray [(Value.str (S "minus") 938), (Value.str (S "minus") 939), (Value.str (S "/claim/cut.py") 940), (Value.int (Int.ofNat 333) 0), (Value.int (Int.ofNat 1) 0), (Value.int (Int.ofNat 0) 0), (Value.int (Int.ofNat 0) 0), (Value.int (Int.ofNat 3) 0), (R 558), (Value.bool true), (Value.int (Int.ofNat 181) 0), (R 559), Value.none, Value.none, Value.none, (R 560), (Value.int (Int.ofNat 941) 0), (Value.int (Int.ofNat 333) 0), (Value.str (S "/claim/cut.py") 942)])) (List.toArray [])
abbrev o562 (P : Params) : Obj := Obj.mk (Value.type "function") none (Data.func (FuncData.mk (S "minus") (S "minus") (defArgs (T 71)) (FuncBody.stmts (defBody (T 71))) (defScope (T 71)) 3 [] Value.none Value.none Value.none (Value.str (S "budwright.seeds") 921) none (R 561) Value.none 0)) (List.toArray [])
abbrev o563 (P : Params) : Obj := Obj.mk (Value.type "tuple") none (Data.seq (List.toArray []) 0) (List.toArray [])
abbrev o566 (P : Params) : Obj := Obj.mk (Value.type "code") none (Data.fields (List.toArray [(Value.str (S "added_often") 944), (Value.str (S "added_often") 945), (Value.str (S "/claim/cut.py") 946), (Value.int (Int.ofNat 335) 0), (Value.int (Int.ofNat 3) 0), (Value.int (Int.ofNat 0) 0), (Value.int (Int.ofNat 0) 0), (Value.int (Int.ofNat 3) 0), (R 563), (Value.bool true), (Value.int (Int.ofNat 181) 0), (R 564), Value.none, Value.none, Value.none, (R 565), (Value.int (Int.ofNat 947) 0), (Value.int (Int.ofNat 335) 0), (Value.str (S "/claim/cut.py") 948)])) (List.toArray [])
abbrev o567 (P : Params) : Obj := Obj.mk (Value.type "function") none (Data.func (FuncData.mk (S "added_often") (S "added_often") (defArgs (T 72)) (FuncBody.stmts (defBody (T 72))) (defScope (T 72)) 3 [] Value.none Value.none Value.none (Value.str (S "budwright.seeds") 921) none (R 566) Value.none 0)) (List.toArray [])
abbrev o568 (P : Params) : Obj := Obj.mk (Value.type "tuple") none (Data.seq (List.toArray []) 0) (List.toArray [])
abbrev o571 (P : Params) : Obj := Obj.mk (Value.type "code") none (Data.fields (List.toArray [(Value.str (S "turned_hues") 950), (Value.str (S "turned_hues") 951), (Value.str (S "/claim/cut.py") 952), (Value.int (Int.ofNat 339) 0), (Value.int (Int.ofNat 3) 0), (Value.int (Int.ofNat 0) 0), (Value.int (Int.ofNat 0) 0), (Value.int (Int.ofNat 3) 0), (R 568), (Value.bool true), (Value.int (Int.ofNat 181) 0), (R 569), Value.none, Value.none, Value.none, (R 570), (Value.int (Int.ofNat 953) 0), (Value.int (Int.ofNat 339) 0), (Value.str (S "/claim/cut.py") 954)])) (List.toArray [])
abbrev o572 (P : Params) : Obj := Obj.mk (Value.type "function") none (Data.func (FuncData.mk (S "turned_hues") (S "turned_hues") (defArgs (T 73)) (FuncBody.stmts (defBody (T 73))) (defScope (T 73)) 3 [] Value.none Value.none Value.none (Value.str (S "budwright.seeds") 921) none (R 571) Value.none 0)) (List.toArray [])
abbrev o573 (P : Params) : Obj := Obj.mk (Value.type "tuple") none (Data.seq (List.toArray []) 0) (List.toArray [])
abbrev o575 (P : Params) : Obj := Obj.mk (Value.type "tuple") none (Data.seq (List.toArray [(Value.str (S "ties") 959), (Value.str (S "hues") 960), (Value.str (S "leans") 961), (Value.str (S "place") 962), (Value.str (S "sign") 963), (Value.str (S "fresh") 964), (Value.str (S "lean") 965), (Value.str (S "row") 966)]) 0) (List.toArray [])
abbrev o576 (P : Params) : Obj := Obj.mk (Value.type "tuple") none (Data.seq (List.toArray []) 0) (List.toArray [])
abbrev o578 (P : Params) : Obj := Obj.mk (Value.type "code") none (Data.fields (List.toArray [(Value.str (S "fresh_lean") 956), (Value.str (S "fresh_lean") 957), (Value.str (S "/claim/cut.py") 958), (Value.int (Int.ofNat 345) 0), (Value.int (Int.ofNat 4) 0), (Value.int (Int.ofNat 0) 0), (Value.int (Int.ofNat 0) 0), (Value.int (Int.ofNat 3) 0), (R 573), (Value.bool true), (Value.int (Int.ofNat 181) 0), (R 574), Value.none, (R 575), (R 576), (R 577), (Value.int (Int.ofNat 967) 0), (Value.int (Int.ofNat 345) 0), (Value.str (S "/claim/cut.py") 968)])) (List.toArray [])
abbrev o579 (P : Params) : Obj := Obj.mk (Value.type "function") none (Data.func (FuncData.mk (S "fresh_lean") (S "fresh_lean") (defArgs (T 74)) (FuncBody.stmts (defBody (T 74))) (defScope (T 74)) 3 [] Value.none Value.none Value.none (Value.str (S "budwright.seeds") 921) none (R 578) Value.none 0)) (List.toArray [])
abbrev o580 (P : Params) : Obj := Obj.mk (Value.type "tuple") none (Data.seq (List.toArray []) 0) (List.toArray [])
abbrev o582 (P : Params) : Obj := Obj.mk (Value.type "tuple") none (Data.seq (List.toArray [(Value.str (S "ties") 973), (Value.str (S "hues") 974), (Value.str (S "leans") 975), (Value.str (S "place") 976)]) 0) (List.toArray [])
abbrev o583 (P : Params) : Obj := Obj.mk (Value.type "tuple") none (Data.seq (List.toArray []) 0) (List.toArray [])
abbrev o585 (P : Params) : Obj := Obj.mk (Value.type "code") none (Data.fields (List.toArray [(Value.str (S "turned_leans") 970), (Value.str (S "turned_leans") 971), (Value.str (S "/claim/cut.py") 972), (Value.int (Int.ofNat 351) 0), (Value.int (Int.ofNat 4) 0), (Value.int (Int.ofNat 0) 0), (Value.int (Int.ofNat 0) 0), (Value.int (Int.ofNat 3) 0), (R 580), (Value.bool true), (Value.int (Int.ofNat 181) 0), (R 581), Value.none, (R 582), (R 583), (R 584), (Value.int (Int.ofNat 977) 0), (Value.int (Int.ofNat 351) 0), (Value.str (S "/claim/cut.py") 978)])) (List.toArray [])
abbrev o586 (P : Params) : Obj := Obj.mk (Value.type "function") none (Data.func (FuncData.mk (S "turned_leans") (S "turned_leans") (defArgs (T 75)) (FuncBody.stmts (defBody (T 75))) (defScope (T 75)) 3 [] Value.none Value.none Value.none (Value.str (S "budwright.seeds") 921) none (R 585) Value.none 0)) (List.toArray [])
abbrev o587 (P : Params) : Obj := Obj.mk (Value.type "tuple") none (Data.seq (List.toArray []) 0) (List.toArray [])
abbrev o589 (P : Params) : Obj := Obj.mk (Value.type "tuple") none (Data.seq (List.toArray [(Value.str (S "seed") 983), (Value.str (S "place") 984), (Value.str (S "ties") 985), (Value.str (S "hues") 986), (Value.str (S "leans") 987)]) 0) (List.toArray [])
abbrev o590 (P : Params) : Obj := Obj.mk (Value.type "tuple") none (Data.seq (List.toArray []) 0) (List.toArray [])
abbrev o592 (P : Params) : Obj := Obj.mk (Value.type "code") none (Data.fields (List.toArray [(Value.str (S "turned_seed") 980), (Value.str (S "turned_seed") 981), (Value.str (S "/claim/cut.py") 982), (Value.int (Int.ofNat 353) 0), (Value.int (Int.ofNat 2) 0), (Value.int (Int.ofNat 0) 0), (Value.int (Int.ofNat 0) 0), (Value.int (Int.ofNat 3) 0), (R 587), (Value.bool true), (Value.int (Int.ofNat 181) 0), (R 588), Value.none, (R 589), (R 590), (R 591), (Value.int (Int.ofNat 988) 0), (Value.int (Int.ofNat 353) 0), (Value.str (S "/claim/cut.py") 989)])) (List.toArray [])
abbrev o593 (P : Params) : Obj := Obj.mk (Value.type "function") none (Data.func (FuncData.mk (S "turned_seed") (S "turned_seed") (defArgs (T 76)) (FuncBody.stmts (defBody (T 76))) (defScope (T 76)) 3 [] Value.none Value.none Value.none (Value.str (S "budwright.seeds") 921) none (R 592) Value.none 0)) (List.toArray [])
abbrev o594 (P : Params) : Obj := Obj.mk (Value.type "tuple") none (Data.seq (List.toArray []) 0) (List.toArray [])
abbrev o596 (P : Params) : Obj := Obj.mk (Value.type "tuple") none (Data.seq (List.toArray [(Value.str (S "number") 996), (Value.str (S "many") 997)]) 0) (List.toArray [])
abbrev o597 (P : Params) : Obj := Obj.mk (Value.type "tuple") none (Data.seq (List.toArray []) 0) (List.toArray [])
abbrev o599 (P : Params) : Obj := Obj.mk (Value.type "code") none (Data.fields (List.toArray [(Value.str (S "is_number_below") 993), (Value.str (S "is_number_below") 994), (Value.str (S "/claim/cut.py") 995), (Value.int (Int.ofNat 357) 0), (Value.int (Int.ofNat 2) 0), (Value.int (Int.ofNat 0) 0), (Value.int (Int.ofNat 0) 0), (Value.int (Int.ofNat 3) 0), (R 594), (Value.bool true), (Value.int (Int.ofNat 181) 0), (R 595), Value.none, (R 596), (R 597), (R 598), (Value.int (Int.ofNat 998) 0), (Value.int (Int.ofNat 357) 0), (Value.str (S "/claim/cut.py") 999)])) (List.toArray [])
abbrev o600 (P : Params) : Obj := Obj.mk (Value.type "function") none (Data.func (FuncData.mk (S "is_number_below") (S "is_number_below") (defArgs (T 78)) (FuncBody.stmts (defBody (T 78))) (defScope (T 78)) 3 [] Value.none Value.none Value.none (Value.str (S "budwright.maps") 991) none (R 599) Value.none 0)) (List.toArray [])
abbrev o601 (P : Params) : Obj := Obj.mk (Value.type "tuple") none (Data.seq (List.toArray []) 0) (List.toArray [])
abbrev o604 (P : Params) : Obj := Obj.mk (Value.type "code") none (Data.fields (List.toArray [(Value.str (S "fallen_seed") 1001), (Value.str (S "fallen_seed") 1002), (Value.str (S "/claim/cut.py") 1003), (Value.int (Int.ofNat 359) 0), (Value.int (Int.ofNat 1) 0), (Value.int (Int.ofNat 0) 0), (Value.int (Int.ofNat 0) 0), (Value.int (Int.ofNat 3) 0), (R 601), (Value.bool true), (Value.int (Int.ofNat 181) 0), (R 602), Value.none, Value.none, Value.none, (R 603), (Value.int (Int.ofNat 1004) 0), (Value.int (Int.ofNat 359) 0), (Value.str (S "/claim/cut.py") 1005)])) (List.toArray [])
abbrev o605 (P : Params) : Obj := Obj.mk (Value.type "function") none (Data.func (FuncData.mk (S "fallen_seed") (S "fallen_seed") (defArgs (T 79)) (FuncBody.stmts (defBody (T 79))) (defScope (T 79)) 3 [] Value.none Value.none Value.none (Value.str (S "budwright.maps") 991) none (R 604) Value.none 0)) (List.toArray [])
abbrev o606 (P : Params) : Obj := Obj.mk (Value.type "tuple") none (Data.seq (List.toArray []) 0) (List.toArray [])
abbrev o608 (P : Params) : Obj := Obj.mk (Value.type "tuple") none (Data.seq (List.toArray [(Value.str (S "seeds") 1010), (Value.str (S "numbers") 1011), (Value.str (S "ends") 1012), (Value.str (S "at") 1013), (Value.str (S "place") 1014), (Value.str (S "ties") 1015), (Value.str (S "hues") 1016), (Value.str (S "leans") 1017), (Value.str (S "fresh") 1018), (Value.str (S "behind") 1019)]) 0) (List.toArray [])
abbrev o609 (P : Params) : Obj := Obj.mk (Value.type "tuple") none (Data.seq (List.toArray []) 0) (List.toArray [])
abbrev o611 (P : Params) : Obj := Obj.mk (Value.type "code") none (Data.fields (List.toArray [(Value.str (S "draw_exchange") 1007), (Value.str (S "draw_exchange") 1008), (Value.str (S "/claim/cut.py") 1009), (Value.int (Int.ofNat 364) 0), (Value.int (Int.ofNat 5) 0), (Value.int (Int.ofNat 0) 0), (Value.int (Int.ofNat 0) 0), (Value.int (Int.ofNat 3) 0), (R 606), (Value.bool true), (Value.int (Int.ofNat 181) 0), (R 607), Value.none, (R 608), (R 609), (R 610), (Value.int (Int.ofNat 1020) 0), (Value.int (Int.ofNat 364) 0), (Value.str (S "/claim/cut.py") 1021)])) (List.toArray [])
abbrev o612 (P : Params) : Obj := Obj.mk (Value.type "function") none (Data.func (FuncData.mk (S "draw_exchange") (S "draw_exchange") (defArgs (T 80)) (FuncBody.stmts (defBody (T 80))) (defScope (T 80)) 3 [] Value.none Value.none Value.none (Value.str (S "budwright.maps") 991) none (R 611) Value.none 0)) (List.toArray [])
abbrev o613 (P : Params) : Obj := Obj.mk (Value.type "tuple") none (Data.seq (List.toArray []) 0) (List.toArray [])
abbrev o616 (P : Params) : Obj := Obj.mk (Value.type "code") none (Data.fields (List.toArray [(Value.str (S "drawn_rows") 1023), (Value.str (S "drawn_rows") 1024), (Value.str (S "/claim/cut.py") 1025), (Value.int (Int.ofNat 374) 0), (Value.int (Int.ofNat 1) 0), (Value.int (Int.ofNat 0) 0), (Value.int (Int.ofNat 0) 0), (Value.int (Int.ofNat 3) 0), (R 613), (Value.bool true), (Value.int (Int.ofNat 181) 0), (R 614), Value.none, Value.none, Value.none, (R 615), (Value.int (Int.ofNat 1026) 0), (Value.int (Int.ofNat 374) 0), (Value.str (S "/claim/cut.py") 1027)])) (List.toArray [])
abbrev o617 (P : Params) : Obj := Obj.mk (Value.type "function") none (Data.func (FuncData.mk (S "drawn_rows") (S "drawn_rows") (defArgs (T 81)) (FuncBody.stmts (defBody (T 81))) (defScope (T 81)) 3 [] Value.none Value.none Value.none (Value.str (S "budwright.maps") 991) none (R 616) Value.none 0)) (List.toArray [])
abbrev o618 (P : Params) : Obj := Obj.mk (Value.type "tuple") none (Data.seq (List.toArray []) 0) (List.toArray [])
abbrev o620 (P : Params) : Obj := Obj.mk (Value.type "tuple") none (Data.seq (List.toArray [(Value.str (S "rows") 1032), (Value.str (S "number") 1033), (Value.str (S "found") 1034), (Value.str (S "waiting") 1035), (Value.str (S "at") 1036), (Value.str (S "now") 1037), (Value.str (S "end") 1038)]) 0) (List.toArray [])
abbrev o621 (P : Params) : Obj := Obj.mk (Value.type "tuple") none (Data.seq (List.toArray []) 0) (List.toArray [])
abbrev o623 (P : Params) : Obj := Obj.mk (Value.type "code") none (Data.fields (List.toArray [(Value.str (S "distances") 1029), (Value.str (S "distances") 1030), (Value.str (S "/claim/cut.py") 1031), (Value.int (Int.ofNat 386) 0), (Value.int (Int.ofNat 2) 0), (Value.int (Int.ofNat 0) 0), (Value.int (Int.ofNat 0) 0), (Value.int (Int.ofNat 3) 0), (R 618), (Value.bool true), (Value.int (Int.ofNat 181) 0), (R 619), Value.none, (R 620), (R 621), (R 622), (Value.int (Int.ofNat 1039) 0), (Value.int (Int.ofNat 386) 0), (Value.str (S "/claim/cut.py") 1040)])) (List.toArray [])
abbrev o624 (P : Params) : Obj := Obj.mk (Value.type "function") none (Data.func (FuncData.mk (S "distances") (S "distances") (defArgs (T 82)) (FuncBody.stmts (defBody (T 82))) (defScope (T 82)) 3 [] Value.none Value.none Value.none (Value.str (S "budwright.maps") 991) none (R 623) Value.none 0)) (List.toArray [])
abbrev o632 (P : Params) : Obj := Obj.mk (Value.type "tuple") none (Data.seq (List.toArray []) 0) (List.toArray [])
abbrev o634 (P : Params) : Obj := Obj.mk (Value.type "tuple") none (Data.seq (List.toArray [(Value.str (S "self") 1057), (Value.str (S "table") 1058), (Value.str (S "told") 1059)]) 0) (List.toArray [])
abbrev o635 (P : Params) : Obj := Obj.mk (Value.type "tuple") none (Data.seq (List.toArray []) 0) (List.toArray [])
abbrev o637 (P : Params) : Obj := Obj.mk (Value.type "code") none (Data.fields (List.toArray [(Value.str (S "__init__") 1054), (Value.str (S "WebMap.__init__") 1055), (Value.str (S "/claim/cut.py") 1056), (Value.int (Int.ofNat 400) 0), (Value.int (Int.ofNat 2) 0), (Value.int (Int.ofNat 0) 0), (Value.int (Int.ofNat 0) 0), (Value.int (Int.ofNat 3) 0), (R 632), (Value.bool true), (Value.int (Int.ofNat 181) 0), (R 633), Value.none, (R 634), (R 635), (R 636), (Value.int (Int.ofNat 1060) 0), (Value.int (Int.ofNat 400) 0), (Value.str (S "/claim/cut.py") 1061)])) (List.toArray [])
abbrev o638 (P : Params) : Obj := Obj.mk (Value.type "function") none (Data.func (FuncData.mk (S "__init__") (S "WebMap.__init__") (defArgs (M 83 0)) (FuncBody.stmts (defBody (M 83 0))) (defScope (M 83 0)) 3 [] Value.none Value.none Value.none (Value.str (S "budwright.maps") 991) none (R 637) Value.none 0)) (List.toArray [])
abbrev o639 (P : Params) : Obj := Obj.mk (Value.type "tuple") none (Data.seq (List.toArray []) 0) (List.toArray [])
abbrev o641 (P : Params) : Obj := Obj.mk (Value.type "tuple") none (Data.seq (List.toArray [(Value.str (S "self") 1066)]) 0) (List.toArray [])
abbrev o642 (P : Params) : Obj := Obj.mk (Value.type "tuple") none (Data.seq (List.toArray []) 0) (List.toArray [])
abbrev o644 (P : Params) : Obj := Obj.mk (Value.type "code") none (Data.fields (List.toArray [(Value.str (S "rows") 1063), (Value.str (S "WebMap.rows") 1064), (Value.str (S "/claim/cut.py") 1065), (Value.int (Int.ofNat 406) 0), (Value.int (Int.ofNat 1) 0), (Value.int (Int.ofNat 0) 0), (Value.int (Int.ofNat 0) 0), (Value.int (Int.ofNat 3) 0), (R 639), (Value.bool true), (Value.int (Int.ofNat 181) 0), (R 640), Value.none, (R 641), (R 642), (R 643), (Value.int (Int.ofNat 1067) 0), (Value.int (Int.ofNat 406) 0), (Value.str (S "/claim/cut.py") 1068)])) (List.toArray [])
abbrev o645 (P : Params) : Obj := Obj.mk (Value.type "function") none (Data.func (FuncData.mk (S "rows") (S "WebMap.rows") (defArgs (M 83 1)) (FuncBody.stmts (defBody (M 83 1))) (defScope (M 83 1)) 3 [] Value.none Value.none Value.none (Value.str (S "budwright.maps") 991) none (R 644) Value.none 0)) (List.toArray [])
abbrev o646 (P : Params) : Obj := Obj.mk (Value.type "tuple") none (Data.seq (List.toArray []) 0) (List.toArray [])
abbrev o649 (P : Params) : Obj := Obj.mk (Value.type "code") none (Data.fields (List.toArray [(Value.str (S "buds") 1070), (Value.str (S "WebMap.buds") 1071), (Value.str (S "/claim/cut.py") 1072), (Value.int (Int.ofNat 409) 0), (Value.int (Int.ofNat 1) 0), (Value.int (Int.ofNat 0) 0), (Value.int (Int.ofNat 0) 0), (Value.int (Int.ofNat 3) 0), (R 646), (Value.bool true), (Value.int (Int.ofNat 181) 0), (R 647), Value.none, Value.none, Value.none, (R 648), (Value.int (Int.ofNat 1073) 0), (Value.int (Int.ofNat 409) 0), (Value.str (S "/claim/cut.py") 1074)])) (List.toArray [])
abbrev o650 (P : Params) : Obj := Obj.mk (Value.type "function") none (Data.func (FuncData.mk (S "buds") (S "WebMap.buds") (defArgs (M 83 2)) (FuncBody.stmts (defBody (M 83 2))) (defScope (M 83 2)) 3 [] Value.none Value.none Value.none (Value.str (S "budwright.maps") 991) none (R 649) Value.none 0)) (List.toArray [])
abbrev o651 (P : Params) : Obj := Obj.mk (Value.type "tuple") none (Data.seq (List.toArray []) 0) (List.toArray [])
abbrev o653 (P : Params) : Obj := Obj.mk (Value.type "tuple") none (Data.seq (List.toArray [(Value.str (S "self") 1079), (Value.str (S "leans") 1080)]) 0) (List.toArray [])
abbrev o654 (P : Params) : Obj := Obj.mk (Value.type "tuple") none (Data.seq (List.toArray []) 0) (List.toArray [])
abbrev o656 (P : Params) : Obj := Obj.mk (Value.type "code") none (Data.fields (List.toArray [(Value.str (S "number_of") 1076), (Value.str (S "WebMap.number_of") 1077), (Value.str (S "/claim/cut.py") 1078), (Value.int (Int.ofNat 413) 0), (Value.int (Int.ofNat 2) 0), (Value.int (Int.ofNat 0) 0), (Value.int (Int.ofNat 0) 0), (Value.int (Int.ofNat 3) 0), (R 651), (Value.bool true), (Value.int (Int.ofNat 181) 0), (R 652), Value.none, (R 653), (R 654), (R 655), (Value.int (Int.ofNat 1081) 0), (Value.int (Int.ofNat 413) 0), (Value.str (S "/claim/cut.py") 1082)])) (List.toArray [])
abbrev o657 (P : Params) : Obj := Obj.mk (Value.type "function") none (Data.func (FuncData.mk (S "number_of") (S "WebMap.number_of") (defArgs (M 83 3)) (FuncBody.stmts (defBody (M 83 3))) (defScope (M 83 3)) 3 [] Value.none Value.none Value.none (Value.str (S "budwright.maps") 991) none (R 656) Value.none 0)) (List.toArray [])
abbrev o658 (P : Params) : Obj := Obj.mk (Value.type "tuple") none (Data.seq (List.toArray []) 0) (List.toArray [])
abbrev o660 (P : Params) : Obj := Obj.mk (Value.type "tuple") none (Data.seq (List.toArray [(Value.str (S "self") 1087), (Value.str (S "number") 1088)]) 0) (List.toArray [])
abbrev o661 (P : Params) : Obj := Obj.mk (Value.type "tuple") none (Data.seq (List.toArray []) 0) (List.toArray [])
abbrev o663 (P : Params) : Obj := Obj.mk (Value.type "code") none (Data.fields (List.toArray [(Value.str (S "check_row") 1084), (Value.str (S "WebMap.check_row") 1085), (Value.str (S "/claim/cut.py") 1086), (Value.int (Int.ofNat 416) 0), (Value.int (Int.ofNat 2) 0), (Value.int (Int.ofNat 0) 0), (Value.int (Int.ofNat 0) 0), (Value.int (Int.ofNat 3) 0), (R 658), (Value.bool true), (Value.int (Int.ofNat 181) 0), (R 659), Value.none, (R 660), (R 661), (R 662), (Value.int (Int.ofNat 1089) 0), (Value.int (Int.ofNat 416) 0), (Value.str (S "/claim/cut.py") 1090)])) (List.toArray [])
abbrev o664 (P : Params) : Obj := Obj.mk (Value.type "function") none (Data.func (FuncData.mk (S "check_row") (S "WebMap.check_row") (defArgs (M 83 4)) (FuncBody.stmts (defBody (M 83 4))) (defScope (M 83 4)) 3 [] Value.none Value.none Value.none (Value.str (S "budwright.maps") 991) none (R 663) Value.none 0)) (List.toArray [])
abbrev o665 (P : Params) : Obj := Obj.mk (Value.type "tuple") none (Data.seq (List.toArray []) 0) (List.toArray [])
abbrev o668 (P : Params) : Obj := Obj.mk (Value.type "code") none (Data.fields (List.toArray [(Value.str (S "way") 1092), (Value.str (S "WebMap.way") 1093), (Value.str (S "/claim/cut.py") 1094), (Value.int (Int.ofNat 420) 0), (Value.int (Int.ofNat 3) 0), (Value.int (Int.ofNat 0) 0), (Value.int (Int.ofNat 0) 0), (Value.int (Int.ofNat 3) 0), (R 665), (Value.bool true), (Value.int (Int.ofNat 181) 0), (R 666), Value.none, Value.none, Value.none, (R 667), (Value.int (Int.ofNat 1095) 0), (Value.int (Int.ofNat 420) 0), (Value.str (S "/claim/cut.py") 1096)])) (List.toArray [])
abbrev o669 (P : Params) : Obj := Obj.mk (Value.type "function") none (Data.func (FuncData.mk (S "way") (S "WebMap.way") (defArgs (M 83 5)) (FuncBody.stmts (defBody (M 83 5))) (defScope (M 83 5)) 3 [] Value.none Value.none Value.none (Value.str (S "budwright.maps") 991) none (R 668) Value.none 0)) (List.toArray [])
abbrev o670 (P : Params) : Obj := Obj.mk (Value.type "tuple") none (Data.seq (List.toArray []) 0) (List.toArray [])
abbrev o672 (P : Params) : Obj := Obj.mk (Value.type "tuple") none (Data.seq (List.toArray [(Value.str (S "self") 1101), (Value.str (S "number") 1102)]) 0) (List.toArray [])
abbrev o673 (P : Params) : Obj := Obj.mk (Value.type "tuple") none (Data.seq (List.toArray []) 0) (List.toArray [])
abbrev o675 (P : Params) : Obj := Obj.mk (Value.type "code") none (Data.fields (List.toArray [(Value.str (S "walk_to") 1098), (Value.str (S "WebMap.walk_to") 1099), (Value.str (S "/claim/cut.py") 1100), (Value.int (Int.ofNat 433) 0), (Value.int (Int.ofNat 2) 0), (Value.int (Int.ofNat 0) 0), (Value.int (Int.ofNat 0) 0), (Value.int (Int.ofNat 3) 0), (R 670), (Value.bool true), (Value.int (Int.ofNat 181) 0), (R 671), Value.none, (R 672), (R 673), (R 674), (Value.int (Int.ofNat 1103) 0), (Value.int (Int.ofNat 433) 0), (Value.str (S "/claim/cut.py") 1104)])) (List.toArray [])
abbrev o676 (P : Params) : Obj := Obj.mk (Value.type "function") none (Data.func (FuncData.mk (S "walk_to") (S "WebMap.walk_to") (defArgs (M 83 6)) (FuncBody.stmts (defBody (M 83 6))) (defScope (M 83 6)) 3 [] Value.none Value.none Value.none (Value.str (S "budwright.maps") 991) none (R 675) Value.none 0)) (List.toArray [])
abbrev o677 (P : Params) : Obj := Obj.mk (Value.type "tuple") none (Data.seq (List.toArray []) 0) (List.toArray [])
abbrev o679 (P : Params) : Obj := Obj.mk (Value.type "tuple") none (Data.seq (List.toArray [(Value.str (S "self") 1109)]) 0) (List.toArray [])
abbrev o680 (P : Params) : Obj := Obj.mk (Value.type "tuple") none (Data.seq (List.toArray []) 0) (List.toArray [])
abbrev o682 (P : Params) : Obj := Obj.mk (Value.type "code") none (Data.fields (List.toArray [(Value.str (S "__len__") 1106), (Value.str (S "WebMap.__len__") 1107), (Value.str (S "/claim/cut.py") 1108), (Value.int (Int.ofNat 436) 0), (Value.int (Int.ofNat 1) 0), (Value.int (Int.ofNat 0) 0), (Value.int (Int.ofNat 0) 0), (Value.int (Int.ofNat 3) 0), (R 677), (Value.bool true), (Value.int (Int.ofNat 181) 0), (R 678), Value.none, (R 679), (R 680), (R 681), (Value.int (Int.ofNat 1110) 0), (Value.int (Int.ofNat 436) 0), (Value.str (S "/claim/cut.py") 1111)])) (List.toArray [])
abbrev o683 (P : Params) : Obj := Obj.mk (Value.type "function") none (Data.func (FuncData.mk (S "__len__") (S "WebMap.__len__") (defArgs (M 83 7)) (FuncBody.stmts (defBody (M 83 7))) (defScope (M 83 7)) 3 [] Value.none Value.none Value.none (Value.str (S "budwright.maps") 991) none (R 682) Value.none 0)) (List.toArray [])
abbrev o684 (P : Params) : Obj := Obj.mk (Value.type "tuple") none (Data.seq (List.toArray []) 0) (List.toArray [])
abbrev o686 (P : Params) : Obj := Obj.mk (Value.type "tuple") none (Data.seq (List.toArray [(Value.str (S "self") 1116)]) 0) (List.toArray [])
abbrev o687 (P : Params) : Obj := Obj.mk (Value.type "tuple") none (Data.seq (List.toArray []) 0) (List.toArray [])
abbrev o689 (P : Params) : Obj := Obj.mk (Value.type "code") none (Data.fields (List.toArray [(Value.str (S "__repr__") 1113), (Value.str (S "WebMap.__repr__") 1114), (Value.str (S "/claim/cut.py") 1115), (Value.int (Int.ofNat 439) 0), (Value.int (Int.ofNat 1) 0), (Value.int (Int.ofNat 0) 0), (Value.int (Int.ofNat 0) 0), (Value.int (Int.ofNat 3) 0), (R 684), (Value.bool true), (Value.int (Int.ofNat 181) 0), (R 685), Value.none, (R 686), (R 687), (R 688), (Value.int (Int.ofNat 1117) 0), (Value.int (Int.ofNat 439) 0), (Value.str (S "/claim/cut.py") 1118)])) (List.toArray [])
abbrev o690 (P : Params) : Obj := Obj.mk (Value.type "function") none (Data.func (FuncData.mk (S "__repr__") (S "WebMap.__repr__") (defArgs (M 83 8)) (FuncBody.stmts (defBody (M 83 8))) (defScope (M 83 8)) 3 [] Value.none Value.none Value.none (Value.str (S "budwright.maps") 991) none (R 689) Value.none 0)) (List.toArray [])
abbrev o691 (P : Params) : Obj := Obj.mk (Value.type "tuple") none (Data.seq (List.toArray [(Value.str (S "drawn") 1120)]) 0) (List.toArray [])
abbrev o692 (P : Params) : Obj := Obj.mk (Value.type "dict") none (Data.dict (List.toArray [E P "__module__" 1049 (Value.str (S "budwright.maps") 991), E P "__firstlineno__" 1053 (Value.int (Int.ofNat 398) 1052), E P "__init__" 1062 (R 638), E P "rows" 1069 (R 645), E P "buds" 1075 (R 650), E P "number_of" 1083 (R 657), E P "check_row" 1091 (R 664), E P "way" 1097 (R 669), E P "walk_to" 1105 (R 676), E P "__len__" 1112 (R 683), E P "__repr__" 1119 (R 690), E P "__static_attributes__" 1121 (R 691), E P "__dict__" 1123 (R 694), E P "__weakref__" 1125 (R 695), E P "__doc__" 1126 Value.none]) 4) (List.toArray [])
abbrev o693 (P : Params) : Obj := Obj.mk (Value.type "type") none (Data.cls (ClassData.mk (S "WebMap") [(Value.type "object")] [(R 693), (Value.type "object")] 692 (S "WebMap") true [] [] false none false)) (List.toArray [none, none, (some (Value.str (S "WebMap") 1042)), (some (Value.str (S "WebMap") 1050)), (some (Value.builtin "object.__new__")), (some (Value.bool true))])
abbrev o694 (P : Params) : Obj := Obj.mk (Value.type "getset_descriptor") none (Data.fields (List.toArray [(Value.str (S "__dict__") 1122), (R 693), (Value.builtin "function.__dict__"), (Value.builtin "function.__dict__#set")])) (List.toArray [])
abbrev o695 (P : Params) : Obj := Obj.mk (Value.type "getset_descriptor") none (Data.fields (List.toArray [(Value.str (S "__weakref__") 1124), (R 693), (Value.builtin "ExceptionGroup.__weakref__"), Value.none])) (List.toArray [])
abbrev o698 (P : Params) : Obj := Obj.mk (Value.type "tuple") none (Data.seq (List.toArray []) 0) (List.toArray [])
abbrev o701 (P : Params) : Obj := Obj.mk (Value.type "code") none (Data.fields (List.toArray [(Value.str (S "map_holds") 1129), (Value.str (S "map_holds") 1130), (Value.str (S "/claim/cut.py") 1131), (Value.int (Int.ofNat 441) 0), (Value.int (Int.ofNat 2) 0), (Value.int (Int.ofNat 0) 0), (Value.int (Int.ofNat 0) 0), (Value.int (Int.ofNat 3) 0), (R 698), (Value.bool true), (Value.int (Int.ofNat 181) 0), (R 699), Value.none, Value.none, Value.none, (R 700), (Value.int (Int.ofNat 1132) 0), (Value.int (Int.ofNat 441) 0), (Value.str (S "/claim/cut.py") 1133)])) (List.toArray [])
abbrev o702 (P : Params) : Obj := Obj.mk (Value.type "function") none (Data.func (FuncData.mk (S "map_holds") (S "map_holds") (defArgs (T 84)) (FuncBody.stmts (defBody (T 84))) (defScope (T 84)) 3 [] Value.none Value.none Value.none (Value.str (S "budwright.maps") 991) none (R 701) Value.none 0)) (List.toArray [])
abbrev o703 (P : Params) : Obj := Obj.mk (Value.type "tuple") none (Data.seq (List.toArray []) 0) (List.toArray [])
abbrev o706 (P : Params) : Obj := Obj.mk (Value.type "code") none (Data.fields (List.toArray [(Value.str (S "added_powers") 1137), (Value.str (S "added_powers") 1138), (Value.str (S "/claim/cut.py") 1139), (Value.int (Int.ofNat 456) 0), (Value.int (Int.ofNat 2) 0), (Value.int (Int.ofNat 0) 0), (Value.int (Int.ofNat 0) 0), (Value.int (Int.ofNat 3) 0), (R 703), (Value.bool true), (Value.int (Int.ofNat 181) 0), (R 704), Value.none, Value.none, Value.none, (R 705), (Value.int (Int.ofNat 1140) 0), (Value.int (Int.ofNat 456) 0), (Value.str (S "/claim/cut.py") 1141)])) (List.toArray [])
abbrev o707 (P : Params) : Obj := Obj.mk (Value.type "function") none (Data.func (FuncData.mk (S "added_powers") (S "added_powers") (defArgs (T 86)) (FuncBody.stmts (defBody (T 86))) (defScope (T 86)) 3 [] Value.none Value.none Value.none (Value.str (S "budwright.products") 1135) none (R 706) Value.none 0)) (List.toArray [])
abbrev o708 (P : Params) : Obj := Obj.mk (Value.type "tuple") none (Data.seq (List.toArray []) 0) (List.toArray [])
abbrev o711 (P : Params) : Obj := Obj.mk (Value.type "code") none (Data.fields (List.toArray [(Value.str (S "lessened_powers") 1143), (Value.str (S "lessened_powers") 1144), (Value.str (S "/claim/cut.py") 1145), (Value.int (Int.ofNat 458) 0), (Value.int (Int.ofNat 2) 0), (Value.int (Int.ofNat 0) 0), (Value.int (Int.ofNat 0) 0), (Value.int (Int.ofNat 3) 0), (R 708), (Value.bool true), (Value.int (Int.ofNat 181) 0), (R 709), Value.none, Value.none, Value.none, (R 710), (Value.int (Int.ofNat 1146) 0), (Value.int (Int.ofNat 458) 0), (Value.str (S "/claim/cut.py") 1147)])) (List.toArray [])
abbrev o712 (P : Params) : Obj := Obj.mk (Value.type "function") none (Data.func (FuncData.mk (S "lessened_powers") (S "lessened_powers") (defArgs (T 87)) (FuncBody.stmts (defBody (T 87))) (defScope (T 87)) 3 [] Value.none Value.none Value.none (Value.str (S "budwright.products") 1135) none (R 711) Value.none 0)) (List.toArray [])
abbrev o713 (P : Params) : Obj := Obj.mk (Value.type "tuple") none (Data.seq (List.toArray []) 0) (List.toArray [])
abbrev o716 (P : Params) : Obj := Obj.mk (Value.type "code") none (Data.fields (List.toArray [(Value.str (S "gathered") 1149), (Value.str (S "gathered") 1150), (Value.str (S "/claim/cut.py") 1151), (Value.int (Int.ofNat 460) 0), (Value.int (Int.ofNat 1) 0), (Value.int (Int.ofNat 0) 0), (Value.int (Int.ofNat 0) 0), (Value.int (Int.ofNat 3) 0), (R 713), (Value.bool true), (Value.int (Int.ofNat 181) 0), (R 714), Value.none, Value.none, Value.none, (R 715), (Value.int (Int.ofNat 1152) 0), (Value.int (Int.ofNat 460) 0), (Value.str (S "/claim/cut.py") 1153)])) (List.toArray [])
abbrev o717 (P : Params) : Obj := Obj.mk (Value.type "function") none (Data.func (FuncData.mk (S "gathered") (S "gathered") (defArgs (T 88)) (FuncBody.stmts (defBody (T 88))) (defScope (T 88)) 3 [] Value.none Value.none Value.none (Value.str (S "budwright.products") 1135) none (R 716) Value.none 0)) (List.toArray [])
abbrev o718 (P : Params) : Obj := Obj.mk (Value.type "tuple") none (Data.seq (List.toArray []) 0) (List.toArray [])
abbrev o721 (P : Params) : Obj := Obj.mk (Value.type "code") none (Data.fields (List.toArray [(Value.str (S "lowest_powers") 1155), (Value.str (S "lowest_powers") 1156), (Value.str (S "/claim/cut.py") 1157), (Value.int (Int.ofNat 466) 0), (Value.int (Int.ofNat 1) 0), (Value.int (Int.ofNat 0) 0), (Value.int (Int.ofNat 0) 0), (Value.int (Int.ofNat 3) 0), (R 718), (Value.bool true), (Value.int (Int.ofNat 181) 0), (R 719), Value.none, Value.none, Value.none, (R 720), (Value.int (Int.ofNat 1158) 0), (Value.int (Int.ofNat 466) 0), (Value.str (S "/claim/cut.py") 1159)])) (List.toArray [])
abbrev o722 (P : Params) : Obj := Obj.mk (Value.type "function") none (Data.func (FuncData.mk (S "lowest_powers") (S "lowest_powers") (defArgs (T 89)) (FuncBody.stmts (defBody (T 89))) (defScope (T 89)) 3 [] Value.none Value.none Value.none (Value.str (S "budwright.products") 1135) none (R 721) Value.none 0)) (List.toArray [])
abbrev o723 (P : Params) : Obj := Obj.mk (Value.type "tuple") none (Data.seq (List.toArray []) 0) (List.toArray [])
abbrev o726 (P : Params) : Obj := Obj.mk (Value.type "code") none (Data.fields (List.toArray [(Value.str (S "highest_powers") 1161), (Value.str (S "highest_powers") 1162), (Value.str (S "/claim/cut.py") 1163), (Value.int (Int.ofNat 469) 0), (Value.int (Int.ofNat 1) 0), (Value.int (Int.ofNat 0) 0), (Value.int (Int.ofNat 0) 0), (Value.int (Int.ofNat 3) 0), (R 723), (Value.bool true), (Value.int (Int.ofNat 181) 0), (R 724), Value.none, Value.none, Value.none, (R 725), (Value.int (Int.ofNat 1164) 0), (Value.int (Int.ofNat 469) 0), (Value.str (S "/claim/cut.py") 1165)])) (List.toArray [])
abbrev o727 (P : Params) : Obj := Obj.mk (Value.type "function") none (Data.func (FuncData.mk (S "highest_powers") (S "highest_powers") (defArgs (T 90)) (FuncBody.stmts (defBody (T 90))) (defScope (T 90)) 3 [] Value.none Value.none Value.none (Value.str (S "budwright.products") 1135) none (R 726) Value.none 0)) (List.toArray [])
abbrev o728 (P : Params) : Obj := Obj.mk (Value.type "tuple") none (Data.seq (List.toArray []) 0) (List.toArray [])
abbrev o731 (P : Params) : Obj := Obj.mk (Value.type "code") none (Data.fields (List.toArray [(Value.str (S "multiplied") 1167), (Value.str (S "multiplied") 1168), (Value.str (S "/claim/cut.py") 1169), (Value.int (Int.ofNat 472) 0), (Value.int (Int.ofNat 2) 0), (Value.int (Int.ofNat 0) 0), (Value.int (Int.ofNat 0) 0), (Value.int (Int.ofNat 3) 0), (R 728), (Value.bool true), (Value.int (Int.ofNat 181) 0), (R 729), Value.none, Value.none, Value.none, (R 730), (Value.int (Int.ofNat 1170) 0), (Value.int (Int.ofNat 472) 0), (Value.str (S "/claim/cut.py") 1171)])) (List.toArray [])
abbrev o732 (P : Params) : Obj := Obj.mk (Value.type "function") none (Data.func (FuncData.mk (S "multiplied") (S "multiplied") (defArgs (T 91)) (FuncBody.stmts (defBody (T 91))) (defScope (T 91)) 3 [] Value.none Value.none Value.none (Value.str (S "budwright.products") 1135) none (R 731) Value.none 0)) (List.toArray [])
abbrev o733 (P : Params) : Obj := Obj.mk (Value.type "tuple") none (Data.seq (List.toArray []) 0) (List.toArray [])
abbrev o735 (P : Params) : Obj := Obj.mk (Value.type "tuple") none (Data.seq (List.toArray [(Value.str (S "one") 1176), (Value.str (S "other") 1177), (Value.str (S "most") 1178), (Value.str (S "counts") 1179), (Value.str (S "powers") 1180), (Value.str (S "count") 1181), (Value.str (S "more") 1182), (Value.str (S "many") 1183), (Value.str (S "key") 1184)]) 0) (List.toArray [])
abbrev o736 (P : Params) : Obj := Obj.mk (Value.type "tuple") none (Data.seq (List.toArray []) 0) (List.toArray [])
abbrev o738 (P : Params) : Obj := Obj.mk (Value.type "code") none (Data.fields (List.toArray [(Value.str (S "multiplied_within") 1173), (Value.str (S "multiplied_within") 1174), (Value.str (S "/claim/cut.py") 1175), (Value.int (Int.ofNat 474) 0), (Value.int (Int.ofNat 3) 0), (Value.int (Int.ofNat 0) 0), (Value.int (Int.ofNat 0) 0), (Value.int (Int.ofNat 3) 0), (R 733), (Value.bool true), (Value.int (Int.ofNat 181) 0), (R 734), Value.none, (R 735), (R 736), (R 737), (Value.int (Int.ofNat 1185) 0), (Value.int (Int.ofNat 474) 0), (Value.str (S "/claim/cut.py") 1186)])) (List.toArray [])
abbrev o739 (P : Params) : Obj := Obj.mk (Value.type "function") none (Data.func (FuncData.mk (S "multiplied_within") (S "multiplied_within") (defArgs (T 92)) (FuncBody.stmts (defBody (T 92))) (defScope (T 92)) 3 [] Value.none Value.none Value.none (Value.str (S "budwright.products") 1135) none (R 738) Value.none 0)) (List.toArray [])
abbrev o740 (P : Params) : Obj := Obj.mk (Value.type "tuple") none (Data.seq (List.toArray []) 0) (List.toArray [])
abbrev o742 (P : Params) : Obj := Obj.mk (Value.type "tuple") none (Data.seq (List.toArray [(Value.str (S "left") 1191), (Value.str (S "products") 1192), (Value.str (S "powers") 1193), (Value.str (S "count") 1194), (Value.str (S "more") 1195), (Value.str (S "many") 1196), (Value.str (S "key") 1197), (Value.str (S "rest") 1198)]) 0) (List.toArray [])
abbrev o743 (P : Params) : Obj := Obj.mk (Value.type "tuple") none (Data.seq (List.toArray []) 0) (List.toArray [])
abbrev o745 (P : Params) : Obj := Obj.mk (Value.type "code") none (Data.fields (List.toArray [(Value.str (S "taken_off") 1188), (Value.str (S "taken_off") 1189), (Value.str (S "/claim/cut.py") 1190), (Value.int (Int.ofNat 483) 0), (Value.int (Int.ofNat 4) 0), (Value.int (Int.ofNat 0) 0), (Value.int (Int.ofNat 0) 0), (Value.int (Int.ofNat 3) 0), (R 740), (Value.bool true), (Value.int (Int.ofNat 181) 0), (R 741), Value.none, (R 742), (R 743), (R 744), (Value.int (Int.ofNat 1199) 0), (Value.int (Int.ofNat 483) 0), (Value.str (S "/claim/cut.py") 1200)])) (List.toArray [])
abbrev o746 (P : Params) : Obj := Obj.mk (Value.type "function") none (Data.func (FuncData.mk (S "taken_off") (S "taken_off") (defArgs (T 93)) (FuncBody.stmts (defBody (T 93))) (defScope (T 93)) 3 [] Value.none Value.none Value.none (Value.str (S "budwright.products") 1135) none (R 745) Value.none 0)) (List.toArray [])
abbrev o747 (P : Params) : Obj := Obj.mk (Value.type "tuple") none (Data.seq (List.toArray []) 0) (List.toArray [])
abbrev o750 (P : Params) : Obj := Obj.mk (Value.type "code") none (Data.fields (List.toArray [(Value.str (S "quotient") 1202), (Value.str (S "quotient") 1203), (Value.str (S "/claim/cut.py") 1204), (Value.int (Int.ofNat 491) 0), (Value.int (Int.ofNat 3) 0), (Value.int (Int.ofNat 0) 0), (Value.int (Int.ofNat 0) 0), (Value.int (Int.ofNat 3) 0), (R 747), (Value.bool true), (Value.int (Int.ofNat 181) 0), (R 748), Value.none, Value.none, Value.none, (R 749), (Value.int (Int.ofNat 1205) 0), (Value.int (Int.ofNat 491) 0), (Value.str (S "/claim/cut.py") 1206)])) (List.toArray [])
abbrev o751 (P : Params) : Obj := Obj.mk (Value.type "function") none (Data.func (FuncData.mk (S "quotient") (S "quotient") (defArgs (T 94)) (FuncBody.stmts (defBody (T 94))) (defScope (T 94)) 3 [] Value.none Value.none Value.none (Value.str (S "budwright.products") 1135) none (R 750) Value.none 0)) (List.toArray [])
abbrev o752 (P : Params) : Obj := Obj.mk (Value.type "tuple") none (Data.seq (List.toArray []) 0) (List.toArray [])
abbrev o755 (P : Params) : Obj := Obj.mk (Value.type "code") none (Data.fields (List.toArray [(Value.str (S "weighed") 1208), (Value.str (S "weighed") 1209), (Value.str (S "/claim/cut.py") 1210), (Value.int (Int.ofNat 507) 0), (Value.int (Int.ofNat 2) 0), (Value.int (Int.ofNat 0) 0), (Value.int (Int.ofNat 0) 0), (Value.int (Int.ofNat 3) 0), (R 752), (Value.bool true), (Value.int (Int.ofNat 181) 0), (R 753), Value.none, Value.none, Value.none, (R 754), (Value.int (Int.ofNat 1211) 0), (Value.int (Int.ofNat 507) 0), (Value.str (S "/claim/cut.py") 1212)])) (List.toArray [])
abbrev o756 (P : Params) : Obj := Obj.mk (Value.type "function") none (Data.func (FuncData.mk (S "weighed") (S "weighed") (defArgs (T 95)) (FuncBody.stmts (defBody (T 95))) (defScope (T 95)) 3 [] Value.none Value.none Value.none (Value.str (S "budwright.products") 1135) none (R 755) Value.none 0)) (List.toArray [])
abbrev o757 (P : Params) : Obj := Obj.mk (Value.type "tuple") none (Data.seq (List.toArray []) 0) (List.toArray [])
abbrev o760 (P : Params) : Obj := Obj.mk (Value.type "code") none (Data.fields (List.toArray [(Value.str (S "worth_at") 1214), (Value.str (S "worth_at") 1215), (Value.str (S "/claim/cut.py") 1216), (Value.int (Int.ofNat 509) 0), (Value.int (Int.ofNat 2) 0), (Value.int (Int.ofNat 0) 0), (Value.int (Int.ofNat 0) 0), (Value.int (Int.ofNat 3) 0), (R 757), (Value.bool true), (Value.int (Int.ofNat 181) 0), (R 758), Value.none, Value.none, Value.none, (R 759), (Value.int (Int.ofNat 1217) 0), (Value.int (Int.ofNat 509) 0), (Value.str (S "/claim/cut.py") 1218)])) (List.toArray [])
abbrev o761 (P : Params) : Obj := Obj.mk (Value.type "function") none (Data.func (FuncData.mk (S "worth_at") (S "worth_at") (defArgs (T 96)) (FuncBody.stmts (defBody (T 96))) (defScope (T 96)) 3 [] Value.none Value.none Value.none (Value.str (S "budwright.products") 1135) none (R 760) Value.none 0)) (List.toArray [])
abbrev o762 (P : Params) : Obj := Obj.mk (Value.type "tuple") none (Data.seq (List.toArray []) 0) (List.toArray [])
abbrev o764 (P : Params) : Obj := Obj.mk (Value.type "tuple") none (Data.seq (List.toArray [(Value.str (S "powers") 1227), (Value.str (S "pieces") 1228), (Value.str (S "letter") 1229), (Value.str (S "power") 1230)]) 0) (List.toArray [])
abbrev o765 (P : Params) : Obj := Obj.mk (Value.type "tuple") none (Data.seq (List.toArray []) 0) (List.toArray [])
abbrev o767 (P : Params) : Obj := Obj.mk (Value.type "code") none (Data.fields (List.toArray [(Value.str (S "letters_text") 1224), (Value.str (S "letters_text") 1225), (Value.str (S "/claim/cut.py") 1226), (Value.int (Int.ofNat 525) 0), (Value.int (Int.ofNat 1) 0), (Value.int (Int.ofNat 0) 0), (Value.int (Int.ofNat 0) 0), (Value.int (Int.ofNat 3) 0), (R 762), (Value.bool true), (Value.int (Int.ofNat 181) 0), (R 763), Value.none, (R 764), (R 765), (R 766), (Value.int (Int.ofNat 1231) 0), (Value.int (Int.ofNat 525) 0), (Value.str (S "/claim/cut.py") 1232)])) (List.toArray [])
abbrev o768 (P : Params) : Obj := Obj.mk (Value.type "function") none (Data.func (FuncData.mk (S "letters_text") (S "letters_text") (defArgs (T 99)) (FuncBody.stmts (defBody (T 99))) (defScope (T 99)) 3 [] Value.none Value.none Value.none (Value.str (S "budwright.sumtexts") 1220) none (R 767) Value.none 0)) (List.toArray [])
abbrev o769 (P : Params) : Obj := Obj.mk (Value.type "tuple") none (Data.seq (List.toArray []) 0) (List.toArray [])
abbrev o771 (P : Params) : Obj := Obj.mk (Value.type "tuple") none (Data.seq (List.toArray [(Value.str (S "powers") 1237), (Value.str (S "count") 1238), (Value.str (S "letters") 1239)]) 0) (List.toArray [])
abbrev o772 (P : Params) : Obj := Obj.mk (Value.type "tuple") none (Data.seq (List.toArray []) 0) (List.toArray [])
abbrev o774 (P : Params) : Obj := Obj.mk (Value.type "code") none (Data.fields (List.toArray [(Value.str (S "product_text") 1234), (Value.str (S "product_text") 1235), (Value.str (S "/claim/cut.py") 1236), (Value.int (Int.ofNat 533) 0), (Value.int (Int.ofNat 2) 0), (Value.int (Int.ofNat 0) 0), (Value.int (Int.ofNat 0) 0), (Value.int (Int.ofNat 3) 0), (R 769), (Value.bool true), (Value.int (Int.ofNat 181) 0), (R 770), Value.none, (R 771), (R 772), (R 773), (Value.int (Int.ofNat 1240) 0), (Value.int (Int.ofNat 533) 0), (Value.str (S "/claim/cut.py") 1241)])) (List.toArray [])
abbrev o775 (P : Params) : Obj := Obj.mk (Value.type "function") none (Data.func (FuncData.mk (S "product_text") (S "product_text") (defArgs (T 100)) (FuncBody.stmts (defBody (T 100))) (defScope (T 100)) 3 [] Value.none Value.none Value.none (Value.str (S "budwright.sumtexts") 1220) none (R 774) Value.none 0)) (List.toArray [])
abbrev o776 (P : Params) : Obj := Obj.mk (Value.type "tuple") none (Data.seq (List.toArray []) 0) (List.toArray [])
abbrev o778 (P : Params) : Obj := Obj.mk (Value.type "tuple") none (Data.seq (List.toArray [(Value.str (S "products") 1246), (Value.str (S "pieces") 1247), (Value.str (S "powers") 1248), (Value.str (S "count") 1249)]) 0) (List.toArray [])
abbrev o779 (P : Params) : Obj := Obj.mk (Value.type "tuple") none (Data.seq (List.toArray []) 0) (List.toArray [])
abbrev o781 (P : Params) : Obj := Obj.mk (Value.type "code") none (Data.fields (List.toArray [(Value.str (S "sum_pieces") 1243), (Value.str (S "sum_pieces") 1244), (Value.str (S "/claim/cut.py") 1245), (Value.int (Int.ofNat 538) 0), (Value.int (Int.ofNat 1) 0), (Value.int (Int.ofNat 0) 0), (Value.int (Int.ofNat 0) 0), (Value.int (Int.ofNat 3) 0), (R 776), (Value.bool true), (Value.int (Int.ofNat 181) 0), (R 777), Value.none, (R 778), (R 779), (R 780), (Value.int (Int.ofNat 1250) 0), (Value.int (Int.ofNat 538) 0), (Value.str (S "/claim/cut.py") 1251)])) (List.toArray [])
abbrev o782 (P : Params) : Obj := Obj.mk (Value.type "function") none (Data.func (FuncData.mk (S "sum_pieces") (S "sum_pieces") (defArgs (T 101)) (FuncBody.stmts (defBody (T 101))) (defScope (T 101)) 3 [] Value.none Value.none Value.none (Value.str (S "budwright.sumtexts") 1220) none (R 781) Value.none 0)) (List.toArray [])
abbrev o790 (P : Params) : Obj := Obj.mk (Value.type "tuple") none (Data.seq (List.toArray []) 0) (List.toArray [])
abbrev o791 (P : Params) : Obj := Obj.mk (Value.type "tuple") none (Data.seq (List.toArray [(R 790)]) 0) (List.toArray [])
abbrev o792 (P : Params) : Obj := Obj.mk (Value.type "tuple") none (Data.seq (List.toArray []) 0) (List.toArray [])
abbrev o795 (P : Params) : Obj := Obj.mk (Value.type "code") none (Data.fields (List.toArray [(Value.str (S "__init__") 1269), (Value.str (S "Sum.__init__") 1270), (Value.str (S "/claim/cut.py") 1271), (Value.int (Int.ofNat 553) 0), (Value.int (Int.ofNat 3) 0), (Value.int (Int.ofNat 0) 0), (Value.int (Int.ofNat 0) 0), (Value.int (Int.ofNat 3) 0), (R 792), (Value.bool true), (Value.int (Int.ofNat 181) 0), (R 793), Value.none, Value.none, Value.none, (R 794), (Value.int (Int.ofNat 1272) 0), (Value.int (Int.ofNat 553) 0), (Value.str (S "/claim/cut.py") 1273)])) (List.toArray [])
abbrev o796 (P : Params) : Obj := Obj.mk (Value.type "function") none (Data.func (FuncData.mk (S "__init__") (S "Sum.__init__") (defArgs (M 104 0)) (FuncBody.stmts (defBody (M 104 0))) (defScope (M 104 0)) 3 [] (R 791) Value.none Value.none (Value.str (S "budwright.sums") 1253) none (R 795) Value.none 0)) (List.toArray [])
abbrev o797 (P : Params) : Obj := Obj.mk (Value.type "tuple") none (Data.seq (List.toArray []) 0) (List.toArray [])
abbrev o799 (P : Params) : Obj := Obj.mk (Value.type "tuple") none (Data.seq (List.toArray [(Value.str (S "self") 1278)]) 0) (List.toArray [])
abbrev o800 (P : Params) : Obj := Obj.mk (Value.type "tuple") none (Data.seq (List.toArray []) 0) (List.toArray [])
abbrev o802 (P : Params) : Obj := Obj.mk (Value.type "code") none (Data.fields (List.toArray [(Value.str (S "terms") 1275), (Value.str (S "Sum.terms") 1276), (Value.str (S "/claim/cut.py") 1277), (Value.int (Int.ofNat 562) 0), (Value.int (Int.ofNat 1) 0), (Value.int (Int.ofNat 0) 0), (Value.int (Int.ofNat 0) 0), (Value.int (Int.ofNat 3) 0), (R 797), (Value.bool true), (Value.int (Int.ofNat 181) 0), (R 798), Value.none, (R 799), (R 800), (R 801), (Value.int (Int.ofNat 1279) 0), (Value.int (Int.ofNat 562) 0), (Value.str (S "/claim/cut.py") 1280)])) (List.toArray [])
abbrev o803 (P : Params) : Obj := Obj.mk (Value.type "function") none (Data.func (FuncData.mk (S "terms") (S "Sum.terms") (defArgs (M 104 1)) (FuncBody.stmts (defBody (M 104 1))) (defScope (M 104 1)) 3 [] Value.none Value.none Value.none (Value.str (S "budwright.sums") 1253) none (R 802) Value.none 0)) (List.toArray [])
abbrev o804 (P : Params) : Obj := Obj.mk (Value.type "tuple") none (Data.seq (List.toArray []) 0) (List.toArray [])
abbrev o806 (P : Params) : Obj := Obj.mk (Value.type "tuple") none (Data.seq (List.toArray [(Value.str (S "self") 1285), (Value.str (S "other") 1286)]) 0) (List.toArray [])
abbrev o807 (P : Params) : Obj := Obj.mk (Value.type "tuple") none (Data.seq (List.toArray []) 0) (List.toArray [])
abbrev o809 (P : Params) : Obj := Obj.mk (Value.type "code") none (Data.fields (List.toArray [(Value.str (S "plus") 1282), (Value.str (S "Sum.plus") 1283), (Value.str (S "/claim/cut.py") 1284), (Value.int (Int.ofNat 565) 0), (Value.int (Int.ofNat 2) 0), (Value.int (Int.ofNat 0) 0), (Value.int (Int.ofNat 0) 0), (Value.int (Int.ofNat 3) 0), (R 804), (Value.bool true), (Value.int (Int.ofNat 181) 0), (R 805), Value.none, (R 806), (R 807), (R 808), (Value.int (Int.ofNat 1287) 0), (Value.int (Int.ofNat 565) 0), (Value.str (S "/claim/cut.py") 1288)])) (List.toArray [])
abbrev o810 (P : Params) : Obj := Obj.mk (Value.type "function") none (Data.func (FuncData.mk (S "plus") (S "Sum.plus") (defArgs (M 104 2)) (FuncBody.stmts (defBody (M 104 2))) (defScope (M 104 2)) 3 [] Value.none Value.none Value.none (Value.str (S "budwright.sums") 1253) none (R 809) Value.none 0)) (List.toArray [])
abbrev o811 (P : Params) : Obj := Obj.mk (Value.type "tuple") none (Data.seq (List.toArray []) 0) (List.toArray [])
abbrev o814 (P : Params) : Obj := Obj.mk (Value.type "code") none (Data.fields (List.toArray [(Value.str (S "minus") 1290), (Value.str (S "Sum.minus") 1291), (Value.str (S "/claim/cut.py") 1292), (Value.int (Int.ofNat 568) 0), (Value.int (Int.ofNat 2) 0), (Value.int (Int.ofNat 0) 0), (Value.int (Int.ofNat 0) 0), (Value.int (Int.ofNat 3) 0), (R 811), (Value.bool true), (Value.int (Int.ofNat 181) 0), (R 812), Value.none, Value.none, Value.none, (R 813), (Value.int (Int.ofNat 1293) 0), (Value.int (Int.ofNat 568) 0), (Value.str (S "/claim/cut.py") 1294)])) (List.toArray [])
abbrev o815 (P : Params) : Obj := Obj.mk (Value.type "function") none (Data.func (FuncData.mk (S "minus") (S "Sum.minus") (defArgs (M 104 3)) (FuncBody.stmts (defBody (M 104 3))) (defScope (M 104 3)) 3 [] Value.none Value.none Value.none (Value.str (S "budwright.sums") 1253) none (R 814) Value.none 0)) (List.toArray [])
abbrev o816 (P : Params) : Obj := Obj.mk (Value.type "tuple") none (Data.seq (List.toArray []) 0) (List.toArray [])
abbrev o818 (P : Params) : Obj := Obj.mk (Value.type "tuple") none (Data.seq (List.toArray [(Value.str (S "self") 1299), (Value.str (S "other") 1300)]) 0) (List.toArray [])
abbrev o819 (P : Params) : Obj := Obj.mk (Value.type "tuple") none (Data.seq (List.toArray []) 0) (List.toArray [])
abbrev o821 (P : Params) : Obj := Obj.mk (Value.type "code") none (Data.fields (List.toArray [(Value.str (S "times") 1296), (Value.str (S "Sum.times") 1297), (Value.str (S "/claim/cut.py") 1298), (Value.int (Int.ofNat 572) 0), (Value.int (Int.ofNat 2) 0), (Value.int (Int.ofNat 0) 0), (Value.int (Int.ofNat 0) 0), (Value.int (Int.ofNat 3) 0), (R 816), (Value.bool true), (Value.int (Int.ofNat 181) 0), (R 817), Value.none, (R 818), (R 819), (R 820), (Value.int (Int.ofNat 1301) 0), (Value.int (Int.ofNat 572) 0), (Value.str (S "/claim/cut.py") 1302)])) (List.toArray [])
abbrev o822 (P : Params) : Obj := Obj.mk (Value.type "function") none (Data.func (FuncData.mk (S "times") (S "Sum.times") (defArgs (M 104 4)) (FuncBody.stmts (defBody (M 104 4))) (defScope (M 104 4)) 3 [] Value.none Value.none Value.none (Value.str (S "budwright.sums") 1253) none (R 821) Value.none 0)) (List.toArray [])
abbrev o823 (P : Params) : Obj := Obj.mk (Value.type "tuple") none (Data.seq (List.toArray []) 0) (List.toArray [])
abbrev o825 (P : Params) : Obj := Obj.mk (Value.type "tuple") none (Data.seq (List.toArray [(Value.str (S "self") 1307), (Value.str (S "many") 1308)]) 0) (List.toArray [])
abbrev o826 (P : Params) : Obj := Obj.mk (Value.type "tuple") none (Data.seq (List.toArray []) 0) (List.toArray [])
abbrev o828 (P : Params) : Obj := Obj.mk (Value.type "code") none (Data.fields (List.toArray [(Value.str (S "raised") 1304), (Value.str (S "Sum.raised") 1305), (Value.str (S "/claim/cut.py") 1306), (Value.int (Int.ofNat 576) 0), (Value.int (Int.ofNat 2) 0), (Value.int (Int.ofNat 0) 0), (Value.int (Int.ofNat 0) 0), (Value.int (Int.ofNat 3) 0), (R 823), (Value.bool true), (Value.int (Int.ofNat 181) 0), (R 824), Value.none, (R 825), (R 826), (R 827), (Value.int (Int.ofNat 1309) 0), (Value.int (Int.ofNat 576) 0), (Value.str (S "/claim/cut.py") 1310)])) (List.toArray [])
abbrev o829 (P : Params) : Obj := Obj.mk (Value.type "function") none (Data.func (FuncData.mk (S "raised") (S "Sum.raised") (defArgs (M 104 5)) (FuncBody.stmts (defBody (M 104 5))) (defScope (M 104 5)) 3 [] Value.none Value.none Value.none (Value.str (S "budwright.sums") 1253) none (R 828) Value.none 0)) (List.toArray [])
abbrev o830 (P : Params) : Obj := Obj.mk (Value.type "tuple") none (Data.seq (List.toArray []) 0) (List.toArray [])
abbrev o832 (P : Params) : Obj := Obj.mk (Value.type "tuple") none (Data.seq (List.toArray [(Value.str (S "self") 1315), (Value.str (S "other") 1316), (Value.str (S "found") 1317)]) 0) (List.toArray [])
abbrev o833 (P : Params) : Obj := Obj.mk (Value.type "tuple") none (Data.seq (List.toArray []) 0) (List.toArray [])
abbrev o835 (P : Params) : Obj := Obj.mk (Value.type "code") none (Data.fields (List.toArray [(Value.str (S "shared") 1312), (Value.str (S "Sum.shared") 1313), (Value.str (S "/claim/cut.py") 1314), (Value.int (Int.ofNat 579) 0), (Value.int (Int.ofNat 2) 0), (Value.int (Int.ofNat 0) 0), (Value.int (Int.ofNat 0) 0), (Value.int (Int.ofNat 3) 0), (R 830), (Value.bool true), (Value.int (Int.ofNat 181) 0), (R 831), Value.none, (R 832), (R 833), (R 834), (Value.int (Int.ofNat 1318) 0), (Value.int (Int.ofNat 579) 0), (Value.str (S "/claim/cut.py") 1319)])) (List.toArray [])
abbrev o836 (P : Params) : Obj := Obj.mk (Value.type "function") none (Data.func (FuncData.mk (S "shared") (S "Sum.shared") (defArgs (M 104 6)) (FuncBody.stmts (defBody (M 104 6))) (defScope (M 104 6)) 3 [] Value.none Value.none Value.none (Value.str (S "budwright.sums") 1253) none (R 835) Value.none 0)) (List.toArray [])
abbrev o837 (P : Params) : Obj := Obj.mk (Value.type "tuple") none (Data.seq (List.toArray []) 0) (List.toArray [])
abbrev o840 (P : Params) : Obj := Obj.mk (Value.type "code") none (Data.fields (List.toArray [(Value.str (S "worth") 1321), (Value.str (S "Sum.worth") 1322), (Value.str (S "/claim/cut.py") 1323), (Value.int (Int.ofNat 588) 0), (Value.int (Int.ofNat 2) 0), (Value.int (Int.ofNat 0) 0), (Value.int (Int.ofNat 0) 0), (Value.int (Int.ofNat 3) 0), (R 837), (Value.bool true), (Value.int (Int.ofNat 181) 0), (R 838), Value.none, Value.none, Value.none, (R 839), (Value.int (Int.ofNat 1324) 0), (Value.int (Int.ofNat 588) 0), (Value.str (S "/claim/cut.py") 1325)])) (List.toArray [])
abbrev o841 (P : Params) : Obj := Obj.mk (Value.type "function") none (Data.func (FuncData.mk (S "worth") (S "Sum.worth") (defArgs (M 104 7)) (FuncBody.stmts (defBody (M 104 7))) (defScope (M 104 7)) 3 [] Value.none Value.none Value.none (Value.str (S "budwright.sums") 1253) none (R 840) Value.none 0)) (List.toArray [])
abbrev o842 (P : Params) : Obj := Obj.mk (Value.type "tuple") none (Data.seq (List.toArray []) 0) (List.toArray [])
abbrev o844 (P : Params) : Obj := Obj.mk (Value.type "tuple") none (Data.seq (List.toArray [(Value.str (S "self") 1330), (Value.str (S "numbers") 1331)]) 0) (List.toArray [])
abbrev o845 (P : Params) : Obj := Obj.mk (Value.type "tuple") none (Data.seq (List.toArray []) 0) (List.toArray [])
abbrev o847 (P : Params) : Obj := Obj.mk (Value.type "code") none (Data.fields (List.toArray [(Value.str (S "least") 1327), (Value.str (S "Sum.least") 1328), (Value.str (S "/claim/cut.py") 1329), (Value.int (Int.ofNat 596) 0), (Value.int (Int.ofNat 2) 0), (Value.int (Int.ofNat 0) 0), (Value.int (Int.ofNat 0) 0), (Value.int (Int.ofNat 3) 0), (R 842), (Value.bool true), (Value.int (Int.ofNat 181) 0), (R 843), Value.none, (R 844), (R 845), (R 846), (Value.int (Int.ofNat 1332) 0), (Value.int (Int.ofNat 596) 0), (Value.str (S "/claim/cut.py") 1333)])) (List.toArray [])
abbrev o848 (P : Params) : Obj := Obj.mk (Value.type "function") none (Data.func (FuncData.mk (S "least") (S "Sum.least") (defArgs (M 104 8)) (FuncBody.stmts (defBody (M 104 8))) (defScope (M 104 8)) 3 [] Value.none Value.none Value.none (Value.str (S "budwright.sums") 1253) none (R 847) Value.none 0)) (List.toArray [])
abbrev o849 (P : Params) : Obj := Obj.mk (Value.type "tuple") none (Data.seq (List.toArray []) 0) (List.toArray [])
abbrev o851 (P : Params) : Obj := Obj.mk (Value.type "tuple") none (Data.seq (List.toArray [(Value.str (S "self") 1338), (Value.str (S "numbers") 1339)]) 0) (List.toArray [])
abbrev o852 (P : Params) : Obj := Obj.mk (Value.type "tuple") none (Data.seq (List.toArray []) 0) (List.toArray [])
abbrev o854 (P : Params) : Obj := Obj.mk (Value.type "code") none (Data.fields (List.toArray [(Value.str (S "greatest") 1335), (Value.str (S "Sum.greatest") 1336), (Value.str (S "/claim/cut.py") 1337), (Value.int (Int.ofNat 600) 0), (Value.int (Int.ofNat 2) 0), (Value.int (Int.ofNat 0) 0), (Value.int (Int.ofNat 0) 0), (Value.int (Int.ofNat 3) 0), (R 849), (Value.bool true), (Value.int (Int.ofNat 181) 0), (R 850), Value.none, (R 851), (R 852), (R 853), (Value.int (Int.ofNat 1340) 0), (Value.int (Int.ofNat 600) 0), (Value.str (S "/claim/cut.py") 1341)])) (List.toArray [])
abbrev o855 (P : Params) : Obj := Obj.mk (Value.type "function") none (Data.func (FuncData.mk (S "greatest") (S "Sum.greatest") (defArgs (M 104 9)) (FuncBody.stmts (defBody (M 104 9))) (defScope (M 104 9)) 3 [] Value.none Value.none Value.none (Value.str (S "budwright.sums") 1253) none (R 854) Value.none 0)) (List.toArray [])
abbrev o856 (P : Params) : Obj := Obj.mk (Value.type "tuple") none (Data.seq (List.toArray []) 0) (List.toArray [])
abbrev o858 (P : Params) : Obj := Obj.mk (Value.type "tuple") none (Data.seq (List.toArray [(Value.str (S "self") 1346)]) 0) (List.toArray [])
abbrev o859 (P : Params) : Obj := Obj.mk (Value.type "tuple") none (Data.seq (List.toArray []) 0) (List.toArray [])
abbrev o861 (P : Params) : Obj := Obj.mk (Value.type "code") none (Data.fields (List.toArray [(Value.str (S "lowest") 1343), (Value.str (S "Sum.lowest") 1344), (Value.str (S "/claim/cut.py") 1345), (Value.int (Int.ofNat 604) 0), (Value.int (Int.ofNat 1) 0), (Value.int (Int.ofNat 0) 0), (Value.int (Int.ofNat 0) 0), (Value.int (Int.ofNat 3) 0), (R 856), (Value.bool true), (Value.int (Int.ofNat 181) 0), (R 857), Value.none, (R 858), (R 859), (R 860), (Value.int (Int.ofNat 1347) 0), (Value.int (Int.ofNat 604) 0), (Value.str (S "/claim/cut.py") 1348)])) (List.toArray [])
abbrev o862 (P : Params) : Obj := Obj.mk (Value.type "function") none (Data.func (FuncData.mk (S "lowest") (S "Sum.lowest") (defArgs (M 104 10)) (FuncBody.stmts (defBody (M 104 10))) (defScope (M 104 10)) 3 [] Value.none Value.none Value.none (Value.str (S "budwright.sums") 1253) none (R 861) Value.none 0)) (List.toArray [])
abbrev o863 (P : Params) : Obj := Obj.mk (Value.type "tuple") none (Data.seq (List.toArray []) 0) (List.toArray [])
abbrev o865 (P : Params) : Obj := Obj.mk (Value.type "tuple") none (Data.seq (List.toArray [(Value.str (S "self") 1353), (Value.str (S "places") 1354)]) 0) (List.toArray [])
abbrev o866 (P : Params) : Obj := Obj.mk (Value.type "tuple") none (Data.seq (List.toArray []) 0) (List.toArray [])
abbrev o868 (P : Params) : Obj := Obj.mk (Value.type "code") none (Data.fields (List.toArray [(Value.str (S "with_ones") 1350), (Value.str (S "Sum.with_ones") 1351), (Value.str (S "/claim/cut.py") 1352), (Value.int (Int.ofNat 607) 0), (Value.int (Int.ofNat 2) 0), (Value.int (Int.ofNat 0) 0), (Value.int (Int.ofNat 0) 0), (Value.int (Int.ofNat 3) 0), (R 863), (Value.bool true), (Value.int (Int.ofNat 181) 0), (R 864), Value.none, (R 865), (R 866), (R 867), (Value.int (Int.ofNat 1355) 0), (Value.int (Int.ofNat 607) 0), (Value.str (S "/claim/cut.py") 1356)])) (List.toArray [])
abbrev o869 (P : Params) : Obj := Obj.mk (Value.type "function") none (Data.func (FuncData.mk (S "with_ones") (S "Sum.with_ones") (defArgs (M 104 11)) (FuncBody.stmts (defBody (M 104 11))) (defScope (M 104 11)) 3 [] Value.none Value.none Value.none (Value.str (S "budwright.sums") 1253) none (R 868) Value.none 0)) (List.toArray [])
abbrev o870 (P : Params) : Obj := Obj.mk (Value.type "tuple") none (Data.seq (List.toArray []) 0) (List.toArray [])
abbrev o872 (P : Params) : Obj := Obj.mk (Value.type "tuple") none (Data.seq (List.toArray [(Value.str (S "self") 1361), (Value.str (S "width") 1362)]) 0) (List.toArray [])
abbrev o873 (P : Params) : Obj := Obj.mk (Value.type "tuple") none (Data.seq (List.toArray []) 0) (List.toArray [])
abbrev o875 (P : Params) : Obj := Obj.mk (Value.type "code") none (Data.fields (List.toArray [(Value.str (S "widened") 1358), (Value.str (S "Sum.widened") 1359), (Value.str (S "/claim/cut.py") 1360), (Value.int (Int.ofNat 610) 0), (Value.int (Int.ofNat 2) 0), (Value.int (Int.ofNat 0) 0), (Value.int (Int.ofNat 0) 0), (Value.int (Int.ofNat 3) 0), (R 870), (Value.bool true), (Value.int (Int.ofNat 181) 0), (R 871), Value.none, (R 872), (R 873), (R 874), (Value.int (Int.ofNat 1363) 0), (Value.int (Int.ofNat 610) 0), (Value.str (S "/claim/cut.py") 1364)])) (List.toArray [])
abbrev o876 (P : Params) : Obj := Obj.mk (Value.type "function") none (Data.func (FuncData.mk (S "widened") (S "Sum.widened") (defArgs (M 104 12)) (FuncBody.stmts (defBody (M 104 12))) (defScope (M 104 12)) 3 [] Value.none Value.none Value.none (Value.str (S "budwright.sums") 1253) none (R 875) Value.none 0)) (List.toArray [])
abbrev o877 (P : Params) : Obj := Obj.mk (Value.type "tuple") none (Data.seq (List.toArray []) 0) (List.toArray [])
abbrev o879 (P : Params) : Obj := Obj.mk (Value.type "tuple") none (Data.seq (List.toArray [(Value.str (S "self") 1369)]) 0) (List.toArray [])
abbrev o880 (P : Params) : Obj := Obj.mk (Value.type "tuple") none (Data.seq (List.toArray []) 0) (List.toArray [])
abbrev o882 (P : Params) : Obj := Obj.mk (Value.type "code") none (Data.fields (List.toArray [(Value.str (S "__len__") 1366), (Value.str (S "Sum.__len__") 1367), (Value.str (S "/claim/cut.py") 1368), (Value.int (Int.ofNat 613) 0), (Value.int (Int.ofNat 1) 0), (Value.int (Int.ofNat 0) 0), (Value.int (Int.ofNat 0) 0), (Value.int (Int.ofNat 3) 0), (R 877), (Value.bool true), (Value.int (Int.ofNat 181) 0), (R 878), Value.none, (R 879), (R 880), (R 881), (Value.int (Int.ofNat 1370) 0), (Value.int (Int.ofNat 613) 0), (Value.str (S "/claim/cut.py") 1371)])) (List.toArray [])
abbrev o883 (P : Params) : Obj := Obj.mk (Value.type "function") none (Data.func (FuncData.mk (S "__len__") (S "Sum.__len__") (defArgs (M 104 13)) (FuncBody.stmts (defBody (M 104 13))) (defScope (M 104 13)) 3 [] Value.none Value.none Value.none (Value.str (S "budwright.sums") 1253) none (R 882) Value.none 0)) (List.toArray [])
abbrev o884 (P : Params) : Obj := Obj.mk (Value.type "tuple") none (Data.seq (List.toArray []) 0) (List.toArray [])
abbrev o886 (P : Params) : Obj := Obj.mk (Value.type "tuple") none (Data.seq (List.toArray [(Value.str (S "self") 1376), (Value.str (S "other") 1377)]) 0) (List.toArray [])
abbrev o887 (P : Params) : Obj := Obj.mk (Value.type "tuple") none (Data.seq (List.toArray []) 0) (List.toArray [])
abbrev o889 (P : Params) : Obj := Obj.mk (Value.type "code") none (Data.fields (List.toArray [(Value.str (S "__eq__") 1373), (Value.str (S "Sum.__eq__") 1374), (Value.str (S "/claim/cut.py") 1375), (Value.int (Int.ofNat 616) 0), (Value.int (Int.ofNat 2) 0), (Value.int (Int.ofNat 0) 0), (Value.int (Int.ofNat 0) 0), (Value.int (Int.ofNat 3) 0), (R 884), (Value.bool true), (Value.int (Int.ofNat 181) 0), (R 885), Value.none, (R 886), (R 887), (R 888), (Value.int (Int.ofNat 1378) 0), (Value.int (Int.ofNat 616) 0), (Value.str (S "/claim/cut.py") 1379)])) (List.toArray [])
abbrev o890 (P : Params) : Obj := Obj.mk (Value.type "function") none (Data.func (FuncData.mk (S "__eq__") (S "Sum.__eq__") (defArgs (M 104 14)) (FuncBody.stmts (defBody (M 104 14))) (defScope (M 104 14)) 3 [] Value.none Value.none Value.none (Value.str (S "budwright.sums") 1253) none (R 889) Value.none 0)) (List.toArray [])
abbrev o891 (P : Params) : Obj := Obj.mk (Value.type "tuple") none (Data.seq (List.toArray []) 0) (List.toArray [])
abbrev o893 (P : Params) : Obj := Obj.mk (Value.type "tuple") none (Data.seq (List.toArray [(Value.str (S "self") 1384)]) 0) (List.toArray [])
abbrev o894 (P : Params) : Obj := Obj.mk (Value.type "tuple") none (Data.seq (List.toArray []) 0) (List.toArray [])
abbrev o896 (P : Params) : Obj := Obj.mk (Value.type "code") none (Data.fields (List.toArray [(Value.str (S "__str__") 1381), (Value.str (S "Sum.__str__") 1382), (Value.str (S "/claim/cut.py") 1383), (Value.int (Int.ofNat 619) 0), (Value.int (Int.ofNat 1) 0), (Value.int (Int.ofNat 0) 0), (Value.int (Int.ofNat 0) 0), (Value.int (Int.ofNat 3) 0), (R 891), (Value.bool true), (Value.int (Int.ofNat 181) 0), (R 892), Value.none, (R 893), (R 894), (R 895), (Value.int (Int.ofNat 1385) 0), (Value.int (Int.ofNat 619) 0), (Value.str (S "/claim/cut.py") 1386)])) (List.toArray [])
abbrev o897 (P : Params) : Obj := Obj.mk (Value.type "function") none (Data.func (FuncData.mk (S "__str__") (S "Sum.__str__") (defArgs (M 104 15)) (FuncBody.stmts (defBody (M 104 15))) (defScope (M 104 15)) 3 [] Value.none Value.none Value.none (Value.str (S "budwright.sums") 1253) none (R 896) Value.none 0)) (List.toArray [])
abbrev o898 (P : Params) : Obj := Obj.mk (Value.type "tuple") none (Data.seq (List.toArray []) 0) (List.toArray [])
abbrev o900 (P : Params) : Obj := Obj.mk (Value.type "tuple") none (Data.seq (List.toArray [(Value.str (S "self") 1391)]) 0) (List.toArray [])
abbrev o901 (P : Params) : Obj := Obj.mk (Value.type "tuple") none (Data.seq (List.toArray []) 0) (List.toArray [])
abbrev o903 (P : Params) : Obj := Obj.mk (Value.type "code") none (Data.fields (List.toArray [(Value.str (S "__repr__") 1388), (Value.str (S "Sum.__repr__") 1389), (Value.str (S "/claim/cut.py") 1390), (Value.int (Int.ofNat 622) 0), (Value.int (Int.ofNat 1) 0), (Value.int (Int.ofNat 0) 0), (Value.int (Int.ofNat 0) 0), (Value.int (Int.ofNat 3) 0), (R 898), (Value.bool true), (Value.int (Int.ofNat 181) 0), (R 899), Value.none, (R 900), (R 901), (R 902), (Value.int (Int.ofNat 1392) 0), (Value.int (Int.ofNat 622) 0), (Value.str (S "/claim/cut.py") 1393)])) (List.toArray [])
abbrev o904 (P : Params) : Obj := Obj.mk (Value.type "function") none (Data.func (FuncData.mk (S "__repr__") (S "Sum.__repr__") (defArgs (M 104 16)) (FuncBody.stmts (defBody (M 104 16))) (defScope (M 104 16)) 3 [] Value.none Value.none Value.none (Value.str (S "budwright.sums") 1253) none (R 903) Value.none 0)) (List.toArray [])
abbrev o905 (P : Params) : Obj := Obj.mk (Value.type "tuple") none (Data.seq (List.toArray [(Value.str (S "products") 1395), (Value.str (S "width") 1396)]) 0) (List.toArray [])
abbrev o906 (P : Params) : Obj := Obj.mk (Value.type "dict") none (Data.dict (List.toArray [E P "__module__" 1264 (Value.str (S "budwright.sums") 1253), E P "__firstlineno__" 1268 (Value.int (Int.ofNat 551) 1267), E P "__init__" 1274 (R 796), E P "terms" 1281 (R 803), E P "plus" 1289 (R 810), E P "minus" 1295 (R 815), E P "times" 1303 (R 822), E P "raised" 1311 (R 829), E P "shared" 1320 (R 836), E P "worth" 1326 (R 841), E P "least" 1334 (R 848), E P "greatest" 1342 (R 855), E P "lowest" 1349 (R 862), E P "with_ones" 1357 (R 869), E P "widened" 1365 (R 876), E P "__len__" 1372 (R 883), E P "__eq__" 1380 (R 890), E P "__str__" 1387 (R 897), E P "__repr__" 1394 (R 904), E P "__static_attributes__" 1397 (R 905), E P "__dict__" 1399 (R 908), E P "__weakref__" 1401 (R 909), E P "__doc__" 1402 Value.none, E P "__hash__" 1403 Value.none]) 5) (List.toArray [])
abbrev o907 (P : Params) : Obj := Obj.mk (Value.type "type") none (Data.cls (ClassData.mk (S "Sum") [(Value.type "object")] [(R 907), (Value.type "object")] 906 (S "Sum") true [] [] false none false)) (List.toArray [none, none, (some (Value.str (S "Sum") 1257)), (some (Value.str (S "Sum") 1265)), (some (Value.builtin "object.__new__")), (some (Value.bool true))])
abbrev o908 (P : Params) : Obj := Obj.mk (Value.type "getset_descriptor") none (Data.fields (List.toArray [(Value.str (S "__dict__") 1398), (R 907), (Value.builtin "function.__dict__"), (Value.builtin "function.__dict__#set")])) (List.toArray [])
abbrev o909 (P : Params) : Obj := Obj.mk (Value.type "getset_descriptor") none (Data.fields (List.toArray [(Value.str (S "__weakref__") 1400), (R 907), (Value.builtin "ExceptionGroup.__weakref__"), Value.none])) (List.toArray [])
abbrev o912 (P : Params) : Obj := Obj.mk (Value.type "tuple") none (Data.seq (List.toArray []) 0) (List.toArray [])
abbrev o914 (P : Params) : Obj := Obj.mk (Value.type "tuple") none (Data.seq (List.toArray [(Value.str (S "width") 1409), (Value.str (S "other") 1410)]) 0) (List.toArray [])
abbrev o915 (P : Params) : Obj := Obj.mk (Value.type "tuple") none (Data.seq (List.toArray []) 0) (List.toArray [])
abbrev o917 (P : Params) : Obj := Obj.mk (Value.type "code") none (Data.fields (List.toArray [(Value.str (S "check_width") 1406), (Value.str (S "check_width") 1407), (Value.str (S "/claim/cut.py") 1408), (Value.int (Int.ofNat 624) 0), (Value.int (Int.ofNat 2) 0), (Value.int (Int.ofNat 0) 0), (Value.int (Int.ofNat 0) 0), (Value.int (Int.ofNat 3) 0), (R 912), (Value.bool true), (Value.int (Int.ofNat 181) 0), (R 913), Value.none, (R 914), (R 915), (R 916), (Value.int (Int.ofNat 1411) 0), (Value.int (Int.ofNat 624) 0), (Value.str (S "/claim/cut.py") 1412)])) (List.toArray [])
abbrev o918 (P : Params) : Obj := Obj.mk (Value.type "function") none (Data.func (FuncData.mk (S "check_width") (S "check_width") (defArgs (T 105)) (FuncBody.stmts (defBody (T 105))) (defScope (T 105)) 3 [] Value.none Value.none Value.none (Value.str (S "budwright.sums") 1253) none (R 917) Value.none 0)) (List.toArray [])
abbrev o919 (P : Params) : Obj := Obj.mk (Value.type "dict") none (Data.dict (List.toArray [E P "by" 1415 (Value.int (Int.ofNat 1) 1414)]) 1) (List.toArray [])
abbrev o920 (P : Params) : Obj := Obj.mk (Value.type "tuple") none (Data.seq (List.toArray []) 0) (List.toArray [])
abbrev o923 (P : Params) : Obj := Obj.mk (Value.type "code") none (Data.fields (List.toArray [(Value.str (S "letter") 1416), (Value.str (S "letter") 1417), (Value.str (S "/claim/cut.py") 1418), (Value.int (Int.ofNat 627) 0), (Value.int (Int.ofNat 2) 0), (Value.int (Int.ofNat 0) 0), (Value.int (Int.ofNat 1) 0), (Value.int (Int.ofNat 3) 0), (R 920), (Value.bool true), (Value.int (Int.ofNat 181) 0), (R 921), Value.none, Value.none, Value.none, (R 922), (Value.int (Int.ofNat 1419) 0), (Value.int (Int.ofNat 627) 0), (Value.str (S "/claim/cut.py") 1420)])) (List.toArray [])
abbrev o924 (P : Params) : Obj := Obj.mk (Value.type "function") none (Data.func (FuncData.mk (S "letter") (S "letter") (defArgs (T 106)) (FuncBody.stmts (defBody (T 106))) (defScope (T 106)) 3 [] Value.none (R 919) Value.none (Value.str (S "budwright.sums") 1253) none (R 923) Value.none 0)) (List.toArray [])
abbrev o925 (P : Params) : Obj := Obj.mk (Value.type "tuple") none (Data.seq (List.toArray []) 0) (List.toArray [])
abbrev o927 (P : Params) : Obj := Obj.mk (Value.type "tuple") none (Data.seq (List.toArray [(Value.str (S "width") 1425), (Value.str (S "many") 1426)]) 0) (List.toArray [])
abbrev o928 (P : Params) : Obj := Obj.mk (Value.type "tuple") none (Data.seq (List.toArray []) 0) (List.toArray [])
abbrev o930 (P : Params) : Obj := Obj.mk (Value.type "code") none (Data.fields (List.toArray [(Value.str (S "constant") 1422), (Value.str (S "constant") 1423), (Value.str (S "/claim/cut.py") 1424), (Value.int (Int.ofNat 630) 0), (Value.int (Int.ofNat 2) 0), (Value.int (Int.ofNat 0) 0), (Value.int (Int.ofNat 0) 0), (Value.int (Int.ofNat 3) 0), (R 925), (Value.bool true), (Value.int (Int.ofNat 181) 0), (R 926), Value.none, (R 927), (R 928), (R 929), (Value.int (Int.ofNat 1427) 0), (Value.int (Int.ofNat 630) 0), (Value.str (S "/claim/cut.py") 1428)])) (List.toArray [])
abbrev o931 (P : Params) : Obj := Obj.mk (Value.type "function") none (Data.func (FuncData.mk (S "constant") (S "constant") (defArgs (T 107)) (FuncBody.stmts (defBody (T 107))) (defScope (T 107)) 3 [] Value.none Value.none Value.none (Value.str (S "budwright.sums") 1253) none (R 930) Value.none 0)) (List.toArray [])
abbrev o932 (P : Params) : Obj := Obj.mk (Value.type "tuple") none (Data.seq (List.toArray []) 0) (List.toArray [])
abbrev o935 (P : Params) : Obj := Obj.mk (Value.type "code") none (Data.fields (List.toArray [(Value.str (S "first_sums") 1436), (Value.str (S "first_sums") 1437), (Value.str (S "/claim/cut.py") 1438), (Value.int (Int.ofNat 635) 0), (Value.int (Int.ofNat 1) 0), (Value.int (Int.ofNat 0) 0), (Value.int (Int.ofNat 0) 0), (Value.int (Int.ofNat 3) 0), (R 932), (Value.bool true), (Value.int (Int.ofNat 181) 0), (R 933), Value.none, Value.none, Value.none, (R 934), (Value.int (Int.ofNat 1439) 0), (Value.int (Int.ofNat 635) 0), (Value.str (S "/claim/cut.py") 1440)])) (List.toArray [])
abbrev o936 (P : Params) : Obj := Obj.mk (Value.type "function") none (Data.func (FuncData.mk (S "first_sums") (S "first_sums") (defArgs (T 111)) (FuncBody.stmts (defBody (T 111))) (defScope (T 111)) 3 [] Value.none Value.none Value.none (Value.str (S "budwright.webs") 1430) none (R 935) Value.none 0)) (List.toArray [])
abbrev o937 (P : Params) : Obj := Obj.mk (Value.type "tuple") none (Data.seq (List.toArray []) 0) (List.toArray [])
abbrev o939 (P : Params) : Obj := Obj.mk (Value.type "tuple") none (Data.seq (List.toArray [(Value.str (S "sums") 1445), (Value.str (S "column") 1446), (Value.str (S "found") 1447), (Value.str (S "one") 1448), (Value.str (S "tie") 1449), (Value.str (S "step") 1450)]) 0) (List.toArray [])
abbrev o940 (P : Params) : Obj := Obj.mk (Value.type "tuple") none (Data.seq (List.toArray []) 0) (List.toArray [])
abbrev o942 (P : Params) : Obj := Obj.mk (Value.type "code") none (Data.fields (List.toArray [(Value.str (S "side_products") 1442), (Value.str (S "side_products") 1443), (Value.str (S "/claim/cut.py") 1444), (Value.int (Int.ofNat 637) 0), (Value.int (Int.ofNat 2) 0), (Value.int (Int.ofNat 0) 0), (Value.int (Int.ofNat 0) 0), (Value.int (Int.ofNat 3) 0), (R 937), (Value.bool true), (Value.int (Int.ofNat 181) 0), (R 938), Value.none, (R 939), (R 940), (R 941), (Value.int (Int.ofNat 1451) 0), (Value.int (Int.ofNat 637) 0), (Value.str (S "/claim/cut.py") 1452)])) (List.toArray [])
abbrev o943 (P : Params) : Obj := Obj.mk (Value.type "function") none (Data.func (FuncData.mk (S "side_products") (S "side_products") (defArgs (T 112)) (FuncBody.stmts (defBody (T 112))) (defScope (T 112)) 3 [] Value.none Value.none Value.none (Value.str (S "budwright.webs") 1430) none (R 942) Value.none 0)) (List.toArray [])
abbrev o944 (P : Params) : Obj := Obj.mk (Value.type "tuple") none (Data.seq (List.toArray []) 0) (List.toArray [])
abbrev o947 (P : Params) : Obj := Obj.mk (Value.type "code") none (Data.fields (List.toArray [(Value.str (S "new_bud") 1454), (Value.str (S "new_bud") 1455), (Value.str (S "/claim/cut.py") 1456), (Value.int (Int.ofNat 645) 0), (Value.int (Int.ofNat 3) 0), (Value.int (Int.ofNat 0) 0), (Value.int (Int.ofNat 0) 0), (Value.int (Int.ofNat 3) 0), (R 944), (Value.bool true), (Value.int (Int.ofNat 181) 0), (R 945), Value.none, Value.none, Value.none, (R 946), (Value.int (Int.ofNat 1457) 0), (Value.int (Int.ofNat 645) 0), (Value.str (S "/claim/cut.py") 1458)])) (List.toArray [])
abbrev o948 (P : Params) : Obj := Obj.mk (Value.type "function") none (Data.func (FuncData.mk (S "new_bud") (S "new_bud") (defArgs (T 113)) (FuncBody.stmts (defBody (T 113))) (defScope (T 113)) 3 [] Value.none Value.none Value.none (Value.str (S "budwright.webs") 1430) none (R 947) Value.none 0)) (List.toArray [])
abbrev o949 (P : Params) : Obj := Obj.mk (Value.type "tuple") none (Data.seq (List.toArray []) 0) (List.toArray [])
abbrev o951 (P : Params) : Obj := Obj.mk (Value.type "tuple") none (Data.seq (List.toArray [(Value.str (S "ties") 1463), (Value.str (S "sums") 1464), (Value.str (S "place") 1465)]) 0) (List.toArray [])
abbrev o952 (P : Params) : Obj := Obj.mk (Value.type "tuple") none (Data.seq (List.toArray []) 0) (List.toArray [])
abbrev o954 (P : Params) : Obj := Obj.mk (Value.type "code") none (Data.fields (List.toArray [(Value.str (S "exchanged") 1460), (Value.str (S "exchanged") 1461), (Value.str (S "/claim/cut.py") 1462), (Value.int (Int.ofNat 654) 0), (Value.int (Int.ofNat 3) 0), (Value.int (Int.ofNat 0) 0), (Value.int (Int.ofNat 0) 0), (Value.int (Int.ofNat 3) 0), (R 949), (Value.bool true), (Value.int (Int.ofNat 181) 0), (R 950), Value.none, (R 951), (R 952), (R 953), (Value.int (Int.ofNat 1466) 0), (Value.int (Int.ofNat 654) 0), (Value.str (S "/claim/cut.py") 1467)])) (List.toArray [])
abbrev o955 (P : Params) : Obj := Obj.mk (Value.type "function") none (Data.func (FuncData.mk (S "exchanged") (S "exchanged") (defArgs (T 114)) (FuncBody.stmts (defBody (T 114))) (defScope (T 114)) 3 [] Value.none Value.none Value.none (Value.str (S "budwright.webs") 1430) none (R 954) Value.none 0)) (List.toArray [])
abbrev o963 (P : Params) : Obj := Obj.mk (Value.type "tuple") none (Data.seq (List.toArray []) 0) (List.toArray [])
abbrev o965 (P : Params) : Obj := Obj.mk (Value.type "tuple") none (Data.seq (List.toArray [(Value.str (S "self") 1484), (Value.str (S "table") 1485)]) 0) (List.toArray [])
abbrev o966 (P : Params) : Obj := Obj.mk (Value.type "tuple") none (Data.seq (List.toArray []) 0) (List.toArray [])
abbrev o968 (P : Params) : Obj := Obj.mk (Value.type "code") none (Data.fields (List.toArray [(Value.str (S "__init__") 1481), (Value.str (S "Web.__init__") 1482), (Value.str (S "/claim/cut.py") 1483), (Value.int (Int.ofNat 658) 0), (Value.int (Int.ofNat 2) 0), (Value.int (Int.ofNat 0) 0), (Value.int (Int.ofNat 0) 0), (Value.int (Int.ofNat 3) 0), (R 963), (Value.bool true), (Value.int (Int.ofNat 181) 0), (R 964), Value.none, (R 965), (R 966), (R 967), (Value.int (Int.ofNat 1486) 0), (Value.int (Int.ofNat 658) 0), (Value.str (S "/claim/cut.py") 1487)])) (List.toArray [])
abbrev o969 (P : Params) : Obj := Obj.mk (Value.type "function") none (Data.func (FuncData.mk (S "__init__") (S "Web.__init__") (defArgs (M 115 0)) (FuncBody.stmts (defBody (M 115 0))) (defScope (M 115 0)) 3 [] Value.none Value.none Value.none (Value.str (S "budwright.webs") 1430) none (R 968) Value.none 0)) (List.toArray [])
abbrev o970 (P : Params) : Obj := Obj.mk (Value.type "tuple") none (Data.seq (List.toArray []) 0) (List.toArray [])
abbrev o972 (P : Params) : Obj := Obj.mk (Value.type "tuple") none (Data.seq (List.toArray [(Value.str (S "self") 1492), (Value.str (S "place") 1493)]) 0) (List.toArray [])
abbrev o973 (P : Params) : Obj := Obj.mk (Value.type "tuple") none (Data.seq (List.toArray []) 0) (List.toArray [])
abbrev o975 (P : Params) : Obj := Obj.mk (Value.type "code") none (Data.fields (List.toArray [(Value.str (S "exchange") 1489), (Value.str (S "Web.exchange") 1490), (Value.str (S "/claim/cut.py") 1491), (Value.int (Int.ofNat 665) 0), (Value.int (Int.ofNat 2) 0), (Value.int (Int.ofNat 0) 0), (Value.int (Int.ofNat 0) 0), (Value.int (Int.ofNat 3) 0), (R 970), (Value.bool true), (Value.int (Int.ofNat 181) 0), (R 971), Value.none, (R 972), (R 973), (R 974), (Value.int (Int.ofNat 1494) 0), (Value.int (Int.ofNat 665) 0), (Value.str (S "/claim/cut.py") 1495)])) (List.toArray [])
abbrev o976 (P : Params) : Obj := Obj.mk (Value.type "function") none (Data.func (FuncData.mk (S "exchange") (S "Web.exchange") (defArgs (M 115 1)) (FuncBody.stmts (defBody (M 115 1))) (defScope (M 115 1)) 3 [] Value.none Value.none Value.none (Value.str (S "budwright.webs") 1430) none (R 975) Value.none 0)) (List.toArray [])
abbrev o977 (P : Params) : Obj := Obj.mk (Value.type "tuple") none (Data.seq (List.toArray []) 0) (List.toArray [])
abbrev o979 (P : Params) : Obj := Obj.mk (Value.type "tuple") none (Data.seq (List.toArray [(Value.str (S "self") 1500), (Value.str (S "places") 1501), (Value.str (S "seed") 1502), (Value.str (S "sums") 1503), (Value.str (S "made") 1504), (Value.str (S "place") 1505), (Value.str (S "after") 1506)]) 0) (List.toArray [])
abbrev o980 (P : Params) : Obj := Obj.mk (Value.type "tuple") none (Data.seq (List.toArray []) 0) (List.toArray [])
abbrev o982 (P : Params) : Obj := Obj.mk (Value.type "code") none (Data.fields (List.toArray [(Value.str (S "walk") 1497), (Value.str (S "Web.walk") 1498), (Value.str (S "/claim/cut.py") 1499), (Value.int (Int.ofNat 668) 0), (Value.int (Int.ofNat 2) 0), (Value.int (Int.ofNat 0) 0), (Value.int (Int.ofNat 0) 0), (Value.int (Int.ofNat 3) 0), (R 977), (Value.bool true), (Value.int (Int.ofNat 181) 0), (R 978), Value.none, (R 979), (R 980), (R 981), (Value.int (Int.ofNat 1507) 0), (Value.int (Int.ofNat 668) 0), (Value.str (S "/claim/cut.py") 1508)])) (List.toArray [])
abbrev o983 (P : Params) : Obj := Obj.mk (Value.type "function") none (Data.func (FuncData.mk (S "walk") (S "Web.walk") (defArgs (M 115 2)) (FuncBody.stmts (defBody (M 115 2))) (defScope (M 115 2)) 3 [] Value.none Value.none Value.none (Value.str (S "budwright.webs") 1430) none (R 982) Value.none 0)) (List.toArray [])
abbrev o984 (P : Params) : Obj := Obj.mk (Value.type "tuple") none (Data.seq (List.toArray []) 0) (List.toArray [])
abbrev o986 (P : Params) : Obj := Obj.mk (Value.type "tuple") none (Data.seq (List.toArray [(Value.str (S "self") 1513), (Value.str (S "place") 1514), (Value.str (S "many") 1515)]) 0) (List.toArray [])
abbrev o987 (P : Params) : Obj := Obj.mk (Value.type "tuple") none (Data.seq (List.toArray []) 0) (List.toArray [])
abbrev o989 (P : Params) : Obj := Obj.mk (Value.type "code") none (Data.fields (List.toArray [(Value.str (S "check_exchange") 1510), (Value.str (S "Web.check_exchange") 1511), (Value.str (S "/claim/cut.py") 1512), (Value.int (Int.ofNat 682) 0), (Value.int (Int.ofNat 3) 0), (Value.int (Int.ofNat 0) 0), (Value.int (Int.ofNat 0) 0), (Value.int (Int.ofNat 3) 0), (R 984), (Value.bool true), (Value.int (Int.ofNat 181) 0), (R 985), Value.none, (R 986), (R 987), (R 988), (Value.int (Int.ofNat 1516) 0), (Value.int (Int.ofNat 682) 0), (Value.str (S "/claim/cut.py") 1517)])) (List.toArray [])
abbrev o990 (P : Params) : Obj := Obj.mk (Value.type "function") none (Data.func (FuncData.mk (S "check_exchange") (S "Web.check_exchange") (defArgs (M 115 3)) (FuncBody.stmts (defBody (M 115 3))) (defScope (M 115 3)) 3 [] Value.none Value.none Value.none (Value.str (S "budwright.webs") 1430) none (R 989) Value.none 0)) (List.toArray [])
abbrev o991 (P : Params) : Obj := Obj.mk (Value.type "tuple") none (Data.seq (List.toArray []) 0) (List.toArray [])
abbrev o993 (P : Params) : Obj := Obj.mk (Value.type "tuple") none (Data.seq (List.toArray [(Value.str (S "self") 1522)]) 0) (List.toArray [])
abbrev o994 (P : Params) : Obj := Obj.mk (Value.type "tuple") none (Data.seq (List.toArray []) 0) (List.toArray [])
abbrev o996 (P : Params) : Obj := Obj.mk (Value.type "code") none (Data.fields (List.toArray [(Value.str (S "table") 1519), (Value.str (S "Web.table") 1520), (Value.str (S "/claim/cut.py") 1521), (Value.int (Int.ofNat 689) 0), (Value.int (Int.ofNat 1) 0), (Value.int (Int.ofNat 0) 0), (Value.int (Int.ofNat 0) 0), (Value.int (Int.ofNat 3) 0), (R 991), (Value.bool true), (Value.int (Int.ofNat 181) 0), (R 992), Value.none, (R 993), (R 994), (R 995), (Value.int (Int.ofNat 1523) 0), (Value.int (Int.ofNat 689) 0), (Value.str (S "/claim/cut.py") 1524)])) (List.toArray [])
abbrev o997 (P : Params) : Obj := Obj.mk (Value.type "function") none (Data.func (FuncData.mk (S "table") (S "Web.table") (defArgs (M 115 4)) (FuncBody.stmts (defBody (M 115 4))) (defScope (M 115 4)) 3 [] Value.none Value.none Value.none (Value.str (S "budwright.webs") 1430) none (R 996) Value.none 0)) (List.toArray [])
abbrev o998 (P : Params) : Obj := Obj.mk (Value.type "tuple") none (Data.seq (List.toArray []) 0) (List.toArray [])
abbrev o1000 (P : Params) : Obj := Obj.mk (Value.type "tuple") none (Data.seq (List.toArray [(Value.str (S "self") 1529)]) 0) (List.toArray [])
abbrev o1001 (P : Params) : Obj := Obj.mk (Value.type "tuple") none (Data.seq (List.toArray []) 0) (List.toArray [])
abbrev o1003 (P : Params) : Obj := Obj.mk (Value.type "code") none (Data.fields (List.toArray [(Value.str (S "weights") 1526), (Value.str (S "Web.weights") 1527), (Value.str (S "/claim/cut.py") 1528), (Value.int (Int.ofNat 692) 0), (Value.int (Int.ofNat 1) 0), (Value.int (Int.ofNat 0) 0), (Value.int (Int.ofNat 0) 0), (Value.int (Int.ofNat 3) 0), (R 998), (Value.bool true), (Value.int (Int.ofNat 181) 0), (R 999), Value.none, (R 1000), (R 1001), (R 1002), (Value.int (Int.ofNat 1530) 0), (Value.int (Int.ofNat 692) 0), (Value.str (S "/claim/cut.py") 1531)])) (List.toArray [])
abbrev o1004 (P : Params) : Obj := Obj.mk (Value.type "function") none (Data.func (FuncData.mk (S "weights") (S "Web.weights") (defArgs (M 115 5)) (FuncBody.stmts (defBody (M 115 5))) (defScope (M 115 5)) 3 [] Value.none Value.none Value.none (Value.str (S "budwright.webs") 1430) none (R 1003) Value.none 0)) (List.toArray [])
abbrev o1005 (P : Params) : Obj := Obj.mk (Value.type "tuple") none (Data.seq (List.toArray []) 0) (List.toArray [])
abbrev o1007 (P : Params) : Obj := Obj.mk (Value.type "tuple") none (Data.seq (List.toArray [(Value.str (S "self") 1536)]) 0) (List.toArray [])
abbrev o1008 (P : Params) : Obj := Obj.mk (Value.type "tuple") none (Data.seq (List.toArray []) 0) (List.toArray [])
abbrev o1010 (P : Params) : Obj := Obj.mk (Value.type "code") none (Data.fields (List.toArray [(Value.str (S "places") 1533), (Value.str (S "Web.places") 1534), (Value.str (S "/claim/cut.py") 1535), (Value.int (Int.ofNat 695) 0), (Value.int (Int.ofNat 1) 0), (Value.int (Int.ofNat 0) 0), (Value.int (Int.ofNat 0) 0), (Value.int (Int.ofNat 3) 0), (R 1005), (Value.bool true), (Value.int (Int.ofNat 181) 0), (R 1006), Value.none, (R 1007), (R 1008), (R 1009), (Value.int (Int.ofNat 1537) 0), (Value.int (Int.ofNat 695) 0), (Value.str (S "/claim/cut.py") 1538)])) (List.toArray [])
abbrev o1011 (P : Params) : Obj := Obj.mk (Value.type "function") none (Data.func (FuncData.mk (S "places") (S "Web.places") (defArgs (M 115 6)) (FuncBody.stmts (defBody (M 115 6))) (defScope (M 115 6)) 3 [] Value.none Value.none Value.none (Value.str (S "budwright.webs") 1430) none (R 1010) Value.none 0)) (List.toArray [])
abbrev o1012 (P : Params) : Obj := Obj.mk (Value.type "tuple") none (Data.seq (List.toArray []) 0) (List.toArray [])
abbrev o1014 (P : Params) : Obj := Obj.mk (Value.type "tuple") none (Data.seq (List.toArray [(Value.str (S "self") 1543), (Value.str (S "place") 1544)]) 0) (List.toArray [])
abbrev o1015 (P : Params) : Obj := Obj.mk (Value.type "tuple") none (Data.seq (List.toArray []) 0) (List.toArray [])
abbrev o1017 (P : Params) : Obj := Obj.mk (Value.type "code") none (Data.fields (List.toArray [(Value.str (S "bud") 1540), (Value.str (S "Web.bud") 1541), (Value.str (S "/claim/cut.py") 1542), (Value.int (Int.ofNat 698) 0), (Value.int (Int.ofNat 2) 0), (Value.int (Int.ofNat 0) 0), (Value.int (Int.ofNat 0) 0), (Value.int (Int.ofNat 3) 0), (R 1012), (Value.bool true), (Value.int (Int.ofNat 181) 0), (R 1013), Value.none, (R 1014), (R 1015), (R 1016), (Value.int (Int.ofNat 1545) 0), (Value.int (Int.ofNat 698) 0), (Value.str (S "/claim/cut.py") 1546)])) (List.toArray [])
abbrev o1018 (P : Params) : Obj := Obj.mk (Value.type "function") none (Data.func (FuncData.mk (S "bud") (S "Web.bud") (defArgs (M 115 7)) (FuncBody.stmts (defBody (M 115 7))) (defScope (M 115 7)) 3 [] Value.none Value.none Value.none (Value.str (S "budwright.webs") 1430) none (R 1017) Value.none 0)) (List.toArray [])
abbrev o1019 (P : Params) : Obj := Obj.mk (Value.type "tuple") none (Data.seq (List.toArray []) 0) (List.toArray [])
abbrev o1021 (P : Params) : Obj := Obj.mk (Value.type "tuple") none (Data.seq (List.toArray [(Value.str (S "self") 1551)]) 0) (List.toArray [])
abbrev o1022 (P : Params) : Obj := Obj.mk (Value.type "tuple") none (Data.seq (List.toArray []) 0) (List.toArray [])
abbrev o1024 (P : Params) : Obj := Obj.mk (Value.type "code") none (Data.fields (List.toArray [(Value.str (S "buds") 1548), (Value.str (S "Web.buds") 1549), (Value.str (S "/claim/cut.py") 1550), (Value.int (Int.ofNat 703) 0), (Value.int (Int.ofNat 1) 0), (Value.int (Int.ofNat 0) 0), (Value.int (Int.ofNat 0) 0), (Value.int (Int.ofNat 3) 0), (R 1019), (Value.bool true), (Value.int (Int.ofNat 181) 0), (R 1020), Value.none, (R 1021), (R 1022), (R 1023), (Value.int (Int.ofNat 1552) 0), (Value.int (Int.ofNat 703) 0), (Value.str (S "/claim/cut.py") 1553)])) (List.toArray [])
abbrev o1025 (P : Params) : Obj := Obj.mk (Value.type "function") none (Data.func (FuncData.mk (S "buds") (S "Web.buds") (defArgs (M 115 8)) (FuncBody.stmts (defBody (M 115 8))) (defScope (M 115 8)) 3 [] Value.none Value.none Value.none (Value.str (S "budwright.webs") 1430) none (R 1024) Value.none 0)) (List.toArray [])
abbrev o1026 (P : Params) : Obj := Obj.mk (Value.type "tuple") none (Data.seq (List.toArray []) 0) (List.toArray [])
abbrev o1028 (P : Params) : Obj := Obj.mk (Value.type "tuple") none (Data.seq (List.toArray [(Value.str (S "self") 1558)]) 0) (List.toArray [])
abbrev o1029 (P : Params) : Obj := Obj.mk (Value.type "tuple") none (Data.seq (List.toArray []) 0) (List.toArray [])
abbrev o1031 (P : Params) : Obj := Obj.mk (Value.type "code") none (Data.fields (List.toArray [(Value.str (S "hues") 1555), (Value.str (S "Web.hues") 1556), (Value.str (S "/claim/cut.py") 1557), (Value.int (Int.ofNat 706) 0), (Value.int (Int.ofNat 1) 0), (Value.int (Int.ofNat 0) 0), (Value.int (Int.ofNat 0) 0), (Value.int (Int.ofNat 3) 0), (R 1026), (Value.bool true), (Value.int (Int.ofNat 181) 0), (R 1027), Value.none, (R 1028), (R 1029), (R 1030), (Value.int (Int.ofNat 1559) 0), (Value.int (Int.ofNat 706) 0), (Value.str (S "/claim/cut.py") 1560)])) (List.toArray [])
abbrev o1032 (P : Params) : Obj := Obj.mk (Value.type "function") none (Data.func (FuncData.mk (S "hues") (S "Web.hues") (defArgs (M 115 9)) (FuncBody.stmts (defBody (M 115 9))) (defScope (M 115 9)) 3 [] Value.none Value.none Value.none (Value.str (S "budwright.webs") 1430) none (R 1031) Value.none 0)) (List.toArray [])
abbrev o1033 (P : Params) : Obj := Obj.mk (Value.type "tuple") none (Data.seq (List.toArray []) 0) (List.toArray [])
abbrev o1035 (P : Params) : Obj := Obj.mk (Value.type "tuple") none (Data.seq (List.toArray [(Value.str (S "self") 1565)]) 0) (List.toArray [])
abbrev o1036 (P : Params) : Obj := Obj.mk (Value.type "tuple") none (Data.seq (List.toArray []) 0) (List.toArray [])
abbrev o1038 (P : Params) : Obj := Obj.mk (Value.type "code") none (Data.fields (List.toArray [(Value.str (S "leans") 1562), (Value.str (S "Web.leans") 1563), (Value.str (S "/claim/cut.py") 1564), (Value.int (Int.ofNat 709) 0), (Value.int (Int.ofNat 1) 0), (Value.int (Int.ofNat 0) 0), (Value.int (Int.ofNat 0) 0), (Value.int (Int.ofNat 3) 0), (R 1033), (Value.bool true), (Value.int (Int.ofNat 181) 0), (R 1034), Value.none, (R 1035), (R 1036), (R 1037), (Value.int (Int.ofNat 1566) 0), (Value.int (Int.ofNat 709) 0), (Value.str (S "/claim/cut.py") 1567)])) (List.toArray [])
abbrev o1039 (P : Params) : Obj := Obj.mk (Value.type "function") none (Data.func (FuncData.mk (S "leans") (S "Web.leans") (defArgs (M 115 10)) (FuncBody.stmts (defBody (M 115 10))) (defScope (M 115 10)) 3 [] Value.none Value.none Value.none (Value.str (S "budwright.webs") 1430) none (R 1038) Value.none 0)) (List.toArray [])
abbrev o1040 (P : Params) : Obj := Obj.mk (Value.type "tuple") none (Data.seq (List.toArray []) 0) (List.toArray [])
abbrev o1042 (P : Params) : Obj := Obj.mk (Value.type "tuple") none (Data.seq (List.toArray [(Value.str (S "self") 1572)]) 0) (List.toArray [])
abbrev o1043 (P : Params) : Obj := Obj.mk (Value.type "tuple") none (Data.seq (List.toArray []) 0) (List.toArray [])
abbrev o1045 (P : Params) : Obj := Obj.mk (Value.type "code") none (Data.fields (List.toArray [(Value.str (S "done") 1569), (Value.str (S "Web.done") 1570), (Value.str (S "/claim/cut.py") 1571), (Value.int (Int.ofNat 712) 0), (Value.int (Int.ofNat 1) 0), (Value.int (Int.ofNat 0) 0), (Value.int (Int.ofNat 0) 0), (Value.int (Int.ofNat 3) 0), (R 1040), (Value.bool true), (Value.int (Int.ofNat 181) 0), (R 1041), Value.none, (R 1042), (R 1043), (R 1044), (Value.int (Int.ofNat 1573) 0), (Value.int (Int.ofNat 712) 0), (Value.str (S "/claim/cut.py") 1574)])) (List.toArray [])
abbrev o1046 (P : Params) : Obj := Obj.mk (Value.type "function") none (Data.func (FuncData.mk (S "done") (S "Web.done") (defArgs (M 115 11)) (FuncBody.stmts (defBody (M 115 11))) (defScope (M 115 11)) 3 [] Value.none Value.none Value.none (Value.str (S "budwright.webs") 1430) none (R 1045) Value.none 0)) (List.toArray [])
abbrev o1047 (P : Params) : Obj := Obj.mk (Value.type "tuple") none (Data.seq (List.toArray []) 0) (List.toArray [])
abbrev o1049 (P : Params) : Obj := Obj.mk (Value.type "tuple") none (Data.seq (List.toArray [(Value.str (S "self") 1579), (Value.str (S "place") 1580)]) 0) (List.toArray [])
abbrev o1050 (P : Params) : Obj := Obj.mk (Value.type "tuple") none (Data.seq (List.toArray []) 0) (List.toArray [])
abbrev o1052 (P : Params) : Obj := Obj.mk (Value.type "code") none (Data.fields (List.toArray [(Value.str (S "hold") 1576), (Value.str (S "Web.hold") 1577), (Value.str (S "/claim/cut.py") 1578), (Value.int (Int.ofNat 715) 0), (Value.int (Int.ofNat 2) 0), (Value.int (Int.ofNat 0) 0), (Value.int (Int.ofNat 0) 0), (Value.int (Int.ofNat 3) 0), (R 1047), (Value.bool true), (Value.int (Int.ofNat 181) 0), (R 1048), Value.none, (R 1049), (R 1050), (R 1051), (Value.int (Int.ofNat 1581) 0), (Value.int (Int.ofNat 715) 0), (Value.str (S "/claim/cut.py") 1582)])) (List.toArray [])
abbrev o1053 (P : Params) : Obj := Obj.mk (Value.type "function") none (Data.func (FuncData.mk (S "hold") (S "Web.hold") (defArgs (M 115 12)) (FuncBody.stmts (defBody (M 115 12))) (defScope (M 115 12)) 3 [] Value.none Value.none Value.none (Value.str (S "budwright.webs") 1430) none (R 1052) Value.none 0)) (List.toArray [])
abbrev o1054 (P : Params) : Obj := Obj.mk (Value.type "tuple") none (Data.seq (List.toArray []) 0) (List.toArray [])
abbrev o1056 (P : Params) : Obj := Obj.mk (Value.type "tuple") none (Data.seq (List.toArray [(Value.str (S "self") 1587), (Value.str (S "place") 1588)]) 0) (List.toArray [])
abbrev o1057 (P : Params) : Obj := Obj.mk (Value.type "tuple") none (Data.seq (List.toArray []) 0) (List.toArray [])
abbrev o1059 (P : Params) : Obj := Obj.mk (Value.type "code") none (Data.fields (List.toArray [(Value.str (S "release") 1584), (Value.str (S "Web.release") 1585), (Value.str (S "/claim/cut.py") 1586), (Value.int (Int.ofNat 718) 0), (Value.int (Int.ofNat 2) 0), (Value.int (Int.ofNat 0) 0), (Value.int (Int.ofNat 0) 0), (Value.int (Int.ofNat 3) 0), (R 1054), (Value.bool true), (Value.int (Int.ofNat 181) 0), (R 1055), Value.none, (R 1056), (R 1057), (R 1058), (Value.int (Int.ofNat 1589) 0), (Value.int (Int.ofNat 718) 0), (Value.str (S "/claim/cut.py") 1590)])) (List.toArray [])
abbrev o1060 (P : Params) : Obj := Obj.mk (Value.type "function") none (Data.func (FuncData.mk (S "release") (S "Web.release") (defArgs (M 115 13)) (FuncBody.stmts (defBody (M 115 13))) (defScope (M 115 13)) 3 [] Value.none Value.none Value.none (Value.str (S "budwright.webs") 1430) none (R 1059) Value.none 0)) (List.toArray [])
abbrev o1061 (P : Params) : Obj := Obj.mk (Value.type "tuple") none (Data.seq (List.toArray []) 0) (List.toArray [])
abbrev o1063 (P : Params) : Obj := Obj.mk (Value.type "tuple") none (Data.seq (List.toArray [(Value.str (S "self") 1595)]) 0) (List.toArray [])
abbrev o1064 (P : Params) : Obj := Obj.mk (Value.type "tuple") none (Data.seq (List.toArray []) 0) (List.toArray [])
abbrev o1066 (P : Params) : Obj := Obj.mk (Value.type "code") none (Data.fields (List.toArray [(Value.str (S "held") 1592), (Value.str (S "Web.held") 1593), (Value.str (S "/claim/cut.py") 1594), (Value.int (Int.ofNat 721) 0), (Value.int (Int.ofNat 1) 0), (Value.int (Int.ofNat 0) 0), (Value.int (Int.ofNat 0) 0), (Value.int (Int.ofNat 3) 0), (R 1061), (Value.bool true), (Value.int (Int.ofNat 181) 0), (R 1062), Value.none, (R 1063), (R 1064), (R 1065), (Value.int (Int.ofNat 1596) 0), (Value.int (Int.ofNat 721) 0), (Value.str (S "/claim/cut.py") 1597)])) (List.toArray [])
abbrev o1067 (P : Params) : Obj := Obj.mk (Value.type "function") none (Data.func (FuncData.mk (S "held") (S "Web.held") (defArgs (M 115 14)) (FuncBody.stmts (defBody (M 115 14))) (defScope (M 115 14)) 3 [] Value.none Value.none Value.none (Value.str (S "budwright.webs") 1430) none (R 1066) Value.none 0)) (List.toArray [])
abbrev o1068 (P : Params) : Obj := Obj.mk (Value.type "tuple") none (Data.seq (List.toArray []) 0) (List.toArray [])
abbrev o1070 (P : Params) : Obj := Obj.mk (Value.type "tuple") none (Data.seq (List.toArray [(Value.str (S "self") 1602), (Value.str (S "order") 1603)]) 0) (List.toArray [])
abbrev o1071 (P : Params) : Obj := Obj.mk (Value.type "tuple") none (Data.seq (List.toArray []) 0) (List.toArray [])
abbrev o1073 (P : Params) : Obj := Obj.mk (Value.type "code") none (Data.fields (List.toArray [(Value.str (S "reorder") 1599), (Value.str (S "Web.reorder") 1600), (Value.str (S "/claim/cut.py") 1601), (Value.int (Int.ofNat 724) 0), (Value.int (Int.ofNat 2) 0), (Value.int (Int.ofNat 0) 0), (Value.int (Int.ofNat 0) 0), (Value.int (Int.ofNat 3) 0), (R 1068), (Value.bool true), (Value.int (Int.ofNat 181) 0), (R 1069), Value.none, (R 1070), (R 1071), (R 1072), (Value.int (Int.ofNat 1604) 0), (Value.int (Int.ofNat 724) 0), (Value.str (S "/claim/cut.py") 1605)])) (List.toArray [])
abbrev o1074 (P : Params) : Obj := Obj.mk (Value.type "function") none (Data.func (FuncData.mk (S "reorder") (S "Web.reorder") (defArgs (M 115 15)) (FuncBody.stmts (defBody (M 115 15))) (defScope (M 115 15)) 3 [] Value.none Value.none Value.none (Value.str (S "budwright.webs") 1430) none (R 1073) Value.none 0)) (List.toArray [])
abbrev o1075 (P : Params) : Obj := Obj.mk (Value.type "tuple") none (Data.seq (List.toArray []) 0) (List.toArray [])
abbrev o1077 (P : Params) : Obj := Obj.mk (Value.type "tuple") none (Data.seq (List.toArray [(Value.str (S "self") 1610), (Value.str (S "other") 1611)]) 0) (List.toArray [])
abbrev o1078 (P : Params) : Obj := Obj.mk (Value.type "tuple") none (Data.seq (List.toArray []) 0) (List.toArray [])
abbrev o1080 (P : Params) : Obj := Obj.mk (Value.type "code") none (Data.fields (List.toArray [(Value.str (S "alike") 1607), (Value.str (S "Web.alike") 1608), (Value.str (S "/claim/cut.py") 1609), (Value.int (Int.ofNat 727) 0), (Value.int (Int.ofNat 2) 0), (Value.int (Int.ofNat 0) 0), (Value.int (Int.ofNat 0) 0), (Value.int (Int.ofNat 3) 0), (R 1075), (Value.bool true), (Value.int (Int.ofNat 181) 0), (R 1076), Value.none, (R 1077), (R 1078), (R 1079), (Value.int (Int.ofNat 1612) 0), (Value.int (Int.ofNat 727) 0), (Value.str (S "/claim/cut.py") 1613)])) (List.toArray [])
abbrev o1081 (P : Params) : Obj := Obj.mk (Value.type "function") none (Data.func (FuncData.mk (S "alike") (S "Web.alike") (defArgs (M 115 16)) (FuncBody.stmts (defBody (M 115 16))) (defScope (M 115 16)) 3 [] Value.none Value.none Value.none (Value.str (S "budwright.webs") 1430) none (R 1080) Value.none 0)) (List.toArray [])
abbrev o1082 (P : Params) : Obj := Obj.mk (Value.type "tuple") none (Data.seq (List.toArray []) 0) (List.toArray [])
abbrev o1084 (P : Params) : Obj := Obj.mk (Value.type "tuple") none (Data.seq (List.toArray [(Value.str (S "self") 1618)]) 0) (List.toArray [])
abbrev o1085 (P : Params) : Obj := Obj.mk (Value.type "tuple") none (Data.seq (List.toArray []) 0) (List.toArray [])
abbrev o1087 (P : Params) : Obj := Obj.mk (Value.type "code") none (Data.fields (List.toArray [(Value.str (S "twin") 1615), (Value.str (S "Web.twin") 1616), (Value.str (S "/claim/cut.py") 1617), (Value.int (Int.ofNat 730) 0), (Value.int (Int.ofNat 1) 0), (Value.int (Int.ofNat 0) 0), (Value.int (Int.ofNat 0) 0), (Value.int (Int.ofNat 3) 0), (R 1082), (Value.bool true), (Value.int (Int.ofNat 181) 0), (R 1083), Value.none, (R 1084), (R 1085), (R 1086), (Value.int (Int.ofNat 1619) 0), (Value.int (Int.ofNat 730) 0), (Value.str (S "/claim/cut.py") 1620)])) (List.toArray [])
abbrev o1088 (P : Params) : Obj := Obj.mk (Value.type "function") none (Data.func (FuncData.mk (S "twin") (S "Web.twin") (defArgs (M 115 17)) (FuncBody.stmts (defBody (M 115 17))) (defScope (M 115 17)) 3 [] Value.none Value.none Value.none (Value.str (S "budwright.webs") 1430) none (R 1087) Value.none 0)) (List.toArray [])
abbrev o1089 (P : Params) : Obj := Obj.mk (Value.type "tuple") none (Data.seq (List.toArray []) 0) (List.toArray [])
abbrev o1091 (P : Params) : Obj := Obj.mk (Value.type "tuple") none (Data.seq (List.toArray [(Value.str (S "self") 1625)]) 0) (List.toArray [])
abbrev o1092 (P : Params) : Obj := Obj.mk (Value.type "tuple") none (Data.seq (List.toArray []) 0) (List.toArray [])
abbrev o1094 (P : Params) : Obj := Obj.mk (Value.type "code") none (Data.fields (List.toArray [(Value.str (S "__len__") 1622), (Value.str (S "Web.__len__") 1623), (Value.str (S "/claim/cut.py") 1624), (Value.int (Int.ofNat 733) 0), (Value.int (Int.ofNat 1) 0), (Value.int (Int.ofNat 0) 0), (Value.int (Int.ofNat 0) 0), (Value.int (Int.ofNat 3) 0), (R 1089), (Value.bool true), (Value.int (Int.ofNat 181) 0), (R 1090), Value.none, (R 1091), (R 1092), (R 1093), (Value.int (Int.ofNat 1626) 0), (Value.int (Int.ofNat 733) 0), (Value.str (S "/claim/cut.py") 1627)])) (List.toArray [])
abbrev o1095 (P : Params) : Obj := Obj.mk (Value.type "function") none (Data.func (FuncData.mk (S "__len__") (S "Web.__len__") (defArgs (M 115 18)) (FuncBody.stmts (defBody (M 115 18))) (defScope (M 115 18)) 3 [] Value.none Value.none Value.none (Value.str (S "budwright.webs") 1430) none (R 1094) Value.none 0)) (List.toArray [])
abbrev o1096 (P : Params) : Obj := Obj.mk (Value.type "tuple") none (Data.seq (List.toArray []) 0) (List.toArray [])
abbrev o1098 (P : Params) : Obj := Obj.mk (Value.type "tuple") none (Data.seq (List.toArray [(Value.str (S "self") 1632), (Value.str (S "other") 1633)]) 0) (List.toArray [])
abbrev o1099 (P : Params) : Obj := Obj.mk (Value.type "tuple") none (Data.seq (List.toArray []) 0) (List.toArray [])
abbrev o1101 (P : Params) : Obj := Obj.mk (Value.type "code") none (Data.fields (List.toArray [(Value.str (S "__eq__") 1629), (Value.str (S "Web.__eq__") 1630), (Value.str (S "/claim/cut.py") 1631), (Value.int (Int.ofNat 736) 0), (Value.int (Int.ofNat 2) 0), (Value.int (Int.ofNat 0) 0), (Value.int (Int.ofNat 0) 0), (Value.int (Int.ofNat 3) 0), (R 1096), (Value.bool true), (Value.int (Int.ofNat 181) 0), (R 1097), Value.none, (R 1098), (R 1099), (R 1100), (Value.int (Int.ofNat 1634) 0), (Value.int (Int.ofNat 736) 0), (Value.str (S "/claim/cut.py") 1635)])) (List.toArray [])
abbrev o1102 (P : Params) : Obj := Obj.mk (Value.type "function") none (Data.func (FuncData.mk (S "__eq__") (S "Web.__eq__") (defArgs (M 115 19)) (FuncBody.stmts (defBody (M 115 19))) (defScope (M 115 19)) 3 [] Value.none Value.none Value.none (Value.str (S "budwright.webs") 1430) none (R 1101) Value.none 0)) (List.toArray [])
abbrev o1103 (P : Params) : Obj := Obj.mk (Value.type "tuple") none (Data.seq (List.toArray []) 0) (List.toArray [])
abbrev o1105 (P : Params) : Obj := Obj.mk (Value.type "tuple") none (Data.seq (List.toArray [(Value.str (S "self") 1640)]) 0) (List.toArray [])
abbrev o1106 (P : Params) : Obj := Obj.mk (Value.type "tuple") none (Data.seq (List.toArray []) 0) (List.toArray [])
abbrev o1108 (P : Params) : Obj := Obj.mk (Value.type "code") none (Data.fields (List.toArray [(Value.str (S "__str__") 1637), (Value.str (S "Web.__str__") 1638), (Value.str (S "/claim/cut.py") 1639), (Value.int (Int.ofNat 739) 0), (Value.int (Int.ofNat 1) 0), (Value.int (Int.ofNat 0) 0), (Value.int (Int.ofNat 0) 0), (Value.int (Int.ofNat 3) 0), (R 1103), (Value.bool true), (Value.int (Int.ofNat 181) 0), (R 1104), Value.none, (R 1105), (R 1106), (R 1107), (Value.int (Int.ofNat 1641) 0), (Value.int (Int.ofNat 739) 0), (Value.str (S "/claim/cut.py") 1642)])) (List.toArray [])
abbrev o1109 (P : Params) : Obj := Obj.mk (Value.type "function") none (Data.func (FuncData.mk (S "__str__") (S "Web.__str__") (defArgs (M 115 20)) (FuncBody.stmts (defBody (M 115 20))) (defScope (M 115 20)) 3 [] Value.none Value.none Value.none (Value.str (S "budwright.webs") 1430) none (R 1108) Value.none 0)) (List.toArray [])
abbrev o1110 (P : Params) : Obj := Obj.mk (Value.type "tuple") none (Data.seq (List.toArray []) 0) (List.toArray [])
abbrev o1112 (P : Params) : Obj := Obj.mk (Value.type "tuple") none (Data.seq (List.toArray [(Value.str (S "self") 1647)]) 0) (List.toArray [])
abbrev o1113 (P : Params) : Obj := Obj.mk (Value.type "tuple") none (Data.seq (List.toArray []) 0) (List.toArray [])
abbrev o1115 (P : Params) : Obj := Obj.mk (Value.type "code") none (Data.fields (List.toArray [(Value.str (S "__repr__") 1644), (Value.str (S "Web.__repr__") 1645), (Value.str (S "/claim/cut.py") 1646), (Value.int (Int.ofNat 742) 0), (Value.int (Int.ofNat 1) 0), (Value.int (Int.ofNat 0) 0), (Value.int (Int.ofNat 0) 0), (Value.int (Int.ofNat 3) 0), (R 1110), (Value.bool true), (Value.int (Int.ofNat 181) 0), (R 1111), Value.none, (R 1112), (R 1113), (R 1114), (Value.int (Int.ofNat 1648) 0), (Value.int (Int.ofNat 742) 0), (Value.str (S "/claim/cut.py") 1649)])) (List.toArray [])
abbrev o1116 (P : Params) : Obj := Obj.mk (Value.type "function") none (Data.func (FuncData.mk (S "__repr__") (S "Web.__repr__") (defArgs (M 115 21)) (FuncBody.stmts (defBody (M 115 21))) (defScope (M 115 21)) 3 [] Value.none Value.none Value.none (Value.str (S "budwright.webs") 1430) none (R 1115) Value.none 0)) (List.toArray [])
abbrev o1117 (P : Params) : Obj := Obj.mk (Value.type "tuple") none (Data.seq (List.toArray [(Value.str (S "kept") 1651), (Value.str (S "made") 1652), (Value.str (S "seed") 1653), (Value.str (S "standing") 1654)]) 0) (List.toArray [])
abbrev o1118 (P : Params) : Obj := Obj.mk (Value.type "dict") none (Data.dict (List.toArray [E P "__module__" 1476 (Value.str (S "budwright.webs") 1430), E P "__firstlineno__" 1480 (Value.int (Int.ofNat 656) 1479), E P "__init__" 1488 (R 969), E P "exchange" 1496 (R 976), E P "walk" 1509 (R 983), E P "check_exchange" 1518 (R 990), E P "table" 1525 (R 997), E P "weights" 1532 (R 1004), E P "places" 1539 (R 1011), E P "bud" 1547 (R 1018), E P "buds" 1554 (R 1025), E P "hues" 1561 (R 1032), E P "leans" 1568 (R 1039), E P "done" 1575 (R 1046), E P "hold" 1583 (R 1053), E P "release" 1591 (R 1060), E P "held" 1598 (R 1067), E P "reorder" 1606 (R 1074), E P "alike" 1614 (R 1081), E P "twin" 1621 (R 1088), E P "__len__" 1628 (R 1095), E P "__eq__" 1636 (R 1102), E P "__str__" 1643 (R 1109), E P "__repr__" 1650 (R 1116), E P "__static_attributes__" 1655 (R 1117), E P "__dict__" 1657 (R 1120), E P "__weakref__" 1659 (R 1121), E P "__doc__" 1660 Value.none, E P "__hash__" 1661 Value.none]) 5) (List.toArray [])
abbrev o1119 (P : Params) : Obj := Obj.mk (Value.type "type") none (Data.cls (ClassData.mk (S "Web") [(Value.type "object")] [(R 1119), (Value.type "object")] 1118 (S "Web") true [] [] false none false)) (List.toArray [none, none, (some (Value.str (S "Web") 1469)), (some (Value.str (S "Web") 1477)), (some (Value.builtin "object.__new__")), (some (Value.bool true))])
abbrev o1120 (P : Params) : Obj := Obj.mk (Value.type "getset_descriptor") none (Data.fields (List.toArray [(Value.str (S "__dict__") 1656), (R 1119), (Value.builtin "function.__dict__"), (Value.builtin "function.__dict__#set")])) (List.toArray [])
abbrev o1121 (P : Params) : Obj := Obj.mk (Value.type "getset_descriptor") none (Data.fields (List.toArray [(Value.str (S "__weakref__") 1658), (R 1119), (Value.builtin "ExceptionGroup.__weakref__"), Value.none])) (List.toArray [])
abbrev o1124 (P : Params) : Obj := Obj.mk (Value.type "dict") none (Data.dict (List.toArray [DictEntry.mk (Int.ofNat 0) (Value.int (Int.ofNat 0) 1670) (Value.int (Int.ofNat 4) 1671), DictEntry.mk (Int.negSucc 1) (Value.int (Int.negSucc 0) 1673) (Value.int (Int.ofNat 5) 1674), DictEntry.mk (Int.negSucc 1) (Value.int (Int.negSucc 1) 1676) (Value.int (Int.ofNat 6) 1677), DictEntry.mk (Int.negSucc 2) (Value.int (Int.negSucc 2) 1679) (Value.int (Int.ofNat 8) 1680)]) 4) (List.toArray [])
abbrev o1125 (P : Params) : Obj := Obj.mk (Value.type "tuple") none (Data.seq (List.toArray []) 0) (List.toArray [])
abbrev o1128 (P : Params) : Obj := Obj.mk (Value.type "code") none (Data.fields (List.toArray [(Value.str (S "inner_sum") 1686), (Value.str (S "inner_sum") 1687), (Value.str (S "/claim/cut.py") 1688), (Value.int (Int.ofNat 747) 0), (Value.int (Int.ofNat 2) 0), (Value.int (Int.ofNat 0) 0), (Value.int (Int.ofNat 0) 0), (Value.int (Int.ofNat 3) 0), (R 1125), (Value.bool true), (Value.int (Int.ofNat 181) 0), (R 1126), Value.none, Value.none, Value.none, (R 1127), (Value.int (Int.ofNat 1689) 0), (Value.int (Int.ofNat 747) 0), (Value.str (S "/claim/cut.py") 1690)])) (List.toArray [])
abbrev o1129 (P : Params) : Obj := Obj.mk (Value.type "function") none (Data.func (FuncData.mk (S "inner_sum") (S "inner_sum") (defArgs (T 119)) (FuncBody.stmts (defBody (T 119))) (defScope (T 119)) 3 [] Value.none Value.none Value.none (Value.str (S "budwright.walks") 1664) none (R 1128) Value.none 0)) (List.toArray [])
abbrev o1130 (P : Params) : Obj := Obj.mk (Value.type "tuple") none (Data.seq (List.toArray []) 0) (List.toArray [])
abbrev o1133 (P : Params) : Obj := Obj.mk (Value.type "code") none (Data.fields (List.toArray [(Value.str (S "inner") 1692), (Value.str (S "inner") 1693), (Value.str (S "/claim/cut.py") 1694), (Value.int (Int.ofNat 749) 0), (Value.int (Int.ofNat 2) 0), (Value.int (Int.ofNat 0) 0), (Value.int (Int.ofNat 0) 0), (Value.int (Int.ofNat 3) 0), (R 1130), (Value.bool true), (Value.int (Int.ofNat 181) 0), (R 1131), Value.none, Value.none, Value.none, (R 1132), (Value.int (Int.ofNat 1695) 0), (Value.int (Int.ofNat 749) 0), (Value.str (S "/claim/cut.py") 1696)])) (List.toArray [])
abbrev o1134 (P : Params) : Obj := Obj.mk (Value.type "function") none (Data.func (FuncData.mk (S "inner") (S "inner") (defArgs (T 120)) (FuncBody.stmts (defBody (T 120))) (defScope (T 120)) 3 [] Value.none Value.none Value.none (Value.str (S "budwright.walks") 1664) none (R 1133) Value.none 0)) (List.toArray [])
abbrev o1135 (P : Params) : Obj := Obj.mk (Value.type "tuple") none (Data.seq (List.toArray []) 0) (List.toArray [])
abbrev o1138 (P : Params) : Obj := Obj.mk (Value.type "code") none (Data.fields (List.toArray [(Value.str (S "replaced_powers") 1698), (Value.str (S "replaced_powers") 1699), (Value.str (S "/claim/cut.py") 1700), (Value.int (Int.ofNat 759) 0), (Value.int (Int.ofNat 2) 0), (Value.int (Int.ofNat 0) 0), (Value.int (Int.ofNat 0) 0), (Value.int (Int.ofNat 3) 0), (R 1135), (Value.bool true), (Value.int (Int.ofNat 181) 0), (R 1136), Value.none, Value.none, Value.none, (R 1137), (Value.int (Int.ofNat 1701) 0), (Value.int (Int.ofNat 759) 0), (Value.str (S "/claim/cut.py") 1702)])) (List.toArray [])
abbrev o1139 (P : Params) : Obj := Obj.mk (Value.type "function") none (Data.func (FuncData.mk (S "replaced_powers") (S "replaced_powers") (defArgs (T 121)) (FuncBody.stmts (defBody (T 121))) (defScope (T 121)) 3 [] Value.none Value.none Value.none (Value.str (S "budwright.walks") 1664) none (R 1138) Value.none 0)) (List.toArray [])
abbrev o1140 (P : Params) : Obj := Obj.mk (Value.type "tuple") none (Data.seq (List.toArray []) 0) (List.toArray [])
abbrev o1143 (P : Params) : Obj := Obj.mk (Value.type "code") none (Data.fields (List.toArray [(Value.str (S "parted") 1704), (Value.str (S "parted") 1705), (Value.str (S "/claim/cut.py") 1706), (Value.int (Int.ofNat 761) 0), (Value.int (Int.ofNat 3) 0), (Value.int (Int.ofNat 0) 0), (Value.int (Int.ofNat 0) 0), (Value.int (Int.ofNat 3) 0), (R 1140), (Value.bool true), (Value.int (Int.ofNat 181) 0), (R 1141), Value.none, Value.none, Value.none, (R 1142), (Value.int (Int.ofNat 1707) 0), (Value.int (Int.ofNat 761) 0), (Value.str (S "/claim/cut.py") 1708)])) (List.toArray [])
abbrev o1144 (P : Params) : Obj := Obj.mk (Value.type "function") none (Data.func (FuncData.mk (S "parted") (S "parted") (defArgs (T 122)) (FuncBody.stmts (defBody (T 122))) (defScope (T 122)) 3 [] Value.none Value.none Value.none (Value.str (S "budwright.walks") 1664) none (R 1143) Value.none 0)) (List.toArray [])
abbrev o1145 (P : Params) : Obj := Obj.mk (Value.type "tuple") none (Data.seq (List.toArray []) 0) (List.toArray [])
abbrev o1147 (P : Params) : Obj := Obj.mk (Value.type "tuple") none (Data.seq (List.toArray [(Value.str (S "worths") 1713), (Value.str (S "column") 1714), (Value.str (S "top") 1715), (Value.str (S "under") 1716), (Value.str (S "worth") 1717), (Value.str (S "tie") 1718)]) 0) (List.toArray [])
abbrev o1148 (P : Params) : Obj := Obj.mk (Value.type "tuple") none (Data.seq (List.toArray []) 0) (List.toArray [])
abbrev o1150 (P : Params) : Obj := Obj.mk (Value.type "code") none (Data.fields (List.toArray [(Value.str (S "side_worth") 1710), (Value.str (S "side_worth") 1711), (Value.str (S "/claim/cut.py") 1712), (Value.int (Int.ofNat 770) 0), (Value.int (Int.ofNat 2) 0), (Value.int (Int.ofNat 0) 0), (Value.int (Int.ofNat 0) 0), (Value.int (Int.ofNat 3) 0), (R 1145), (Value.bool true), (Value.int (Int.ofNat 181) 0), (R 1146), Value.none, (R 1147), (R 1148), (R 1149), (Value.int (Int.ofNat 1719) 0), (Value.int (Int.ofNat 770) 0), (Value.str (S "/claim/cut.py") 1720)])) (List.toArray [])
abbrev o1151 (P : Params) : Obj := Obj.mk (Value.type "function") none (Data.func (FuncData.mk (S "side_worth") (S "side_worth") (defArgs (T 123)) (FuncBody.stmts (defBody (T 123))) (defScope (T 123)) 3 [] Value.none Value.none Value.none (Value.str (S "budwright.walks") 1664) none (R 1150) Value.none 0)) (List.toArray [])
abbrev o1152 (P : Params) : Obj := Obj.mk (Value.type "tuple") none (Data.seq (List.toArray []) 0) (List.toArray [])
abbrev o1155 (P : Params) : Obj := Obj.mk (Value.type "code") none (Data.fields (List.toArray [(Value.str (S "new_worth") 1722), (Value.str (S "new_worth") 1723), (Value.str (S "/claim/cut.py") 1724), (Value.int (Int.ofNat 778) 0), (Value.int (Int.ofNat 3) 0), (Value.int (Int.ofNat 0) 0), (Value.int (Int.ofNat 0) 0), (Value.int (Int.ofNat 3) 0), (R 1152), (Value.bool true), (Value.int (Int.ofNat 181) 0), (R 1153), Value.none, Value.none, Value.none, (R 1154), (Value.int (Int.ofNat 1725) 0), (Value.int (Int.ofNat 778) 0), (Value.str (S "/claim/cut.py") 1726)])) (List.toArray [])
abbrev o1156 (P : Params) : Obj := Obj.mk (Value.type "function") none (Data.func (FuncData.mk (S "new_worth") (S "new_worth") (defArgs (T 124)) (FuncBody.stmts (defBody (T 124))) (defScope (T 124)) 3 [] Value.none Value.none Value.none (Value.str (S "budwright.walks") 1664) none (R 1155) Value.none 0)) (List.toArray [])
abbrev o1157 (P : Params) : Obj := Obj.mk (Value.type "tuple") none (Data.seq (List.toArray []) 0) (List.toArray [])
abbrev o1159 (P : Params) : Obj := Obj.mk (Value.type "tuple") none (Data.seq (List.toArray [(Value.str (S "ties") 1731), (Value.str (S "worths") 1732), (Value.str (S "place") 1733), (Value.str (S "after") 1734), (Value.str (S "fresh") 1735)]) 0) (List.toArray [])
abbrev o1160 (P : Params) : Obj := Obj.mk (Value.type "tuple") none (Data.seq (List.toArray []) 0) (List.toArray [])
abbrev o1162 (P : Params) : Obj := Obj.mk (Value.type "code") none (Data.fields (List.toArray [(Value.str (S "worth_step") 1728), (Value.str (S "worth_step") 1729), (Value.str (S "/claim/cut.py") 1730), (Value.int (Int.ofNat 790) 0), (Value.int (Int.ofNat 3) 0), (Value.int (Int.ofNat 0) 0), (Value.int (Int.ofNat 0) 0), (Value.int (Int.ofNat 3) 0), (R 1157), (Value.bool true), (Value.int (Int.ofNat 181) 0), (R 1158), Value.none, (R 1159), (R 1160), (R 1161), (Value.int (Int.ofNat 1736) 0), (Value.int (Int.ofNat 790) 0), (Value.str (S "/claim/cut.py") 1737)])) (List.toArray [])
abbrev o1163 (P : Params) : Obj := Obj.mk (Value.type "function") none (Data.func (FuncData.mk (S "worth_step") (S "worth_step") (defArgs (T 125)) (FuncBody.stmts (defBody (T 125))) (defScope (T 125)) 3 [] Value.none Value.none Value.none (Value.str (S "budwright.walks") 1664) none (R 1162) Value.none 0)) (List.toArray [])
abbrev o1164 (P : Params) : Obj := Obj.mk (Value.type "tuple") none (Data.seq (List.toArray []) 0) (List.toArray [])
abbrev o1166 (P : Params) : Obj := Obj.mk (Value.type "tuple") none (Data.seq (List.toArray [(Value.str (S "table") 1742), (Value.str (S "walk") 1743), (Value.str (S "parts") 1744), (Value.str (S "ties") 1745), (Value.str (S "worths") 1746), (Value.str (S "place") 1747)]) 0) (List.toArray [])
abbrev o1167 (P : Params) : Obj := Obj.mk (Value.type "tuple") none (Data.seq (List.toArray []) 0) (List.toArray [])
abbrev o1169 (P : Params) : Obj := Obj.mk (Value.type "code") none (Data.fields (List.toArray [(Value.str (S "walked") 1739), (Value.str (S "walked") 1740), (Value.str (S "/claim/cut.py") 1741), (Value.int (Int.ofNat 797) 0), (Value.int (Int.ofNat 3) 0), (Value.int (Int.ofNat 0) 0), (Value.int (Int.ofNat 0) 0), (Value.int (Int.ofNat 3) 0), (R 1164), (Value.bool true), (Value.int (Int.ofNat 181) 0), (R 1165), Value.none, (R 1166), (R 1167), (R 1168), (Value.int (Int.ofNat 1748) 0), (Value.int (Int.ofNat 797) 0), (Value.str (S "/claim/cut.py") 1749)])) (List.toArray [])
abbrev o1170 (P : Params) : Obj := Obj.mk (Value.type "function") none (Data.func (FuncData.mk (S "walked") (S "walked") (defArgs (T 126)) (FuncBody.stmts (defBody (T 126))) (defScope (T 126)) 3 [] Value.none Value.none Value.none (Value.str (S "budwright.walks") 1664) none (R 1169) Value.none 0)) (List.toArray [])
abbrev o1171 (P : Params) : Obj := Obj.mk (Value.type "tuple") none (Data.seq (List.toArray []) 0) (List.toArray [])
abbrev o1174 (P : Params) : Obj := Obj.mk (Value.type "code") none (Data.fields (List.toArray [(Value.str (S "side_total") 1751), (Value.str (S "side_total") 1752), (Value.str (S "/claim/cut.py") 1753), (Value.int (Int.ofNat 804) 0), (Value.int (Int.ofNat 2) 0), (Value.int (Int.ofNat 0) 0), (Value.int (Int.ofNat 0) 0), (Value.int (Int.ofNat 3) 0), (R 1171), (Value.bool true), (Value.int (Int.ofNat 181) 0), (R 1172), Value.none, Value.none, Value.none, (R 1173), (Value.int (Int.ofNat 1754) 0), (Value.int (Int.ofNat 804) 0), (Value.str (S "/claim/cut.py") 1755)])) (List.toArray [])
abbrev o1175 (P : Params) : Obj := Obj.mk (Value.type "function") none (Data.func (FuncData.mk (S "side_total") (S "side_total") (defArgs (T 127)) (FuncBody.stmts (defBody (T 127))) (defScope (T 127)) 3 [] Value.none Value.none Value.none (Value.str (S "budwright.walks") 1664) none (R 1174) Value.none 0)) (List.toArray [])
abbrev o1176 (P : Params) : Obj := Obj.mk (Value.type "dict") none (Data.dict (List.toArray [E P "greatest" 1757 (Value.bool false)]) 1) (List.toArray [])
abbrev o1177 (P : Params) : Obj := Obj.mk (Value.type "tuple") none (Data.seq (List.toArray []) 0) (List.toArray [])
abbrev o1180 (P : Params) : Obj := Obj.mk (Value.type "code") none (Data.fields (List.toArray [(Value.str (S "leaned") 1758), (Value.str (S "leaned") 1759), (Value.str (S "/claim/cut.py") 1760), (Value.int (Int.ofNat 806) 0), (Value.int (Int.ofNat 3) 0), (Value.int (Int.ofNat 0) 0), (Value.int (Int.ofNat 1) 0), (Value.int (Int.ofNat 3) 0), (R 1177), (Value.bool true), (Value.int (Int.ofNat 181) 0), (R 1178), Value.none, Value.none, Value.none, (R 1179), (Value.int (Int.ofNat 1761) 0), (Value.int (Int.ofNat 806) 0), (Value.str (S "/claim/cut.py") 1762)])) (List.toArray [])
abbrev o1181 (P : Params) : Obj := Obj.mk (Value.type "function") none (Data.func (FuncData.mk (S "leaned") (S "leaned") (defArgs (T 128)) (FuncBody.stmts (defBody (T 128))) (defScope (T 128)) 3 [] Value.none (R 1176) Value.none (Value.str (S "budwright.walks") 1664) none (R 1180) Value.none 0)) (List.toArray [])
abbrev o1182 (P : Params) : Obj := Obj.mk (Value.type "tuple") none (Data.seq (List.toArray []) 0) (List.toArray [])
abbrev o1185 (P : Params) : Obj := Obj.mk (Value.type "code") none (Data.fields (List.toArray [(Value.str (S "frieze") 1764), (Value.str (S "frieze") 1765), (Value.str (S "/claim/cut.py") 1766), (Value.int (Int.ofNat 818) 0), (Value.int (Int.ofNat 2) 0), (Value.int (Int.ofNat 0) 0), (Value.int (Int.ofNat 0) 0), (Value.int (Int.ofNat 3) 0), (R 1182), (Value.bool true), (Value.int (Int.ofNat 181) 0), (R 1183), Value.none, Value.none, Value.none, (R 1184), (Value.int (Int.ofNat 1767) 0), (Value.int (Int.ofNat 818) 0), (Value.str (S "/claim/cut.py") 1768)])) (List.toArray [])
abbrev o1186 (P : Params) : Obj := Obj.mk (Value.type "function") none (Data.func (FuncData.mk (S "frieze") (S "frieze") (defArgs (T 129)) (FuncBody.stmts (defBody (T 129))) (defScope (T 129)) 3 [] Value.none Value.none Value.none (Value.str (S "budwright.walks") 1664) none (R 1185) Value.none 0)) (List.toArray [])
abbrev o1187 (P : Params) : Obj := Obj.mk (Value.type "tuple") none (Data.seq (List.toArray []) 0) (List.toArray [])
abbrev o1190 (P : Params) : Obj := Obj.mk (Value.type "code") none (Data.fields (List.toArray [(Value.str (S "belt_round") 1770), (Value.str (S "belt_round") 1771), (Value.str (S "/claim/cut.py") 1772), (Value.int (Int.ofNat 829) 0), (Value.int (Int.ofNat 1) 0), (Value.int (Int.ofNat 0) 0), (Value.int (Int.ofNat 0) 0), (Value.int (Int.ofNat 3) 0), (R 1187), (Value.bool true), (Value.int (Int.ofNat 181) 0), (R 1188), Value.none, Value.none, Value.none, (R 1189), (Value.int (Int.ofNat 1773) 0), (Value.int (Int.ofNat 829) 0), (Value.str (S "/claim/cut.py") 1774)])) (List.toArray [])
abbrev o1191 (P : Params) : Obj := Obj.mk (Value.type "function") none (Data.func (FuncData.mk (S "belt_round") (S "belt_round") (defArgs (T 130)) (FuncBody.stmts (defBody (T 130))) (defScope (T 130)) 3 [] Value.none Value.none Value.none (Value.str (S "budwright.walks") 1664) none (R 1190) Value.none 0)) (List.toArray [])
abbrev o1192 (P : Params) : Obj := Obj.mk (Value.type "dict") none (Data.dict (List.toArray [E P "most" 1777 (Value.int (Int.ofNat 20) 1776)]) 1) (List.toArray [])
abbrev o1193 (P : Params) : Obj := Obj.mk (Value.type "tuple") none (Data.seq (List.toArray []) 0) (List.toArray [])
abbrev o1195 (P : Params) : Obj := Obj.mk (Value.type "tuple") none (Data.seq (List.toArray [(Value.str (S "table") 1781), (Value.str (S "most") 1782), (Value.str (S "rows") 1783), (Value.str (S "places") 1784), (Value.str (S "begun") 1785), (Value.str (S "seed") 1786), (Value.str (S "number") 1787), (Value.str (S "place") 1788)]) 0) (List.toArray [])
abbrev o1196 (P : Params) : Obj := Obj.mk (Value.type "tuple") none (Data.seq (List.toArray []) 0) (List.toArray [])
abbrev o1198 (P : Params) : Obj := Obj.mk (Value.type "code") none (Data.fields (List.toArray [(Value.str (S "belt") 1778), (Value.str (S "belt") 1779), (Value.str (S "/claim/cut.py") 1780), (Value.int (Int.ofNat 835) 0), (Value.int (Int.ofNat 1) 0), (Value.int (Int.ofNat 0) 0), (Value.int (Int.ofNat 1) 0), (Value.int (Int.ofNat 3) 0), (R 1193), (Value.bool true), (Value.int (Int.ofNat 181) 0), (R 1194), Value.none, (R 1195), (R 1196), (R 1197), (Value.int (Int.ofNat 1789) 0), (Value.int (Int.ofNat 835) 0), (Value.str (S "/claim/cut.py") 1790)])) (List.toArray [])
abbrev o1199 (P : Params) : Obj := Obj.mk (Value.type "function") none (Data.func (FuncData.mk (S "belt") (S "belt") (defArgs (T 131)) (FuncBody.stmts (defBody (T 131))) (defScope (T 131)) 3 [] Value.none (R 1192) Value.none (Value.str (S "budwright.walks") 1664) none (R 1198) Value.none 0)) (List.toArray [])
abbrev o1200 (P : Params) : Obj := Obj.mk (Value.type "tuple") none (Data.seq (List.toArray []) 0) (List.toArray [])
abbrev o1202 (P : Params) : Obj := Obj.mk (Value.type "tuple") none (Data.seq (List.toArray [(Value.str (S "table") 1795), (Value.str (S "one") 1796), (Value.str (S "other") 1797)]) 0) (List.toArray [])
abbrev o1203 (P : Params) : Obj := Obj.mk (Value.type "tuple") none (Data.seq (List.toArray []) 0) (List.toArray [])
abbrev o1205 (P : Params) : Obj := Obj.mk (Value.type "code") none (Data.fields (List.toArray [(Value.str (S "ring_length") 1792), (Value.str (S "ring_length") 1793), (Value.str (S "/claim/cut.py") 1794), (Value.int (Int.ofNat 847) 0), (Value.int (Int.ofNat 3) 0), (Value.int (Int.ofNat 0) 0), (Value.int (Int.ofNat 0) 0), (Value.int (Int.ofNat 3) 0), (R 1200), (Value.bool true), (Value.int (Int.ofNat 181) 0), (R 1201), Value.none, (R 1202), (R 1203), (R 1204), (Value.int (Int.ofNat 1798) 0), (Value.int (Int.ofNat 847) 0), (Value.str (S "/claim/cut.py") 1799)])) (List.toArray [])
abbrev o1206 (P : Params) : Obj := Obj.mk (Value.type "function") none (Data.func (FuncData.mk (S "ring_length") (S "ring_length") (defArgs (T 132)) (FuncBody.stmts (defBody (T 132))) (defScope (T 132)) 3 [] Value.none Value.none Value.none (Value.str (S "budwright.walks") 1664) none (R 1205) Value.none 0)) (List.toArray [])
abbrev o1207 (P : Params) : Obj := Obj.mk (Value.type "tuple") none (Data.seq (List.toArray []) 0) (List.toArray [])
abbrev o1209 (P : Params) : Obj := Obj.mk (Value.type "tuple") none (Data.seq (List.toArray [(Value.str (S "_law_script") 1806)]) 0) (List.toArray [])
abbrev o1210 (P : Params) : Obj := Obj.mk (Value.type "tuple") none (Data.seq (List.toArray []) 0) (List.toArray [])
abbrev o1212 (P : Params) : Obj := Obj.mk (Value.type "code") none (Data.fields (List.toArray [(Value.str (S "_law_feed") 1803), (Value.str (S "_law_feed") 1804), (Value.str (S "/claim/cut.py") 1805), (Value.int (Int.ofNat 855) 0), (Value.int (Int.ofNat 1) 0), (Value.int (Int.ofNat 0) 0), (Value.int (Int.ofNat 0) 0), (Value.int (Int.ofNat 3) 0), (R 1207), (Value.bool true), (Value.int (Int.ofNat 181) 0), (R 1208), Value.none, (R 1209), (R 1210), (R 1211), (Value.int (Int.ofNat 1807) 0), (Value.int (Int.ofNat 855) 0), (Value.str (S "/claim/cut.py") 1808)])) (List.toArray [])
abbrev o1213 (P : Params) : Obj := Obj.mk (Value.type "function") none (Data.func (FuncData.mk (S "_law_feed") (S "_law_feed") (defArgs (T 134)) (FuncBody.stmts (defBody (T 134))) (defScope (T 134)) 3 [] Value.none Value.none Value.none (Value.str (S "law_budwright_k11_whole_barred_or_weighed") 1801) none (R 1212) Value.none 0)) (List.toArray [])
abbrev o1214 (P : Params) : Obj := Obj.mk (Value.type "tuple") none (Data.seq (List.toArray []) 0) (List.toArray [])
abbrev o1216 (P : Params) : Obj := Obj.mk (Value.type "tuple") none (Data.seq (List.toArray [(Value.str (S "_law_feed_here") 1813), (Value.str (S "_law_many") 1814), (Value.str (S "_law_cell") 1815), (Value.str (S "_law_digit") 1816), (Value.str (S "_law_mix") 1817)]) 0) (List.toArray [])
abbrev o1217 (P : Params) : Obj := Obj.mk (Value.type "tuple") none (Data.seq (List.toArray []) 0) (List.toArray [])
abbrev o1219 (P : Params) : Obj := Obj.mk (Value.type "code") none (Data.fields (List.toArray [(Value.str (S "_law_draw") 1810), (Value.str (S "_law_draw") 1811), (Value.str (S "/claim/cut.py") 1812), (Value.int (Int.ofNat 857) 0), (Value.int (Int.ofNat 2) 0), (Value.int (Int.ofNat 0) 0), (Value.int (Int.ofNat 0) 0), (Value.int (Int.ofNat 3) 0), (R 1214), (Value.bool true), (Value.int (Int.ofNat 181) 0), (R 1215), Value.none, (R 1216), (R 1217), (R 1218), (Value.int (Int.ofNat 1818) 0), (Value.int (Int.ofNat 857) 0), (Value.str (S "/claim/cut.py") 1819)])) (List.toArray [])
abbrev o1220 (P : Params) : Obj := Obj.mk (Value.type "function") none (Data.func (FuncData.mk (S "_law_draw") (S "_law_draw") (defArgs (T 135)) (FuncBody.stmts (defBody (T 135))) (defScope (T 135)) 3 [] Value.none Value.none Value.none (Value.str (S "law_budwright_k11_whole_barred_or_weighed") 1801) none (R 1219) Value.none 0)) (List.toArray [])
abbrev o1221 (P : Params) : Obj := Obj.mk (Value.type "tuple") none (Data.seq (List.toArray []) 0) (List.toArray [])
abbrev o1223 (P : Params) : Obj := Obj.mk (Value.type "tuple") none (Data.seq (List.toArray [(Value.str (S "_law_feed_here") 1824), (Value.str (S "_law_row") 1825)]) 0) (List.toArray [])
abbrev o1224 (P : Params) : Obj := Obj.mk (Value.type "tuple") none (Data.seq (List.toArray []) 0) (List.toArray [])
abbrev o1226 (P : Params) : Obj := Obj.mk (Value.type "code") none (Data.fields (List.toArray [(Value.str (S "_law_pick") 1821), (Value.str (S "_law_pick") 1822), (Value.str (S "/claim/cut.py") 1823), (Value.int (Int.ofNat 874) 0), (Value.int (Int.ofNat 2) 0), (Value.int (Int.ofNat 0) 0), (Value.int (Int.ofNat 0) 0), (Value.int (Int.ofNat 3) 0), (R 1221), (Value.bool true), (Value.int (Int.ofNat 181) 0), (R 1222), Value.none, (R 1223), (R 1224), (R 1225), (Value.int (Int.ofNat 1826) 0), (Value.int (Int.ofNat 874) 0), (Value.str (S "/claim/cut.py") 1827)])) (List.toArray [])
abbrev o1227 (P : Params) : Obj := Obj.mk (Value.type "function") none (Data.func (FuncData.mk (S "_law_pick") (S "_law_pick") (defArgs (T 136)) (FuncBody.stmts (defBody (T 136))) (defScope (T 136)) 3 [] Value.none Value.none Value.none (Value.str (S "law_budwright_k11_whole_barred_or_weighed") 1801) none (R 1226) Value.none 0)) (List.toArray [])
abbrev o1228 (P : Params) : Obj := Obj.mk (Value.type "tuple") none (Data.seq (List.toArray []) 0) (List.toArray [])
abbrev o1230 (P : Params) : Obj := Obj.mk (Value.type "tuple") none (Data.seq (List.toArray [(Value.str (S "_law_asked") 1832), (Value.str (S "e") 1833)]) 0) (List.toArray [])
abbrev o1231 (P : Params) : Obj := Obj.mk (Value.type "tuple") none (Data.seq (List.toArray []) 0) (List.toArray [])
abbrev o1233 (P : Params) : Obj := Obj.mk (Value.type "code") none (Data.fields (List.toArray [(Value.str (S "_law_word") 1829), (Value.str (S "_law_word") 1830), (Value.str (S "/claim/cut.py") 1831), (Value.int (Int.ofNat 876) 0), (Value.int (Int.ofNat 1) 0), (Value.int (Int.ofNat 0) 0), (Value.int (Int.ofNat 0) 0), (Value.int (Int.ofNat 3) 0), (R 1228), (Value.bool true), (Value.int (Int.ofNat 181) 0), (R 1229), Value.none, (R 1230), (R 1231), (R 1232), (Value.int (Int.ofNat 1834) 0), (Value.int (Int.ofNat 876) 0), (Value.str (S "/claim/cut.py") 1835)])) (List.toArray [])
abbrev o1234 (P : Params) : Obj := Obj.mk (Value.type "function") none (Data.func (FuncData.mk (S "_law_word") (S "_law_word") (defArgs (T 137)) (FuncBody.stmts (defBody (T 137))) (defScope (T 137)) 3 [] Value.none Value.none Value.none (Value.str (S "law_budwright_k11_whole_barred_or_weighed") 1801) none (R 1233) Value.none 0)) (List.toArray [])
abbrev o1235 (P : Params) : Obj := Obj.mk (Value.type "tuple") none (Data.seq (List.toArray []) 0) (List.toArray [])
abbrev o1237 (P : Params) : Obj := Obj.mk (Value.type "tuple") none (Data.seq (List.toArray [(Value.str (S "_law_one") 1840), (Value.str (S "_law_other") 1841)]) 0) (List.toArray [])
abbrev o1238 (P : Params) : Obj := Obj.mk (Value.type "tuple") none (Data.seq (List.toArray []) 0) (List.toArray [])
abbrev o1240 (P : Params) : Obj := Obj.mk (Value.type "code") none (Data.fields (List.toArray [(Value.str (S "_law_gcd") 1837), (Value.str (S "_law_gcd") 1838), (Value.str (S "/claim/cut.py") 1839), (Value.int (Int.ofNat 884) 0), (Value.int (Int.ofNat 2) 0), (Value.int (Int.ofNat 0) 0), (Value.int (Int.ofNat 0) 0), (Value.int (Int.ofNat 3) 0), (R 1235), (Value.bool true), (Value.int (Int.ofNat 181) 0), (R 1236), Value.none, (R 1237), (R 1238), (R 1239), (Value.int (Int.ofNat 1842) 0), (Value.int (Int.ofNat 884) 0), (Value.str (S "/claim/cut.py") 1843)])) (List.toArray [])
abbrev o1241 (P : Params) : Obj := Obj.mk (Value.type "function") none (Data.func (FuncData.mk (S "_law_gcd") (S "_law_gcd") (defArgs (T 138)) (FuncBody.stmts (defBody (T 138))) (defScope (T 138)) 3 [] Value.none Value.none Value.none (Value.str (S "law_budwright_k11_whole_barred_or_weighed") 1801) none (R 1240) Value.none 0)) (List.toArray [])
abbrev o1242 (P : Params) : Obj := Obj.mk (Value.type "tuple") none (Data.seq (List.toArray []) 0) (List.toArray [])
abbrev o1245 (P : Params) : Obj := Obj.mk (Value.type "code") none (Data.fields (List.toArray [(Value.str (S "_law_even") 1845), (Value.str (S "_law_even") 1846), (Value.str (S "/claim/cut.py") 1847), (Value.int (Int.ofNat 888) 0), (Value.int (Int.ofNat 3) 0), (Value.int (Int.ofNat 0) 0), (Value.int (Int.ofNat 0) 0), (Value.int (Int.ofNat 3) 0), (R 1242), (Value.bool true), (Value.int (Int.ofNat 181) 0), (R 1243), Value.none, Value.none, Value.none, (R 1244), (Value.int (Int.ofNat 1848) 0), (Value.int (Int.ofNat 888) 0), (Value.str (S "/claim/cut.py") 1849)])) (List.toArray [])
abbrev o1246 (P : Params) : Obj := Obj.mk (Value.type "function") none (Data.func (FuncData.mk (S "_law_even") (S "_law_even") (defArgs (T 139)) (FuncBody.stmts (defBody (T 139))) (defScope (T 139)) 3 [] Value.none Value.none Value.none (Value.str (S "law_budwright_k11_whole_barred_or_weighed") 1801) none (R 1245) Value.none 0)) (List.toArray [])
abbrev o1247 (P : Params) : Obj := Obj.mk (Value.type "tuple") none (Data.seq (List.toArray []) 0) (List.toArray [])
abbrev o1250 (P : Params) : Obj := Obj.mk (Value.type "code") none (Data.fields (List.toArray [(Value.str (S "_law_roots") 1851), (Value.str (S "_law_roots") 1852), (Value.str (S "/claim/cut.py") 1853), (Value.int (Int.ofNat 899) 0), (Value.int (Int.ofNat 4) 0), (Value.int (Int.ofNat 0) 0), (Value.int (Int.ofNat 0) 0), (Value.int (Int.ofNat 3) 0), (R 1247), (Value.bool true), (Value.int (Int.ofNat 181) 0), (R 1248), Value.none, Value.none, Value.none, (R 1249), (Value.int (Int.ofNat 1854) 0), (Value.int (Int.ofNat 899) 0), (Value.str (S "/claim/cut.py") 1855)])) (List.toArray [])
abbrev o1251 (P : Params) : Obj := Obj.mk (Value.type "function") none (Data.func (FuncData.mk (S "_law_roots") (S "_law_roots") (defArgs (T 140)) (FuncBody.stmts (defBody (T 140))) (defScope (T 140)) 3 [] Value.none Value.none Value.none (Value.str (S "law_budwright_k11_whole_barred_or_weighed") 1801) none (R 1250) Value.none 0)) (List.toArray [])
abbrev o1252 (P : Params) : Obj := Obj.mk (Value.type "tuple") none (Data.seq (List.toArray []) 0) (List.toArray [])
abbrev o1255 (P : Params) : Obj := Obj.mk (Value.type "code") none (Data.fields (List.toArray [(Value.str (S "_law_is_bar") 1857), (Value.str (S "_law_is_bar") 1858), (Value.str (S "/claim/cut.py") 1859), (Value.int (Int.ofNat 904) 0), (Value.int (Int.ofNat 2) 0), (Value.int (Int.ofNat 0) 0), (Value.int (Int.ofNat 0) 0), (Value.int (Int.ofNat 3) 0), (R 1252), (Value.bool true), (Value.int (Int.ofNat 181) 0), (R 1253), Value.none, Value.none, Value.none, (R 1254), (Value.int (Int.ofNat 1860) 0), (Value.int (Int.ofNat 904) 0), (Value.str (S "/claim/cut.py") 1861)])) (List.toArray [])
abbrev o1256 (P : Params) : Obj := Obj.mk (Value.type "function") none (Data.func (FuncData.mk (S "_law_is_bar") (S "_law_is_bar") (defArgs (T 141)) (FuncBody.stmts (defBody (T 141))) (defScope (T 141)) 3 [] Value.none Value.none Value.none (Value.str (S "law_budwright_k11_whole_barred_or_weighed") 1801) none (R 1255) Value.none 0)) (List.toArray [])
abbrev o1257 (P : Params) : Obj := Obj.mk (Value.type "tuple") none (Data.seq (List.toArray []) 0) (List.toArray [])
abbrev o1259 (P : Params) : Obj := Obj.mk (Value.type "tuple") none (Data.seq (List.toArray [(Value.str (S "_law_ties") 1866), (Value.str (S "_law_words") 1867)]) 0) (List.toArray [])
abbrev o1260 (P : Params) : Obj := Obj.mk (Value.type "tuple") none (Data.seq (List.toArray [(Value.str (S "_law_ties") 1868)]) 0) (List.toArray [])
abbrev o1262 (P : Params) : Obj := Obj.mk (Value.type "code") none (Data.fields (List.toArray [(Value.str (S "_law_other_doors") 1863), (Value.str (S "_law_other_doors") 1864), (Value.str (S "/claim/cut.py") 1865), (Value.int (Int.ofNat 917) 0), (Value.int (Int.ofNat 1) 0), (Value.int (Int.ofNat 0) 0), (Value.int (Int.ofNat 0) 0), (Value.int (Int.ofNat 3) 0), (R 1257), (Value.bool true), (Value.int (Int.ofNat 181) 0), (R 1258), Value.none, (R 1259), (R 1260), (R 1261), (Value.int (Int.ofNat 1869) 0), (Value.int (Int.ofNat 917) 0), (Value.str (S "/claim/cut.py") 1870)])) (List.toArray [])
abbrev o1263 (P : Params) : Obj := Obj.mk (Value.type "function") none (Data.func (FuncData.mk (S "_law_other_doors") (S "_law_other_doors") (defArgs (T 142)) (FuncBody.stmts (defBody (T 142))) (defScope (T 142)) 3 [] Value.none Value.none Value.none (Value.str (S "law_budwright_k11_whole_barred_or_weighed") 1801) none (R 1262) Value.none 0)) (List.toArray [])
abbrev o1264 (P : Params) : Obj := Obj.mk (Value.type "tuple") none (Data.seq (List.toArray []) 0) (List.toArray [])
abbrev o1266 (P : Params) : Obj := Obj.mk (Value.type "tuple") none (Data.seq (List.toArray [(Value.str (S "_law_ties") 1875), (Value.str (S "_law_told") 1876), (Value.str (S "e") 1877), (Value.str (S "_law_words") 1878)]) 0) (List.toArray [])
abbrev o1267 (P : Params) : Obj := Obj.mk (Value.type "tuple") none (Data.seq (List.toArray [(Value.str (S "_law_ties") 1879)]) 0) (List.toArray [])
abbrev o1269 (P : Params) : Obj := Obj.mk (Value.type "code") none (Data.fields (List.toArray [(Value.str (S "_law_all_refuse") 1872), (Value.str (S "_law_all_refuse") 1873), (Value.str (S "/claim/cut.py") 1874), (Value.int (Int.ofNat 925) 0), (Value.int (Int.ofNat 1) 0), (Value.int (Int.ofNat 0) 0), (Value.int (Int.ofNat 0) 0), (Value.int (Int.ofNat 3) 0), (R 1264), (Value.bool true), (Value.int (Int.ofNat 181) 0), (R 1265), Value.none, (R 1266), (R 1267), (R 1268), (Value.int (Int.ofNat 1880) 0), (Value.int (Int.ofNat 925) 0), (Value.str (S "/claim/cut.py") 1881)])) (List.toArray [])
abbrev o1270 (P : Params) : Obj := Obj.mk (Value.type "function") none (Data.func (FuncData.mk (S "_law_all_refuse") (S "_law_all_refuse") (defArgs (T 143)) (FuncBody.stmts (defBody (T 143))) (defScope (T 143)) 3 [] Value.none Value.none Value.none (Value.str (S "law_budwright_k11_whole_barred_or_weighed") 1801) none (R 1269) Value.none 0)) (List.toArray [])
abbrev o1271 (P : Params) : Obj := Obj.mk (Value.type "tuple") none (Data.seq (List.toArray []) 0) (List.toArray [])
abbrev o1274 (P : Params) : Obj := Obj.mk (Value.type "code") none (Data.fields (List.toArray [(Value.str (S "law") 1883), (Value.str (S "law") 1884), (Value.str (S "/claim/cut.py") 1885), (Value.int (Int.ofNat 947) 0), (Value.int (Int.ofNat 1) 0), (Value.int (Int.ofNat 0) 0), (Value.int (Int.ofNat 0) 0), (Value.int (Int.ofNat 3) 0), (R 1271), (Value.bool true), (Value.int (Int.ofNat 181) 0), (R 1272), Value.none, Value.none, Value.none, (R 1273), (Value.int (Int.ofNat 1886) 0), (Value.int (Int.ofNat 947) 0), (Value.str (S "/claim/cut.py") 1887)])) (List.toArray [])
abbrev o1275 (P : Params) : Obj := Obj.mk (Value.type "function") none (Data.func (FuncData.mk (S "law") (S "law") (defArgs (T 144)) (FuncBody.stmts (defBody (T 144))) (defScope (T 144)) 3 [] Value.none Value.none Value.none (Value.str (S "law_budwright_k11_whole_barred_or_weighed") 1801) none (R 1274) Value.none 0)) (List.toArray [])
def K (P : Params) : Frag := (nat_lit 2, o2 P) :: (nat_lit 3, o3 P) :: (nat_lit 15, o15 P) :: (nat_lit 17, o17 P) :: (nat_lit 18, o18 P) :: (nat_lit 20, o20 P) :: (nat_lit 21, o21 P) :: (nat_lit 22, o22 P) :: (nat_lit 29, o29 P) :: (nat_lit 31, o31 P) :: (nat_lit 32, o32 P) :: (nat_lit 34, o34 P) :: (nat_lit 35, o35 P) :: (nat_lit 36, o36 P) :: (nat_lit 37, o37 P) :: (nat_lit 38, o38 P) :: (nat_lit 39, o39 P) :: (nat_lit 42, o42 P) :: (nat_lit 49, o49 P) :: (nat_lit 51, o51 P) :: (nat_lit 52, o52 P) :: (nat_lit 54, o54 P) :: (nat_lit 55, o55 P) :: (nat_lit 56, o56 P) :: (nat_lit 57, o57 P) :: (nat_lit 58, o58 P) :: (nat_lit 61, o61 P) :: (nat_lit 68, o68 P) :: (nat_lit 70, o70 P) :: (nat_lit 71, o71 P) :: (nat_lit 73, o73 P) :: (nat_lit 74, o74 P) :: (nat_lit 75, o75 P) :: (nat_lit 76, o76 P) :: (nat_lit 77, o77 P) :: (nat_lit 80, o80 P) :: (nat_lit 87, o87 P) :: (nat_lit 89, o89 P) :: (nat_lit 90, o90 P) :: (nat_lit 92, o92 P) :: (nat_lit 93, o93 P) :: (nat_lit 94, o94 P) :: (nat_lit 95, o95 P) :: (nat_lit 96, o96 P) :: (nat_lit 99, o99 P) :: (nat_lit 106, o106 P) :: (nat_lit 108, o108 P) :: (nat_lit 109, o109 P) :: (nat_lit 111, o111 P) :: (nat_lit 112, o112 P) :: (nat_lit 113, o113 P) :: (nat_lit 114, o114 P) :: (nat_lit 115, o115 P) :: (nat_lit 118, o118 P) :: (nat_lit 125, o125 P) :: (nat_lit 127, o127 P) :: (nat_lit 128, o128 P) :: (nat_lit 130, o130 P) :: (nat_lit 131, o131 P) :: (nat_lit 132, o132 P) :: (nat_lit 133, o133 P) :: (nat_lit 134, o134 P) :: (nat_lit 137, o137 P) :: (nat_lit 144, o144 P) :: (nat_lit 146, o146 P) :: (nat_lit 147, o147 P) :: (nat_lit 149, o149 P) :: (nat_lit 150, o150 P) :: (nat_lit 151, o151 P) :: (nat_lit 152, o152 P) :: (nat_lit 153, o153 P) :: (nat_lit 156, o156 P) :: (nat_lit 163, o163 P) :: (nat_lit 165, o165 P) :: (nat_lit 166, o166 P) :: (nat_lit 168, o168 P) :: (nat_lit 169, o169 P) :: (nat_lit 170, o170 P) :: (nat_lit 171, o171 P) :: (nat_lit 172, o172 P) :: (nat_lit 175, o175 P) :: (nat_lit 182, o182 P) :: (nat_lit 184, o184 P) :: (nat_lit 185, o185 P) :: (nat_lit 187, o187 P) :: (nat_lit 188, o188 P) :: (nat_lit 189, o189 P) :: (nat_lit 190, o190 P) :: (nat_lit 191, o191 P) :: (nat_lit 194, o194 P) :: (nat_lit 201, o201 P) :: (nat_lit 203, o203 P) :: (nat_lit 204, o204 P) :: (nat_lit 206, o206 P) :: (nat_lit 207, o207 P) :: (nat_lit 208, o208 P) :: (nat_lit 209, o209 P) :: (nat_lit 210, o210 P) :: (nat_lit 213, o213 P) :: (nat_lit 220, o220 P) :: (nat_lit 222, o222 P) :: (nat_lit 223, o223 P) :: (nat_lit 225, o225 P) :: (nat_lit 226, o226 P) :: (nat_lit 227, o227 P) :: (nat_lit 228, o228 P) :: (nat_lit 229, o229 P) :: (nat_lit 230, o230 P) :: (nat_lit 233, o233 P) :: (nat_lit 240, o240 P) :: (nat_lit 242, o242 P) :: (nat_lit 243, o243 P) :: (nat_lit 245, o245 P) :: (nat_lit 246, o246 P) :: (nat_lit 247, o247 P) :: (nat_lit 248, o248 P) :: (nat_lit 249, o249 P) :: (nat_lit 250, o250 P) :: (nat_lit 253, o253 P) :: (nat_lit 260, o260 P) :: (nat_lit 262, o262 P) :: (nat_lit 263, o263 P) :: (nat_lit 265, o265 P) :: (nat_lit 266, o266 P) :: (nat_lit 267, o267 P) :: (nat_lit 268, o268 P) :: (nat_lit 269, o269 P) :: (nat_lit 270, o270 P) :: (nat_lit 273, o273 P) :: (nat_lit 280, o280 P) :: (nat_lit 282, o282 P) :: (nat_lit 283, o283 P) :: (nat_lit 285, o285 P) :: (nat_lit 286, o286 P) :: (nat_lit 287, o287 P) :: (nat_lit 288, o288 P) :: (nat_lit 289, o289 P) :: (nat_lit 290, o290 P) :: (nat_lit 293, o293 P) :: (nat_lit 295, o295 P) :: (nat_lit 296, o296 P) :: (nat_lit 298, o298 P) :: (nat_lit 299, o299 P) :: (nat_lit 300, o300 P) :: (nat_lit 302, o302 P) :: (nat_lit 303, o303 P) :: (nat_lit 305, o305 P) :: (nat_lit 306, o306 P) :: (nat_lit 307, o307 P) :: (nat_lit 310, o310 P) :: (nat_lit 311, o311 P) :: (nat_lit 312, o312 P) :: (nat_lit 315, o315 P) :: (nat_lit 316, o316 P) :: (nat_lit 317, o317 P) :: (nat_lit 319, o319 P) :: (nat_lit 320, o320 P) :: (nat_lit 322, o322 P) :: (nat_lit 323, o323 P) :: (nat_lit 324, o324 P) :: (nat_lit 326, o326 P) :: (nat_lit 327, o327 P) :: (nat_lit 329, o329 P) :: (nat_lit 330, o330 P) :: (nat_lit 331, o331 P) :: (nat_lit 333, o333 P) :: (nat_lit 334, o334 P) :: (nat_lit 336, o336 P) :: (nat_lit 337, o337 P) :: (nat_lit 338, o338 P) :: (nat_lit 341, o341 P) :: (nat_lit 342, o342 P) :: (nat_lit 343, o343 P) :: (nat_lit 346, o346 P) :: (nat_lit 347, o347 P) :: (nat_lit 348, o348 P) :: (nat_lit 350, o350 P) :: (nat_lit 351, o351 P) :: (nat_lit 353, o353 P) :: (nat_lit 354, o354 P) :: (nat_lit 355, o355 P) :: (nat_lit 357, o357 P) :: (nat_lit 358, o358 P) :: (nat_lit 360, o360 P) :: (nat_lit 361, o361 P) :: (nat_lit 362, o362 P) :: (nat_lit 365, o365 P) :: (nat_lit 366, o366 P) :: (nat_lit 367, o367 P) :: (nat_lit 369, o369 P) :: (nat_lit 370, o370 P) :: (nat_lit 372, o372 P) :: (nat_lit 373, o373 P) :: (nat_lit 374, o374 P) :: (nat_lit 377, o377 P) :: (nat_lit 378, o378 P) :: (nat_lit 379, o379 P) :: (nat_lit 381, o381 P) :: (nat_lit 382, o382 P) :: (nat_lit 384, o384 P) :: (nat_lit 385, o385 P) :: (nat_lit 386, o386 P) :: (nat_lit 388, o388 P) :: (nat_lit 389, o389 P) :: (nat_lit 391, o391 P) :: (nat_lit 392, o392 P) :: (nat_lit 393, o393 P) :: (nat_lit 395, o395 P) :: (nat_lit 396, o396 P) :: (nat_lit 398, o398 P) :: (nat_lit 399, o399 P) :: (nat_lit 400, o400 P) :: (nat_lit 403, o403 P) :: (nat_lit 404, o404 P) :: (nat_lit 405, o405 P) :: (nat_lit 408, o408 P) :: (nat_lit 409, o409 P) :: (nat_lit 410, o410 P) :: (nat_lit 413, o413 P) :: (nat_lit 414, o414 P) :: (nat_lit 415, o415 P) :: (nat_lit 418, o418 P) :: (nat_lit 419, o419 P) :: (nat_lit 420, o420 P) :: (nat_lit 422, o422 P) :: (nat_lit 423, o423 P) :: (nat_lit 425, o425 P) :: (nat_lit 426, o426 P) :: (nat_lit 427, o427 P) :: (nat_lit 430, o430 P) :: (nat_lit 431, o431 P) :: (nat_lit 432, o432 P) :: (nat_lit 435, o435 P) :: (nat_lit 436, o436 P) :: (nat_lit 437, o437 P) :: (nat_lit 440, o440 P) :: (nat_lit 441, o441 P) :: (nat_lit 442, o442 P) :: (nat_lit 444, o444 P) :: (nat_lit 445, o445 P) :: (nat_lit 447, o447 P) :: (nat_lit 448, o448 P) :: (nat_lit 449, o449 P) :: (nat_lit 452, o452 P) :: (nat_lit 453, o453 P) :: (nat_lit 454, o454 P) :: (nat_lit 456, o456 P) :: (nat_lit 457, o457 P) :: (nat_lit 459, o459 P) :: (nat_lit 460, o460 P) :: (nat_lit 461, o461 P) :: (nat_lit 462, o462 P) :: (nat_lit 463, o463 P) :: (nat_lit 464, o464 P) :: (nat_lit 465, o465 P) :: (nat_lit 466, o466 P) :: (nat_lit 467, o467 P) :: (nat_lit 468, o468 P) :: (nat_lit 469, o469 P) :: (nat_lit 470, o470 P) :: (nat_lit 471, o471 P) :: (nat_lit 472, o472 P) :: (nat_lit 475, o475 P) :: (nat_lit 476, o476 P) :: (nat_lit 477, o477 P) :: (nat_lit 479, o479 P) :: (nat_lit 480, o480 P) :: (nat_lit 482, o482 P) :: (nat_lit 483, o483 P) :: (nat_lit 484, o484 P) :: (nat_lit 487, o487 P) :: (nat_lit 488, o488 P) :: (nat_lit 489, o489 P) :: (nat_lit 492, o492 P) :: (nat_lit 493, o493 P) :: (nat_lit 494, o494 P) :: (nat_lit 497, o497 P) :: (nat_lit 498, o498 P) :: (nat_lit 499, o499 P) :: (nat_lit 502, o502 P) :: (nat_lit 503, o503 P) :: (nat_lit 504, o504 P) :: (nat_lit 506, o506 P) :: (nat_lit 507, o507 P) :: (nat_lit 509, o509 P) :: (nat_lit 510, o510 P) :: (nat_lit 511, o511 P) :: (nat_lit 513, o513 P) :: (nat_lit 514, o514 P) :: (nat_lit 516, o516 P) :: (nat_lit 517, o517 P) :: (nat_lit 518, o518 P) :: (nat_lit 521, o521 P) :: (nat_lit 522, o522 P) :: (nat_lit 523, o523 P) :: (nat_lit 525, o525 P) :: (nat_lit 526, o526 P) :: (nat_lit 528, o528 P) :: (nat_lit 529, o529 P) :: (nat_lit 530, o530 P) :: (nat_lit 532, o532 P) :: (nat_lit 533, o533 P) :: (nat_lit 535, o535 P) :: (nat_lit 536, o536 P) :: (nat_lit 537, o537 P) :: (nat_lit 539, o539 P) :: (nat_lit 540, o540 P) :: (nat_lit 542, o542 P) :: (nat_lit 543, o543 P) :: (nat_lit 544, o544 P) :: (nat_lit 546, o546 P) :: (nat_lit 547, o547 P) :: (nat_lit 549, o549 P) :: (nat_lit 550, o550 P) :: (nat_lit 551, o551 P) :: (nat_lit 553, o553 P) :: (nat_lit 554, o554 P) :: (nat_lit 556, o556 P) :: (nat_lit 557, o557 P) :: (nat_lit 558, o558 P) :: (nat_lit 561, o561 P) :: (nat_lit 562, o562 P) :: (nat_lit 563, o563 P) :: (nat_lit 566, o566 P) :: (nat_lit 567, o567 P) :: (nat_lit 568, o568 P) :: (nat_lit 571, o571 P) :: (nat_lit 572, o572 P) :: (nat_lit 573, o573 P) :: (nat_lit 575, o575 P) :: (nat_lit 576, o576 P) :: (nat_lit 578, o578 P) :: (nat_lit 579, o579 P) :: (nat_lit 580, o580 P) :: (nat_lit 582, o582 P) :: (nat_lit 583, o583 P) :: (nat_lit 585, o585 P) :: (nat_lit 586, o586 P) :: (nat_lit 587, o587 P) :: (nat_lit 589, o589 P) :: (nat_lit 590, o590 P) :: (nat_lit 592, o592 P) :: (nat_lit 593, o593 P) :: (nat_lit 594, o594 P) :: (nat_lit 596, o596 P) :: (nat_lit 597, o597 P) :: (nat_lit 599, o599 P) :: (nat_lit 600, o600 P) :: (nat_lit 601, o601 P) :: (nat_lit 604, o604 P) :: (nat_lit 605, o605 P) :: (nat_lit 606, o606 P) :: (nat_lit 608, o608 P) :: (nat_lit 609, o609 P) :: (nat_lit 611, o611 P) :: (nat_lit 612, o612 P) :: (nat_lit 613, o613 P) :: (nat_lit 616, o616 P) :: (nat_lit 617, o617 P) :: (nat_lit 618, o618 P) :: (nat_lit 620, o620 P) :: (nat_lit 621, o621 P) :: (nat_lit 623, o623 P) :: (nat_lit 624, o624 P) :: (nat_lit 632, o632 P) :: (nat_lit 634, o634 P) :: (nat_lit 635, o635 P) :: (nat_lit 637, o637 P) :: (nat_lit 638, o638 P) :: (nat_lit 639, o639 P) :: (nat_lit 641, o641 P) :: (nat_lit 642, o642 P) :: (nat_lit 644, o644 P) :: (nat_lit 645, o645 P) :: (nat_lit 646, o646 P) :: (nat_lit 649, o649 P) :: (nat_lit 650, o650 P) :: (nat_lit 651, o651 P) :: (nat_lit 653, o653 P) :: (nat_lit 654, o654 P) :: (nat_lit 656, o656 P) :: (nat_lit 657, o657 P) :: (nat_lit 658, o658 P) :: (nat_lit 660, o660 P) :: (nat_lit 661, o661 P) :: (nat_lit 663, o663 P) :: (nat_lit 664, o664 P) :: (nat_lit 665, o665 P) :: (nat_lit 668, o668 P) :: (nat_lit 669, o669 P) :: (nat_lit 670, o670 P) :: (nat_lit 672, o672 P) :: (nat_lit 673, o673 P) :: (nat_lit 675, o675 P) :: (nat_lit 676, o676 P) :: (nat_lit 677, o677 P) :: (nat_lit 679, o679 P) :: (nat_lit 680, o680 P) :: (nat_lit 682, o682 P) :: (nat_lit 683, o683 P) :: (nat_lit 684, o684 P) :: (nat_lit 686, o686 P) :: (nat_lit 687, o687 P) :: (nat_lit 689, o689 P) :: (nat_lit 690, o690 P) :: (nat_lit 691, o691 P) :: (nat_lit 692, o692 P) :: (nat_lit 693, o693 P) :: (nat_lit 694, o694 P) :: (nat_lit 695, o695 P) :: (nat_lit 698, o698 P) :: (nat_lit 701, o701 P) :: (nat_lit 702, o702 P) :: (nat_lit 703, o703 P) :: (nat_lit 706, o706 P) :: (nat_lit 707, o707 P) :: (nat_lit 708, o708 P) :: (nat_lit 711, o711 P) :: (nat_lit 712, o712 P) :: (nat_lit 713, o713 P) :: (nat_lit 716, o716 P) :: (nat_lit 717, o717 P) :: (nat_lit 718, o718 P) :: (nat_lit 721, o721 P) :: (nat_lit 722, o722 P) :: (nat_lit 723, o723 P) :: (nat_lit 726, o726 P) :: (nat_lit 727, o727 P) :: (nat_lit 728, o728 P) :: (nat_lit 731, o731 P) :: (nat_lit 732, o732 P) :: (nat_lit 733, o733 P) :: (nat_lit 735, o735 P) :: (nat_lit 736, o736 P) :: (nat_lit 738, o738 P) :: (nat_lit 739, o739 P) :: (nat_lit 740, o740 P) :: (nat_lit 742, o742 P) :: (nat_lit 743, o743 P) :: (nat_lit 745, o745 P) :: (nat_lit 746, o746 P) :: (nat_lit 747, o747 P) :: (nat_lit 750, o750 P) :: (nat_lit 751, o751 P) :: (nat_lit 752, o752 P) :: (nat_lit 755, o755 P) :: (nat_lit 756, o756 P) :: (nat_lit 757, o757 P) :: (nat_lit 760, o760 P) :: (nat_lit 761, o761 P) :: (nat_lit 762, o762 P) :: (nat_lit 764, o764 P) :: (nat_lit 765, o765 P) :: (nat_lit 767, o767 P) :: (nat_lit 768, o768 P) :: (nat_lit 769, o769 P) :: (nat_lit 771, o771 P) :: (nat_lit 772, o772 P) :: (nat_lit 774, o774 P) :: (nat_lit 775, o775 P) :: (nat_lit 776, o776 P) :: (nat_lit 778, o778 P) :: (nat_lit 779, o779 P) :: (nat_lit 781, o781 P) :: (nat_lit 782, o782 P) :: (nat_lit 790, o790 P) :: (nat_lit 791, o791 P) :: (nat_lit 792, o792 P) :: (nat_lit 795, o795 P) :: (nat_lit 796, o796 P) :: (nat_lit 797, o797 P) :: (nat_lit 799, o799 P) :: (nat_lit 800, o800 P) :: (nat_lit 802, o802 P) :: (nat_lit 803, o803 P) :: (nat_lit 804, o804 P) :: (nat_lit 806, o806 P) :: (nat_lit 807, o807 P) :: (nat_lit 809, o809 P) :: (nat_lit 810, o810 P) :: (nat_lit 811, o811 P) :: (nat_lit 814, o814 P) :: (nat_lit 815, o815 P) :: (nat_lit 816, o816 P) :: (nat_lit 818, o818 P) :: (nat_lit 819, o819 P) :: (nat_lit 821, o821 P) :: (nat_lit 822, o822 P) :: (nat_lit 823, o823 P) :: (nat_lit 825, o825 P) :: (nat_lit 826, o826 P) :: (nat_lit 828, o828 P) :: (nat_lit 829, o829 P) :: (nat_lit 830, o830 P) :: (nat_lit 832, o832 P) :: (nat_lit 833, o833 P) :: (nat_lit 835, o835 P) :: (nat_lit 836, o836 P) :: (nat_lit 837, o837 P) :: (nat_lit 840, o840 P) :: (nat_lit 841, o841 P) :: (nat_lit 842, o842 P) :: (nat_lit 844, o844 P) :: (nat_lit 845, o845 P) :: (nat_lit 847, o847 P) :: (nat_lit 848, o848 P) :: (nat_lit 849, o849 P) :: (nat_lit 851, o851 P) :: (nat_lit 852, o852 P) :: (nat_lit 854, o854 P) :: (nat_lit 855, o855 P) :: (nat_lit 856, o856 P) :: (nat_lit 858, o858 P) :: (nat_lit 859, o859 P) :: (nat_lit 861, o861 P) :: (nat_lit 862, o862 P) :: (nat_lit 863, o863 P) :: (nat_lit 865, o865 P) :: (nat_lit 866, o866 P) :: (nat_lit 868, o868 P) :: (nat_lit 869, o869 P) :: (nat_lit 870, o870 P) :: (nat_lit 872, o872 P) :: (nat_lit 873, o873 P) :: (nat_lit 875, o875 P) :: (nat_lit 876, o876 P) :: (nat_lit 877, o877 P) :: (nat_lit 879, o879 P) :: (nat_lit 880, o880 P) :: (nat_lit 882, o882 P) :: (nat_lit 883, o883 P) :: (nat_lit 884, o884 P) :: (nat_lit 886, o886 P) :: (nat_lit 887, o887 P) :: (nat_lit 889, o889 P) :: (nat_lit 890, o890 P) :: (nat_lit 891, o891 P) :: (nat_lit 893, o893 P) :: (nat_lit 894, o894 P) :: (nat_lit 896, o896 P) :: (nat_lit 897, o897 P) :: (nat_lit 898, o898 P) :: (nat_lit 900, o900 P) :: (nat_lit 901, o901 P) :: (nat_lit 903, o903 P) :: (nat_lit 904, o904 P) :: (nat_lit 905, o905 P) :: (nat_lit 906, o906 P) :: (nat_lit 907, o907 P) :: (nat_lit 908, o908 P) :: (nat_lit 909, o909 P) :: (nat_lit 912, o912 P) :: (nat_lit 914, o914 P) :: (nat_lit 915, o915 P) :: (nat_lit 917, o917 P) :: (nat_lit 918, o918 P) :: (nat_lit 919, o919 P) :: (nat_lit 920, o920 P) :: (nat_lit 923, o923 P) :: (nat_lit 924, o924 P) :: (nat_lit 925, o925 P) :: (nat_lit 927, o927 P) :: (nat_lit 928, o928 P) :: (nat_lit 930, o930 P) :: (nat_lit 931, o931 P) :: (nat_lit 932, o932 P) :: (nat_lit 935, o935 P) :: (nat_lit 936, o936 P) :: (nat_lit 937, o937 P) :: (nat_lit 939, o939 P) :: (nat_lit 940, o940 P) :: (nat_lit 942, o942 P) :: (nat_lit 943, o943 P) :: (nat_lit 944, o944 P) :: (nat_lit 947, o947 P) :: (nat_lit 948, o948 P) :: (nat_lit 949, o949 P) :: (nat_lit 951, o951 P) :: (nat_lit 952, o952 P) :: (nat_lit 954, o954 P) :: (nat_lit 955, o955 P) :: (nat_lit 963, o963 P) :: (nat_lit 965, o965 P) :: (nat_lit 966, o966 P) :: (nat_lit 968, o968 P) :: (nat_lit 969, o969 P) :: (nat_lit 970, o970 P) :: (nat_lit 972, o972 P) :: (nat_lit 973, o973 P) :: (nat_lit 975, o975 P) :: (nat_lit 976, o976 P) :: (nat_lit 977, o977 P) :: (nat_lit 979, o979 P) :: (nat_lit 980, o980 P) :: (nat_lit 982, o982 P) :: (nat_lit 983, o983 P) :: (nat_lit 984, o984 P) :: (nat_lit 986, o986 P) :: (nat_lit 987, o987 P) :: (nat_lit 989, o989 P) :: (nat_lit 990, o990 P) :: (nat_lit 991, o991 P) :: (nat_lit 993, o993 P) :: (nat_lit 994, o994 P) :: (nat_lit 996, o996 P) :: (nat_lit 997, o997 P) :: (nat_lit 998, o998 P) :: (nat_lit 1000, o1000 P) :: (nat_lit 1001, o1001 P) :: (nat_lit 1003, o1003 P) :: (nat_lit 1004, o1004 P) :: (nat_lit 1005, o1005 P) :: (nat_lit 1007, o1007 P) :: (nat_lit 1008, o1008 P) :: (nat_lit 1010, o1010 P) :: (nat_lit 1011, o1011 P) :: (nat_lit 1012, o1012 P) :: (nat_lit 1014, o1014 P) :: (nat_lit 1015, o1015 P) :: (nat_lit 1017, o1017 P) :: (nat_lit 1018, o1018 P) :: (nat_lit 1019, o1019 P) :: (nat_lit 1021, o1021 P) :: (nat_lit 1022, o1022 P) :: (nat_lit 1024, o1024 P) :: (nat_lit 1025, o1025 P) :: (nat_lit 1026, o1026 P) :: (nat_lit 1028, o1028 P) :: (nat_lit 1029, o1029 P) :: (nat_lit 1031, o1031 P) :: (nat_lit 1032, o1032 P) :: (nat_lit 1033, o1033 P) :: (nat_lit 1035, o1035 P) :: (nat_lit 1036, o1036 P) :: (nat_lit 1038, o1038 P) :: (nat_lit 1039, o1039 P) :: (nat_lit 1040, o1040 P) :: (nat_lit 1042, o1042 P) :: (nat_lit 1043, o1043 P) :: (nat_lit 1045, o1045 P) :: (nat_lit 1046, o1046 P) :: (nat_lit 1047, o1047 P) :: (nat_lit 1049, o1049 P) :: (nat_lit 1050, o1050 P) :: (nat_lit 1052, o1052 P) :: (nat_lit 1053, o1053 P) :: (nat_lit 1054, o1054 P) :: (nat_lit 1056, o1056 P) :: (nat_lit 1057, o1057 P) :: (nat_lit 1059, o1059 P) :: (nat_lit 1060, o1060 P) :: (nat_lit 1061, o1061 P) :: (nat_lit 1063, o1063 P) :: (nat_lit 1064, o1064 P) :: (nat_lit 1066, o1066 P) :: (nat_lit 1067, o1067 P) :: (nat_lit 1068, o1068 P) :: (nat_lit 1070, o1070 P) :: (nat_lit 1071, o1071 P) :: (nat_lit 1073, o1073 P) :: (nat_lit 1074, o1074 P) :: (nat_lit 1075, o1075 P) :: (nat_lit 1077, o1077 P) :: (nat_lit 1078, o1078 P) :: (nat_lit 1080, o1080 P) :: (nat_lit 1081, o1081 P) :: (nat_lit 1082, o1082 P) :: (nat_lit 1084, o1084 P) :: (nat_lit 1085, o1085 P) :: (nat_lit 1087, o1087 P) :: (nat_lit 1088, o1088 P) :: (nat_lit 1089, o1089 P) :: (nat_lit 1091, o1091 P) :: (nat_lit 1092, o1092 P) :: (nat_lit 1094, o1094 P) :: (nat_lit 1095, o1095 P) :: (nat_lit 1096, o1096 P) :: (nat_lit 1098, o1098 P) :: (nat_lit 1099, o1099 P) :: (nat_lit 1101, o1101 P) :: (nat_lit 1102, o1102 P) :: (nat_lit 1103, o1103 P) :: (nat_lit 1105, o1105 P) :: (nat_lit 1106, o1106 P) :: (nat_lit 1108, o1108 P) :: (nat_lit 1109, o1109 P) :: (nat_lit 1110, o1110 P) :: (nat_lit 1112, o1112 P) :: (nat_lit 1113, o1113 P) :: (nat_lit 1115, o1115 P) :: (nat_lit 1116, o1116 P) :: (nat_lit 1117, o1117 P) :: (nat_lit 1118, o1118 P) :: (nat_lit 1119, o1119 P) :: (nat_lit 1120, o1120 P) :: (nat_lit 1121, o1121 P) :: (nat_lit 1124, o1124 P) :: (nat_lit 1125, o1125 P) :: (nat_lit 1128, o1128 P) :: (nat_lit 1129, o1129 P) :: (nat_lit 1130, o1130 P) :: (nat_lit 1133, o1133 P) :: (nat_lit 1134, o1134 P) :: (nat_lit 1135, o1135 P) :: (nat_lit 1138, o1138 P) :: (nat_lit 1139, o1139 P) :: (nat_lit 1140, o1140 P) :: (nat_lit 1143, o1143 P) :: (nat_lit 1144, o1144 P) :: (nat_lit 1145, o1145 P) :: (nat_lit 1147, o1147 P) :: (nat_lit 1148, o1148 P) :: (nat_lit 1150, o1150 P) :: (nat_lit 1151, o1151 P) :: (nat_lit 1152, o1152 P) :: (nat_lit 1155, o1155 P) :: (nat_lit 1156, o1156 P) :: (nat_lit 1157, o1157 P) :: (nat_lit 1159, o1159 P) :: (nat_lit 1160, o1160 P) :: (nat_lit 1162, o1162 P) :: (nat_lit 1163, o1163 P) :: (nat_lit 1164, o1164 P) :: (nat_lit 1166, o1166 P) :: (nat_lit 1167, o1167 P) :: (nat_lit 1169, o1169 P) :: (nat_lit 1170, o1170 P) :: (nat_lit 1171, o1171 P) :: (nat_lit 1174, o1174 P) :: (nat_lit 1175, o1175 P) :: (nat_lit 1176, o1176 P) :: (nat_lit 1177, o1177 P) :: (nat_lit 1180, o1180 P) :: (nat_lit 1181, o1181 P) :: (nat_lit 1182, o1182 P) :: (nat_lit 1185, o1185 P) :: (nat_lit 1186, o1186 P) :: (nat_lit 1187, o1187 P) :: (nat_lit 1190, o1190 P) :: (nat_lit 1191, o1191 P) :: (nat_lit 1192, o1192 P) :: (nat_lit 1193, o1193 P) :: (nat_lit 1195, o1195 P) :: (nat_lit 1196, o1196 P) :: (nat_lit 1198, o1198 P) :: (nat_lit 1199, o1199 P) :: (nat_lit 1200, o1200 P) :: (nat_lit 1202, o1202 P) :: (nat_lit 1203, o1203 P) :: (nat_lit 1205, o1205 P) :: (nat_lit 1206, o1206 P) :: (nat_lit 1207, o1207 P) :: (nat_lit 1209, o1209 P) :: (nat_lit 1210, o1210 P) :: (nat_lit 1212, o1212 P) :: (nat_lit 1213, o1213 P) :: (nat_lit 1214, o1214 P) :: (nat_lit 1216, o1216 P) :: (nat_lit 1217, o1217 P) :: (nat_lit 1219, o1219 P) :: (nat_lit 1220, o1220 P) :: (nat_lit 1221, o1221 P) :: (nat_lit 1223, o1223 P) :: (nat_lit 1224, o1224 P) :: (nat_lit 1226, o1226 P) :: (nat_lit 1227, o1227 P) :: (nat_lit 1228, o1228 P) :: (nat_lit 1230, o1230 P) :: (nat_lit 1231, o1231 P) :: (nat_lit 1233, o1233 P) :: (nat_lit 1234, o1234 P) :: (nat_lit 1235, o1235 P) :: (nat_lit 1237, o1237 P) :: (nat_lit 1238, o1238 P) :: (nat_lit 1240, o1240 P) :: (nat_lit 1241, o1241 P) :: (nat_lit 1242, o1242 P) :: (nat_lit 1245, o1245 P) :: (nat_lit 1246, o1246 P) :: (nat_lit 1247, o1247 P) :: (nat_lit 1250, o1250 P) :: (nat_lit 1251, o1251 P) :: (nat_lit 1252, o1252 P) :: (nat_lit 1255, o1255 P) :: (nat_lit 1256, o1256 P) :: (nat_lit 1257, o1257 P) :: (nat_lit 1259, o1259 P) :: (nat_lit 1260, o1260 P) :: (nat_lit 1262, o1262 P) :: (nat_lit 1263, o1263 P) :: (nat_lit 1264, o1264 P) :: (nat_lit 1266, o1266 P) :: (nat_lit 1267, o1267 P) :: (nat_lit 1269, o1269 P) :: (nat_lit 1270, o1270 P) :: (nat_lit 1271, o1271 P) :: (nat_lit 1274, o1274 P) :: (nat_lit 1275, o1275 P) :: []
def as : List Addr := nat_lit 2 :: nat_lit 3 :: nat_lit 15 :: nat_lit 17 :: nat_lit 18 :: nat_lit 20 :: nat_lit 21 :: nat_lit 22 :: nat_lit 29 :: nat_lit 31 :: nat_lit 32 :: nat_lit 34 :: nat_lit 35 :: nat_lit 36 :: nat_lit 37 :: nat_lit 38 :: nat_lit 39 :: nat_lit 42 :: nat_lit 49 :: nat_lit 51 :: nat_lit 52 :: nat_lit 54 :: nat_lit 55 :: nat_lit 56 :: nat_lit 57 :: nat_lit 58 :: nat_lit 61 :: nat_lit 68 :: nat_lit 70 :: nat_lit 71 :: nat_lit 73 :: nat_lit 74 :: nat_lit 75 :: nat_lit 76 :: nat_lit 77 :: nat_lit 80 :: nat_lit 87 :: nat_lit 89 :: nat_lit 90 :: nat_lit 92 :: nat_lit 93 :: nat_lit 94 :: nat_lit 95 :: nat_lit 96 :: nat_lit 99 :: nat_lit 106 :: nat_lit 108 :: nat_lit 109 :: nat_lit 111 :: nat_lit 112 :: nat_lit 113 :: nat_lit 114 :: nat_lit 115 :: nat_lit 118 :: nat_lit 125 :: nat_lit 127 :: nat_lit 128 :: nat_lit 130 :: nat_lit 131 :: nat_lit 132 :: nat_lit 133 :: nat_lit 134 :: nat_lit 137 :: nat_lit 144 :: nat_lit 146 :: nat_lit 147 :: nat_lit 149 :: nat_lit 150 :: nat_lit 151 :: nat_lit 152 :: nat_lit 153 :: nat_lit 156 :: nat_lit 163 :: nat_lit 165 :: nat_lit 166 :: nat_lit 168 :: nat_lit 169 :: nat_lit 170 :: nat_lit 171 :: nat_lit 172 :: nat_lit 175 :: nat_lit 182 :: nat_lit 184 :: nat_lit 185 :: nat_lit 187 :: nat_lit 188 :: nat_lit 189 :: nat_lit 190 :: nat_lit 191 :: nat_lit 194 :: nat_lit 201 :: nat_lit 203 :: nat_lit 204 :: nat_lit 206 :: nat_lit 207 :: nat_lit 208 :: nat_lit 209 :: nat_lit 210 :: nat_lit 213 :: nat_lit 220 :: nat_lit 222 :: nat_lit 223 :: nat_lit 225 :: nat_lit 226 :: nat_lit 227 :: nat_lit 228 :: nat_lit 229 :: nat_lit 230 :: nat_lit 233 :: nat_lit 240 :: nat_lit 242 :: nat_lit 243 :: nat_lit 245 :: nat_lit 246 :: nat_lit 247 :: nat_lit 248 :: nat_lit 249 :: nat_lit 250 :: nat_lit 253 :: nat_lit 260 :: nat_lit 262 :: nat_lit 263 :: nat_lit 265 :: nat_lit 266 :: nat_lit 267 :: nat_lit 268 :: nat_lit 269 :: nat_lit 270 :: nat_lit 273 :: nat_lit 280 :: nat_lit 282 :: nat_lit 283 :: nat_lit 285 :: nat_lit 286 :: nat_lit 287 :: nat_lit 288 :: nat_lit 289 :: nat_lit 290 :: nat_lit 293 :: nat_lit 295 :: nat_lit 296 :: nat_lit 298 :: nat_lit 299 :: nat_lit 300 :: nat_lit 302 :: nat_lit 303 :: nat_lit 305 :: nat_lit 306 :: nat_lit 307 :: nat_lit 310 :: nat_lit 311 :: nat_lit 312 :: nat_lit 315 :: nat_lit 316 :: nat_lit 317 :: nat_lit 319 :: nat_lit 320 :: nat_lit 322 :: nat_lit 323 :: nat_lit 324 :: nat_lit 326 :: nat_lit 327 :: nat_lit 329 :: nat_lit 330 :: nat_lit 331 :: nat_lit 333 :: nat_lit 334 :: nat_lit 336 :: nat_lit 337 :: nat_lit 338 :: nat_lit 341 :: nat_lit 342 :: nat_lit 343 :: nat_lit 346 :: nat_lit 347 :: nat_lit 348 :: nat_lit 350 :: nat_lit 351 :: nat_lit 353 :: nat_lit 354 :: nat_lit 355 :: nat_lit 357 :: nat_lit 358 :: nat_lit 360 :: nat_lit 361 :: nat_lit 362 :: nat_lit 365 :: nat_lit 366 :: nat_lit 367 :: nat_lit 369 :: nat_lit 370 :: nat_lit 372 :: nat_lit 373 :: nat_lit 374 :: nat_lit 377 :: nat_lit 378 :: nat_lit 379 :: nat_lit 381 :: nat_lit 382 :: nat_lit 384 :: nat_lit 385 :: nat_lit 386 :: nat_lit 388 :: nat_lit 389 :: nat_lit 391 :: nat_lit 392 :: nat_lit 393 :: nat_lit 395 :: nat_lit 396 :: nat_lit 398 :: nat_lit 399 :: nat_lit 400 :: nat_lit 403 :: nat_lit 404 :: nat_lit 405 :: nat_lit 408 :: nat_lit 409 :: nat_lit 410 :: nat_lit 413 :: nat_lit 414 :: nat_lit 415 :: nat_lit 418 :: nat_lit 419 :: nat_lit 420 :: nat_lit 422 :: nat_lit 423 :: nat_lit 425 :: nat_lit 426 :: nat_lit 427 :: nat_lit 430 :: nat_lit 431 :: nat_lit 432 :: nat_lit 435 :: nat_lit 436 :: nat_lit 437 :: nat_lit 440 :: nat_lit 441 :: nat_lit 442 :: nat_lit 444 :: nat_lit 445 :: nat_lit 447 :: nat_lit 448 :: nat_lit 449 :: nat_lit 452 :: nat_lit 453 :: nat_lit 454 :: nat_lit 456 :: nat_lit 457 :: nat_lit 459 :: nat_lit 460 :: nat_lit 461 :: nat_lit 462 :: nat_lit 463 :: nat_lit 464 :: nat_lit 465 :: nat_lit 466 :: nat_lit 467 :: nat_lit 468 :: nat_lit 469 :: nat_lit 470 :: nat_lit 471 :: nat_lit 472 :: nat_lit 475 :: nat_lit 476 :: nat_lit 477 :: nat_lit 479 :: nat_lit 480 :: nat_lit 482 :: nat_lit 483 :: nat_lit 484 :: nat_lit 487 :: nat_lit 488 :: nat_lit 489 :: nat_lit 492 :: nat_lit 493 :: nat_lit 494 :: nat_lit 497 :: nat_lit 498 :: nat_lit 499 :: nat_lit 502 :: nat_lit 503 :: nat_lit 504 :: nat_lit 506 :: nat_lit 507 :: nat_lit 509 :: nat_lit 510 :: nat_lit 511 :: nat_lit 513 :: nat_lit 514 :: nat_lit 516 :: nat_lit 517 :: nat_lit 518 :: nat_lit 521 :: nat_lit 522 :: nat_lit 523 :: nat_lit 525 :: nat_lit 526 :: nat_lit 528 :: nat_lit 529 :: nat_lit 530 :: nat_lit 532 :: nat_lit 533 :: nat_lit 535 :: nat_lit 536 :: nat_lit 537 :: nat_lit 539 :: nat_lit 540 :: nat_lit 542 :: nat_lit 543 :: nat_lit 544 :: nat_lit 546 :: nat_lit 547 :: nat_lit 549 :: nat_lit 550 :: nat_lit 551 :: nat_lit 553 :: nat_lit 554 :: nat_lit 556 :: nat_lit 557 :: nat_lit 558 :: nat_lit 561 :: nat_lit 562 :: nat_lit 563 :: nat_lit 566 :: nat_lit 567 :: nat_lit 568 :: nat_lit 571 :: nat_lit 572 :: nat_lit 573 :: nat_lit 575 :: nat_lit 576 :: nat_lit 578 :: nat_lit 579 :: nat_lit 580 :: nat_lit 582 :: nat_lit 583 :: nat_lit 585 :: nat_lit 586 :: nat_lit 587 :: nat_lit 589 :: nat_lit 590 :: nat_lit 592 :: nat_lit 593 :: nat_lit 594 :: nat_lit 596 :: nat_lit 597 :: nat_lit 599 :: nat_lit 600 :: nat_lit 601 :: nat_lit 604 :: nat_lit 605 :: nat_lit 606 :: nat_lit 608 :: nat_lit 609 :: nat_lit 611 :: nat_lit 612 :: nat_lit 613 :: nat_lit 616 :: nat_lit 617 :: nat_lit 618 :: nat_lit 620 :: nat_lit 621 :: nat_lit 623 :: nat_lit 624 :: nat_lit 632 :: nat_lit 634 :: nat_lit 635 :: nat_lit 637 :: nat_lit 638 :: nat_lit 639 :: nat_lit 641 :: nat_lit 642 :: nat_lit 644 :: nat_lit 645 :: nat_lit 646 :: nat_lit 649 :: nat_lit 650 :: nat_lit 651 :: nat_lit 653 :: nat_lit 654 :: nat_lit 656 :: nat_lit 657 :: nat_lit 658 :: nat_lit 660 :: nat_lit 661 :: nat_lit 663 :: nat_lit 664 :: nat_lit 665 :: nat_lit 668 :: nat_lit 669 :: nat_lit 670 :: nat_lit 672 :: nat_lit 673 :: nat_lit 675 :: nat_lit 676 :: nat_lit 677 :: nat_lit 679 :: nat_lit 680 :: nat_lit 682 :: nat_lit 683 :: nat_lit 684 :: nat_lit 686 :: nat_lit 687 :: nat_lit 689 :: nat_lit 690 :: nat_lit 691 :: nat_lit 692 :: nat_lit 693 :: nat_lit 694 :: nat_lit 695 :: nat_lit 698 :: nat_lit 701 :: nat_lit 702 :: nat_lit 703 :: nat_lit 706 :: nat_lit 707 :: nat_lit 708 :: nat_lit 711 :: nat_lit 712 :: nat_lit 713 :: nat_lit 716 :: nat_lit 717 :: nat_lit 718 :: nat_lit 721 :: nat_lit 722 :: nat_lit 723 :: nat_lit 726 :: nat_lit 727 :: nat_lit 728 :: nat_lit 731 :: nat_lit 732 :: nat_lit 733 :: nat_lit 735 :: nat_lit 736 :: nat_lit 738 :: nat_lit 739 :: nat_lit 740 :: nat_lit 742 :: nat_lit 743 :: nat_lit 745 :: nat_lit 746 :: nat_lit 747 :: nat_lit 750 :: nat_lit 751 :: nat_lit 752 :: nat_lit 755 :: nat_lit 756 :: nat_lit 757 :: nat_lit 760 :: nat_lit 761 :: nat_lit 762 :: nat_lit 764 :: nat_lit 765 :: nat_lit 767 :: nat_lit 768 :: nat_lit 769 :: nat_lit 771 :: nat_lit 772 :: nat_lit 774 :: nat_lit 775 :: nat_lit 776 :: nat_lit 778 :: nat_lit 779 :: nat_lit 781 :: nat_lit 782 :: nat_lit 790 :: nat_lit 791 :: nat_lit 792 :: nat_lit 795 :: nat_lit 796 :: nat_lit 797 :: nat_lit 799 :: nat_lit 800 :: nat_lit 802 :: nat_lit 803 :: nat_lit 804 :: nat_lit 806 :: nat_lit 807 :: nat_lit 809 :: nat_lit 810 :: nat_lit 811 :: nat_lit 814 :: nat_lit 815 :: nat_lit 816 :: nat_lit 818 :: nat_lit 819 :: nat_lit 821 :: nat_lit 822 :: nat_lit 823 :: nat_lit 825 :: nat_lit 826 :: nat_lit 828 :: nat_lit 829 :: nat_lit 830 :: nat_lit 832 :: nat_lit 833 :: nat_lit 835 :: nat_lit 836 :: nat_lit 837 :: nat_lit 840 :: nat_lit 841 :: nat_lit 842 :: nat_lit 844 :: nat_lit 845 :: nat_lit 847 :: nat_lit 848 :: nat_lit 849 :: nat_lit 851 :: nat_lit 852 :: nat_lit 854 :: nat_lit 855 :: nat_lit 856 :: nat_lit 858 :: nat_lit 859 :: nat_lit 861 :: nat_lit 862 :: nat_lit 863 :: nat_lit 865 :: nat_lit 866 :: nat_lit 868 :: nat_lit 869 :: nat_lit 870 :: nat_lit 872 :: nat_lit 873 :: nat_lit 875 :: nat_lit 876 :: nat_lit 877 :: nat_lit 879 :: nat_lit 880 :: nat_lit 882 :: nat_lit 883 :: nat_lit 884 :: nat_lit 886 :: nat_lit 887 :: nat_lit 889 :: nat_lit 890 :: nat_lit 891 :: nat_lit 893 :: nat_lit 894 :: nat_lit 896 :: nat_lit 897 :: nat_lit 898 :: nat_lit 900 :: nat_lit 901 :: nat_lit 903 :: nat_lit 904 :: nat_lit 905 :: nat_lit 906 :: nat_lit 907 :: nat_lit 908 :: nat_lit 909 :: nat_lit 912 :: nat_lit 914 :: nat_lit 915 :: nat_lit 917 :: nat_lit 918 :: nat_lit 919 :: nat_lit 920 :: nat_lit 923 :: nat_lit 924 :: nat_lit 925 :: nat_lit 927 :: nat_lit 928 :: nat_lit 930 :: nat_lit 931 :: nat_lit 932 :: nat_lit 935 :: nat_lit 936 :: nat_lit 937 :: nat_lit 939 :: nat_lit 940 :: nat_lit 942 :: nat_lit 943 :: nat_lit 944 :: nat_lit 947 :: nat_lit 948 :: nat_lit 949 :: nat_lit 951 :: nat_lit 952 :: nat_lit 954 :: nat_lit 955 :: nat_lit 963 :: nat_lit 965 :: nat_lit 966 :: nat_lit 968 :: nat_lit 969 :: nat_lit 970 :: nat_lit 972 :: nat_lit 973 :: nat_lit 975 :: nat_lit 976 :: nat_lit 977 :: nat_lit 979 :: nat_lit 980 :: nat_lit 982 :: nat_lit 983 :: nat_lit 984 :: nat_lit 986 :: nat_lit 987 :: nat_lit 989 :: nat_lit 990 :: nat_lit 991 :: nat_lit 993 :: nat_lit 994 :: nat_lit 996 :: nat_lit 997 :: nat_lit 998 :: nat_lit 1000 :: nat_lit 1001 :: nat_lit 1003 :: nat_lit 1004 :: nat_lit 1005 :: nat_lit 1007 :: nat_lit 1008 :: nat_lit 1010 :: nat_lit 1011 :: nat_lit 1012 :: nat_lit 1014 :: nat_lit 1015 :: nat_lit 1017 :: nat_lit 1018 :: nat_lit 1019 :: nat_lit 1021 :: nat_lit 1022 :: nat_lit 1024 :: nat_lit 1025 :: nat_lit 1026 :: nat_lit 1028 :: nat_lit 1029 :: nat_lit 1031 :: nat_lit 1032 :: nat_lit 1033 :: nat_lit 1035 :: nat_lit 1036 :: nat_lit 1038 :: nat_lit 1039 :: nat_lit 1040 :: nat_lit 1042 :: nat_lit 1043 :: nat_lit 1045 :: nat_lit 1046 :: nat_lit 1047 :: nat_lit 1049 :: nat_lit 1050 :: nat_lit 1052 :: nat_lit 1053 :: nat_lit 1054 :: nat_lit 1056 :: nat_lit 1057 :: nat_lit 1059 :: nat_lit 1060 :: nat_lit 1061 :: nat_lit 1063 :: nat_lit 1064 :: nat_lit 1066 :: nat_lit 1067 :: nat_lit 1068 :: nat_lit 1070 :: nat_lit 1071 :: nat_lit 1073 :: nat_lit 1074 :: nat_lit 1075 :: nat_lit 1077 :: nat_lit 1078 :: nat_lit 1080 :: nat_lit 1081 :: nat_lit 1082 :: nat_lit 1084 :: nat_lit 1085 :: nat_lit 1087 :: nat_lit 1088 :: nat_lit 1089 :: nat_lit 1091 :: nat_lit 1092 :: nat_lit 1094 :: nat_lit 1095 :: nat_lit 1096 :: nat_lit 1098 :: nat_lit 1099 :: nat_lit 1101 :: nat_lit 1102 :: nat_lit 1103 :: nat_lit 1105 :: nat_lit 1106 :: nat_lit 1108 :: nat_lit 1109 :: nat_lit 1110 :: nat_lit 1112 :: nat_lit 1113 :: nat_lit 1115 :: nat_lit 1116 :: nat_lit 1117 :: nat_lit 1118 :: nat_lit 1119 :: nat_lit 1120 :: nat_lit 1121 :: nat_lit 1124 :: nat_lit 1125 :: nat_lit 1128 :: nat_lit 1129 :: nat_lit 1130 :: nat_lit 1133 :: nat_lit 1134 :: nat_lit 1135 :: nat_lit 1138 :: nat_lit 1139 :: nat_lit 1140 :: nat_lit 1143 :: nat_lit 1144 :: nat_lit 1145 :: nat_lit 1147 :: nat_lit 1148 :: nat_lit 1150 :: nat_lit 1151 :: nat_lit 1152 :: nat_lit 1155 :: nat_lit 1156 :: nat_lit 1157 :: nat_lit 1159 :: nat_lit 1160 :: nat_lit 1162 :: nat_lit 1163 :: nat_lit 1164 :: nat_lit 1166 :: nat_lit 1167 :: nat_lit 1169 :: nat_lit 1170 :: nat_lit 1171 :: nat_lit 1174 :: nat_lit 1175 :: nat_lit 1176 :: nat_lit 1177 :: nat_lit 1180 :: nat_lit 1181 :: nat_lit 1182 :: nat_lit 1185 :: nat_lit 1186 :: nat_lit 1187 :: nat_lit 1190 :: nat_lit 1191 :: nat_lit 1192 :: nat_lit 1193 :: nat_lit 1195 :: nat_lit 1196 :: nat_lit 1198 :: nat_lit 1199 :: nat_lit 1200 :: nat_lit 1202 :: nat_lit 1203 :: nat_lit 1205 :: nat_lit 1206 :: nat_lit 1207 :: nat_lit 1209 :: nat_lit 1210 :: nat_lit 1212 :: nat_lit 1213 :: nat_lit 1214 :: nat_lit 1216 :: nat_lit 1217 :: nat_lit 1219 :: nat_lit 1220 :: nat_lit 1221 :: nat_lit 1223 :: nat_lit 1224 :: nat_lit 1226 :: nat_lit 1227 :: nat_lit 1228 :: nat_lit 1230 :: nat_lit 1231 :: nat_lit 1233 :: nat_lit 1234 :: nat_lit 1235 :: nat_lit 1237 :: nat_lit 1238 :: nat_lit 1240 :: nat_lit 1241 :: nat_lit 1242 :: nat_lit 1245 :: nat_lit 1246 :: nat_lit 1247 :: nat_lit 1250 :: nat_lit 1251 :: nat_lit 1252 :: nat_lit 1255 :: nat_lit 1256 :: nat_lit 1257 :: nat_lit 1259 :: nat_lit 1260 :: nat_lit 1262 :: nat_lit 1263 :: nat_lit 1264 :: nat_lit 1266 :: nat_lit 1267 :: nat_lit 1269 :: nat_lit 1270 :: nat_lit 1271 :: nat_lit 1274 :: nat_lit 1275 :: []

abbrev qv : Program := view Rw.prog [142, 143, 144]
def names0 : List PySem.Str := [PySem.Str.ofString "_wall", PySem.Str.ofString "__name__", PySem.Str.ofString "BudError", PySem.Str.ofString "BadSum", PySem.Str.ofString "BadTable", PySem.Str.ofString "Uneven", PySem.Str.ofString "Great", PySem.Str.ofString "Held", PySem.Str.ofString "BadOrder", PySem.Str.ofString "Mixed", PySem.Str.ofString "Endless", PySem.Str.ofString "Full", PySem.Str.ofString "NoPart", PySem.Str.ofString "NoPlace", PySem.Str.ofString "Lacking"]
def names1 : List PySem.Str := [PySem.Str.ofString "NothingLeft", PySem.Str.ofString "CHUNK_FIGURES", PySem.Str.ofString "CHUNK", PySem.Str.ofString "is_number", PySem.Str.ofString "whole_text", PySem.Str.ofString "row_text", PySem.Str.ofString "rows_text", PySem.Str.ofString "common", PySem.Str.ofString "power_of", PySem.Str.ofString "lowest_terms", PySem.Str.ofString "MOST_TIE", PySem.Str.ofString "MOST_BUDS", PySem.Str.ofString "MOST_ROOTS", PySem.Str.ofString "is_row", PySem.Str.ofString "check_form"]
def names2 : List PySem.Str := [PySem.Str.ofString "check_table", PySem.Str.ofString "check_bud", PySem.Str.ofString "check_order", PySem.Str.ofString "bud_count", PySem.Str.ofString "unlike_rows", PySem.Str.ofString "pair_bars", PySem.Str.ofString "ring_bars", PySem.Str.ofString "barred", PySem.Str.ofString "lot_weights", PySem.Str.ofString "weights", PySem.Str.ofString "weights_tables", PySem.Str.ofString "turned_row", PySem.Str.ofString "turned_table", PySem.Str.ofString "turned", PySem.Str.ofString "reordered"]
def names3 : List PySem.Str := [PySem.Str.ofString "beside", PySem.Str.ofString "unit_rows", PySem.Str.ofString "principal", PySem.Str.ofString "opposite", PySem.Str.ofString "table_text", PySem.Str.ofString "COUNTS", PySem.Str.ofString "ENDLESS_TIES", PySem.Str.ofString "tied_pairs", PySem.Str.ofString "endless_pair", PySem.Str.ofString "lot_of", PySem.Str.ofString "lots", PySem.Str.ofString "family", PySem.Str.ofString "lot_letter", PySem.Str.ofString "finite_told", PySem.Str.ofString "add_turned"]
def names4 : List PySem.Str := [PySem.Str.ofString "kind", PySem.Str.ofString "is_bud", PySem.Str.ofString "rows_behind", PySem.Str.ofString "endless_holds", PySem.Str.ofString "first_seed", PySem.Str.ofString "sign_of", PySem.Str.ofString "minus", PySem.Str.ofString "added_often", PySem.Str.ofString "turned_hues", PySem.Str.ofString "fresh_lean", PySem.Str.ofString "turned_leans", PySem.Str.ofString "turned_seed", PySem.Str.ofString "is_number_below", PySem.Str.ofString "fallen_seed", PySem.Str.ofString "draw_exchange"]
def names5 : List PySem.Str := [PySem.Str.ofString "drawn_rows", PySem.Str.ofString "distances", PySem.Str.ofString "WebMap", PySem.Str.ofString "map_holds", PySem.Str.ofString "added_powers", PySem.Str.ofString "lessened_powers", PySem.Str.ofString "gathered", PySem.Str.ofString "lowest_powers", PySem.Str.ofString "highest_powers", PySem.Str.ofString "multiplied", PySem.Str.ofString "multiplied_within", PySem.Str.ofString "taken_off", PySem.Str.ofString "quotient", PySem.Str.ofString "weighed", PySem.Str.ofString "worth_at"]
def names6 : List PySem.Str := [PySem.Str.ofString "LETTERS", PySem.Str.ofString "letters_text", PySem.Str.ofString "product_text", PySem.Str.ofString "sum_pieces", PySem.Str.ofString "WIDE", PySem.Str.ofString "Sum", PySem.Str.ofString "check_width", PySem.Str.ofString "letter", PySem.Str.ofString "constant", PySem.Str.ofString "MOST_TERMS", PySem.Str.ofString "MOST_WALK", PySem.Str.ofString "first_sums", PySem.Str.ofString "side_products", PySem.Str.ofString "new_bud", PySem.Str.ofString "exchanged"]
def names7 : List PySem.Str := [PySem.Str.ofString "Web", PySem.Str.ofString "GREAT_WORTH", PySem.Str.ofString "RING_LENGTHS", PySem.Str.ofString "inner_sum", PySem.Str.ofString "inner", PySem.Str.ofString "replaced_powers", PySem.Str.ofString "parted", PySem.Str.ofString "side_worth", PySem.Str.ofString "new_worth", PySem.Str.ofString "worth_step", PySem.Str.ofString "walked", PySem.Str.ofString "side_total", PySem.Str.ofString "leaned", PySem.Str.ofString "frieze", PySem.Str.ofString "belt_round"]
def names8 : List PySem.Str := [PySem.Str.ofString "belt", PySem.Str.ofString "ring_length", PySem.Str.ofString "_law_feed", PySem.Str.ofString "_law_draw", PySem.Str.ofString "_law_pick", PySem.Str.ofString "_law_word", PySem.Str.ofString "_law_gcd", PySem.Str.ofString "_law_even", PySem.Str.ofString "_law_roots", PySem.Str.ofString "_law_is_bar"]
def names : List PySem.Str := names0 ++ (names1 ++ (names2 ++ (names3 ++ (names4 ++ (names5 ++ (names6 ++ (names7 ++ (names8))))))))

theorem as_eq (P : Params) : as = (K P).map (·.1) := rfl
abbrev hk : Hook := kHook K as as_eq
def ob (s : SharedT) : hk.α := as.map (HandSHeadRun.getT s)
theorem ob_eq (s : SharedT) : ob s = hk.obs s.abs := List.map_congr_left fun a _ => HandSHeadRun.getT_eq s a
theorem run0 (w : World) : HandSHeadRun.RunEq Rw qv hk ob 9000 names (World.withFollow w "special-get-raises" false) := by
  intro os
  kernel_rfl
theorem run1 (w : World) : HandSHeadRun.RunEq Rw qv hk ob 9000 names (World.withFollow w "special-get-raises" true) := by
  intro os
  kernel_rfl
theorem run : ∀ w : World, HandSHeadRun.RunEq Rw qv hk ob 9000 names w := byRow2 (P := fun w => HandSHeadRun.RunEq Rw qv hk ob 9000 names w) "special-get-raises" run0 run1
end Hd
set_option Elab.async false
set_option linter.all false
set_option maxRecDepth 100000
set_option maxHeartbeats 2000000
namespace Bw
open PySem PySem.Spec PyProof.Rows L2
section
variable {P : Program} {w : World} {K : PySem.W.Frag} {mg : Str → Option Value} {base : Heap}
abbrev s_law_draw : Stmt := topS 135
abbrev n_law_draw : List Str := ["_law_feed_here", "_law_many", "_law_cell", "_law_digit", "_law_mix"]
theorem sc_law_draw : FnScope n_law_draw ["_law_feed_here", "_law_many"] (defScope s_law_draw) := ⟨rfl, rfl, rfl, by decide +kernel, rfl, by decide +kernel, by decide +kernel⟩
def spDraw : Sp := fun vs H Q _ => ∃ (f l : Addr) (n : Int), vs = [.ref f, .int n] ∧ FeedAt H f l ∧ 0 < n ∧ n < 1073741824 ∧ ∀ (v : Int) (H' : Hp), 0 ≤ v → v < n → SameBut f H H' → FeedAt H' f l → Q (.int v) H'
theorem ok_draw {f : Addr} {fd : FuncData} {k : Nat} (F : Fun K "_law_draw" "_law_draw" s_law_draw f fd) (T : Tx mg) : FnOk P w K mg base CX0 (k + 1) f fd ["_law_feed_here", "_law_many"] spDraw := by
  refine F.ok sc_law_draw (fun vs H Q E h => ?_) (fun cdv A outer s H vs Q E hr h => ?_)
  · obtain ⟨f, l, n, rfl, _⟩ := h
    rfl
  · obtain ⟨f, l, r, rfl, ⟨ns, i, n, m, c, nlf, hf, hl, hi, hn, hm, hm2⟩, hr0, hr1, q⟩ := h
    refine ⟨_, (C8.pss_cut (ps_if (PW.pt (pw_and (pt_cmpR op_eq (pe_ix ix_list (pv 0) pe_int (fun _ _ => rfl)) pe_int (nomark _)) (pw_and1 (pt_cmpR op_lt (pe_ix ix_list (pv 0) pe_int (fun _ _ => rfl)) (pe_callB call_len_seq (by rfl) T.len PySem.boot_len (pa_cons (pe_ix ix_list (pv 0) pe_int (fun _ _ => rfl)) pa_nil)) (nomark _)))))
    (pss_cons (ps_set (i := 2) sc_law_draw.nd rfl (.inl rfl) (pe_ix ix_list (pe_ix ix_list (pv 0) pe_int (fun _ _ => rfl)) (pe_ix ix_list (pv 0) pe_int (fun _ _ => rfl)) (fun _ _ => rfl)))
    (pss_cons (ps_asg (pe_op op_add (pe_ix ix_list (pv 0) pe_int (fun _ _ => rfl)) pe_int) (pg_sub (pv 0) pe_int set_list))
    (pss_one (ps_if (pt_cmpR op_ge (pv 2) (pe_op op_pow pe_int pe_int) (nomark _))
      (pss_one (ps_asg (pv 2) (pg_sub (pv 0) pe_int set_list)))
      (pss_one (ps_asg (pe_op op_mod (pe_op op_add (pe_op op_add (pe_op op_mul (pe_ix ix_list (pv 0) pe_int (fun _ _ => rfl)) pe_int) (pe_op op_mul (pe_op op_mod (pv 2) pe_int) pe_int)) pe_int) pe_int) (pg_sub (pv 0) pe_int set_list)))))))
    pss_nil)
  (pss_cons (ps_if (pt_cmpR op_gt (pe_ix ix_list (pv 0) pe_int (fun _ _ => rfl)) pe_int (nomark _))
    (pss_cons (ps_set (i := 3) sc_law_draw.nd rfl (.inl rfl) (pe_op op_mod (pe_ix ix_list (pv 0) pe_int (fun _ _ => rfl)) (pv 1)))
    (pss_cons (ps_asg (pe_op op_fdiv (pe_ix ix_list (pv 0) pe_int (fun _ _ => rfl)) (pv 1)) (pg_sub (pv 0) pe_int set_list))
    (pss_one (ps_ret (pv 3)))))
    pss_nil)
  (pss_cons (ps_asg (pe_op op_add (pe_ix ix_list (pv 0) pe_int (fun _ _ => rfl)) pe_int) (pg_sub (pv 0) pe_int set_list))
  (pss_cons (ps_set (i := 4) sc_law_draw.nd rfl (.inl rfl) (pe_ix ix_list (pv 0) pe_int (fun _ _ => rfl)))
  (pss_cons (ps_set (i := 4) sc_law_draw.nd rfl (.inl rfl) (pe_op op_add (pe_op op_add (pe_op op_add (pe_op op_mul (pe_op op_mod (pe_op op_mul (pv 4) (pv 4)) pe_int) pe_int) (pe_op op_mul (pv 4) pe_int)) (pe_op op_mul pe_int (pe_ix ix_list (pv 0) pe_int (fun _ _ => rfl)))) pe_int))
  (pss_cons (ps_asg (pe_op op_mod (pv 4) pe_int) (pg_sub (pv 0) pe_int set_list))
  (pss_one (ps_ret (pe_op op_mod (pe_op op_add (pe_op op_fdiv (pe_ix ix_list (pv 0) pe_int (fun _ _ => rfl)) pe_int) (pe_op op_mul (pe_op op_mod (pe_ix ix_list (pv 0) pe_int (fun _ _ => rfl)) pe_int) pe_int)) (pv 1)))))))))), ?_⟩
    -- between: a feed of the same list
    refine ⟨fun σ H2 => ∃ (y : Option V) (i : Nat) (n m : Int), σ = [some (.ref f), some (.int r), y, none, none] ∧ SameBut f H H2 ∧ H2 f = some (.lst [.ref l, .int i, .int n, .int m, .int c]) ∧ i ≤ ns.length ∧ 0 ≤ n ∧ 0 ≤ m ∧ m < 2147483647, ?_, ?_⟩
    · refine ⟨.ref f, rfl, f, _, 2, .int n, rfl, rfl, SqL.of hf, rfl, rfl, _, rfl, ite2 (fun e => ?_) (fun e => iteF ?_)⟩
      · refine ⟨.ref f, rfl, f, _, 1, .int i, rfl, rfl, SqL.of hf, rfl, .ref f, rfl, f, _, 0, .ref l, rfl, rfl, SqL.of hf, rfl, l, _, rfl, .inl (SqL.of hl), _, _, rfl, rfl, _, rfl, ite2 (fun e => ?_) (fun e => ?_)⟩
        · have hlt : i < ns.length := by
            have := of_decide_eq_true e
            rw [List.length_map] at this
            omega
          have g1 : (ns.map V.int)[i]? = some (.int ns[i]) := by
            rw [List.getElem?_map, List.getElem?_eq_getElem hlt]
            rfl
          generalize ns[i] = u at g1
          -- cell = feed[0][feed[1]]; feed[1] = feed[1] + 1
          refine ⟨.ref f, rfl, f, _, 0, .ref l, rfl, rfl, SqL.of hf, rfl, .ref f, rfl, f, _, 1, .int i, rfl, rfl, SqL.of hf, rfl, l, _, i, .int u, rfl, rfl, SqL.of hl, atI_nat g1, ?_⟩
          refine ⟨.ref f, rfl, f, _, 1, .int i, rfl, rfl, SqL.of hf, rfl, _, _, rfl, rfl, .ref f, rfl, f, _, 1, 1, rfl, rfl, hf, rfl, ?_⟩
          -- if cell >= 10 ** 18
          refine ⟨.int u, rfl, _, _, rfl, rfl, ⟨by decide, by decide, by decide⟩, _, _, rfl, rfl, _, rfl, ite2 (fun e => ?_) (fun e => ?_)⟩
          · have h0 : 0 ≤ u := Int.le_trans (by decide : (0 : Int) ≤ 10 ^ Int.toNat 18) (of_decide_eq_true e)
            refine ⟨.int u, rfl, .ref f, rfl, f, _, 2, 2, rfl, rfl, upd_same, rfl, ?_⟩
            exact ⟨_, i + 1, u, m, rfl, SameBut.upd (SameBut.upd (.refl _ _)), upd_same, hlt, h0, hm, hm2⟩
          · refine ⟨.ref f, rfl, f, _, 3, .int m, rfl, rfl, SqL.of upd_same, rfl, _, _, rfl, rfl, .inl ⟨by omega, by omega⟩, .int u, rfl, _, _, rfl, rfl, (by show (0 : Int) < 1000000007; decide), _, _, rfl, rfl, .inr ⟨by decide, by decide⟩, _, _, rfl, rfl, _, _, rfl, rfl, _, _, rfl, rfl, (by show (0 : Int) < 2147483647; decide), ?_⟩
            refine ⟨.ref f, rfl, f, _, 3, 3, rfl, rfl, upd_same, rfl, ?_⟩
            exact ⟨_, i + 1, n, _, rfl, SameBut.upd (SameBut.upd (.refl _ _)), upd_same, hlt, hn, Int.emod_nonneg _ (by decide), Int.emod_lt_of_pos _ (by decide)⟩
        · exact ⟨none, i, n, m, rfl, .refl _ _, hf, hi, hn, hm, hm2⟩
      · exact ⟨none, i, n, m, rfl, .refl _ _, hf, hi, hn, hm, hm2⟩
    · rintro σ H2 ⟨y, i, n, m, rfl, sb, hf, hi, hn, hm, hm2⟩
      have hl2 : H2 l = some (.lst (ns.map V.int)) := sb _ _ nlf hl
      -- if feed[2] > 0
      refine ⟨.ref f, rfl, f, _, 2, .int n, rfl, rfl, SqL.of hf, rfl, _, _, rfl, rfl, _, rfl, ite2 (fun e => ?_) (fun e => ?_)⟩
      · refine ⟨.ref f, rfl, f, _, 2, .int n, rfl, rfl, SqL.of hf, rfl, .int r, rfl, _, _, rfl, rfl, hr0, ?_⟩
        refine ⟨.ref f, rfl, f, _, 2, .int n, rfl, rfl, SqL.of hf, rfl, .int r, rfl, _, _, rfl, rfl, ⟨hr0, hr1⟩, .ref f, rfl, f, _, 2, 2, rfl, rfl, hf, rfl, ?_⟩
        refine ⟨_, rfl, q _ _ (Int.emod_nonneg _ (by omega)) (Int.emod_lt_of_pos _ hr0) sb.upd ⟨ns, i, _, m, c, nlf, upd_same, by rw [upd_ne nlf]; exact hl2, hi, Int.ediv_nonneg hn (by omega), hm, hm2⟩⟩
      · -- feed[4] = feed[4] + 1
        refine ⟨.ref f, rfl, f, _, 4, .int c, rfl, rfl, SqL.of hf, rfl, _, _, rfl, rfl, .ref f, rfl, f, _, 4, 4, rfl, rfl, hf, rfl, ?_⟩
        -- mix
        refine ⟨.ref f, rfl, f, _, 3, .int m, rfl, rfl, SqL.of upd_same, rfl, ?_⟩
        refine ⟨.int m, rfl, .int m, rfl, _, _, rfl, rfl, .inl ⟨by omega, by omega⟩, _, _, rfl, rfl, (by show (0 : Int) < 2147483587; decide), _, _, rfl, rfl, .inr ⟨by decide, by decide⟩, .int m, rfl, _, _, rfl, rfl, .inr ⟨by decide, by decide⟩, _, _, rfl, rfl, .ref f, rfl, f, _, 4, _, rfl, rfl, SqL.of upd_same, rfl, _, _, rfl, rfl, .inl ⟨by decide, by decide⟩, _, _, rfl, rfl, _, _, rfl, rfl, ?_⟩
        refine ⟨_, rfl, _, _, rfl, rfl, (by show (0 : Int) < 2147483647; decide), .ref f, rfl, f, _, 3, 3, rfl, rfl, upd_same, rfl, ?_⟩
        have a1 : ∀ z : Int, 0 ≤ z % 2147483647 := fun z => Int.emod_nonneg _ (by decide)
        have a2 : ∀ z : Int, z % 2147483647 < 2147483647 := fun z => Int.emod_lt_of_pos _ (by decide)
        refine ⟨.ref f, rfl, f, _, 3, _, rfl, rfl, SqL.of upd_same, rfl, _, _, rfl, rfl, ⟨by decide, by decide⟩, .ref f, rfl, f, _, 3, _, rfl, rfl, SqL.of upd_same, rfl, _, _, rfl, rfl, (by show (0 : Int) < 4093; decide), _, _, rfl, rfl, .inr ⟨by decide, by decide⟩, _, _, rfl, rfl, .int r, rfl, _, _, rfl, rfl, hr0, ?_⟩
        refine q _ _ (Int.emod_nonneg _ (by omega)) (Int.emod_lt_of_pos _ hr0) (SameBut.upd sb.upd) ⟨ns, i, n, _, _, nlf, upd_same, by rw [upd_ne nlf, upd_ne nlf]; exact hl2, hi, hn, a1 _, a2 _⟩
end
end Bw
set_option Elab.async false
set_option linter.all false
set_option maxRecDepth 100000
set_option maxHeartbeats 2000000
namespace Bw
open PySem PySem.Spec PyProof.Rows L2
section
variable {P : Program} {w : World} {K : PySem.W.Frag} {mg : Str → Option Value} {base : Heap}
/-! ### the feed made -/
abbrev s_law_feed : Stmt := topS 134
abbrev n_law_feed : List Str := ["_law_script"]
theorem sc_law_feed : FnScope n_law_feed ["_law_script"] (defScope s_law_feed) := ⟨rfl, rfl, rfl, by decide +kernel, rfl, by decide +kernel, by decide +kernel⟩
def spFeed (K : PySem.W.Frag) : Sp := fun vs H Q _ => ∃ (a : Addr) (ns : List Int), vs = [.ref a] ∧ SqL K H a (ns.map V.int) ∧ ∀ (f l : Addr) (H' : Hp), Same H H' → H f = none → FeedAt H' f l → Q (.ref f) H'
theorem ok_feed {f : Addr} {fd : FuncData} {k : Nat} (F : Fun K "_law_feed" "_law_feed" s_law_feed f fd) (T : Tx mg) : FnOk P w K mg base CX0 (k + 1) f fd ["_law_script"] (spFeed K) := by
  refine F.ok sc_law_feed (fun vs H Q E h => ?_) (fun cdv A outer s H vs Q E hr h => ?_)
  · obtain ⟨a, ns, rfl, _⟩ := h
    rfl
  · obtain ⟨a, ns, rfl, hS, q⟩ := h
    refine ⟨_, (pss_one (ps_ret (pe_lst (pa_cons (pe_callTy call_list_of (by rfl) T.list (by decide +kernel) (pa_cons (pe_slice sl_list (pv 0) po_none (po_some pe_int)) pa_nil)) (pa_cons pe_int (pa_cons pe_int (pa_cons pe_int (pa_cons pe_int pa_nil)))))))), ?_⟩
    refine ⟨.ref a, rfl, 63, rfl, a, _, rfl, hS, fun c nc => ?_⟩
    refine ⟨c, _, rfl, .inl (SqL.of upd_same), fun l nl => ?_⟩
    refine ⟨by show 5 ≤ sizeLine; decide, fun g ng => ?_⟩
    have s1 : Same H (upd H c (.lst (cutV (ns.map V.int) none (some 63)))) := same_upd nc
    have s2 := s1.trans (same_upd (o := .lst (cutV (ns.map V.int) none (some 63))) nl)
    have s3 := s2.trans (same_upd (o := .lst [.ref l, .int 0, .int 0, .int 9106, .int 0]) ng)
    have nlg : l ≠ g := fun e => by
      rw [← e, upd_same] at ng
      cases ng
    refine q g l _ s3 (s2.free ng) ⟨(ns.drop (HT.sIx (ns.map V.int).length 0 none)).take (HT.sIx (ns.map V.int).length (ns.map V.int).length (some 63) - HT.sIx (ns.map V.int).length 0 none), 0, 0, 9106, 0, nlg, upd_same, ?_, Nat.zero_le _, by decide, by decide, by decide⟩
    rw [upd_ne nlg, upd_same]
    unfold cutV
    rw [List.map_take, List.map_drop]
/-! ### one of a row -/
abbrev s_law_pick : Stmt := topS 136
abbrev n_law_pick : List Str := ["_law_feed_here", "_law_row"]
theorem sc_law_pick : FnScope n_law_pick ["_law_feed_here", "_law_row"] (defScope s_law_pick) := ⟨rfl, rfl, rfl, by decide +kernel, rfl, by decide +kernel, by decide +kernel⟩
def spPick : Sp := fun vs H Q _ => ∃ (f l a : Addr) (xs : List V), vs = [.ref f, .ref a] ∧ FeedAt H f l ∧ H a = some (.lst xs) ∧ a ≠ f ∧ 0 < xs.length ∧ xs.length < 1000 ∧ ∀ (v : V) (H' : Hp), v ∈ xs → SameBut f H H' → FeedAt H' f l → Q v H'
theorem ok_pick {f : Addr} {fd : FuncData} {k j : Nat} (F : Fun K "_law_pick" "_law_pick" s_law_pick f fd) (T : Tx mg) (c_law_draw : Cal P w K mg base CX0 k "_law_draw" ["_law_feed_here", "_law_many"] spDraw) : FnOk P w K mg base CX0 (k + 1) f fd ["_law_feed_here", "_law_row"] spPick := by
  refine F.ok sc_law_pick (fun vs H Q E h => ?_) (fun cdv A outer s H vs Q E hr h => ?_)
  · obtain ⟨f, l, a, xs, rfl, _⟩ := h
    rfl
  · obtain ⟨f, l, a, xs, rfl, hf, ha, naf, h0, h1, q⟩ := h
    refine ⟨_, (pss_one (ps_ret (pe_ix ix_list (pv 1) (pe_cal c_law_draw hr (by rfl) (pa_cons (pv 0) (pa_cons (pe_callB call_len_seq (by rfl) T.len PySem.boot_len (pa_cons (pv 1) pa_nil)) pa_nil))) (fun _ _ => rfl)))), ?_⟩
    refine ⟨.ref a, rfl, .ref f, rfl, .ref a, rfl, a, _, rfl, .inl (SqL.of ha), f, l, _, rfl, hf, by omega, by omega, fun v H' v0 v1 sb hf' => ?_⟩
    obtain ⟨n, rfl⟩ : ∃ n : Nat, v = (n : Int) := ⟨v.toNat, by omega⟩
    have hn : n < xs.length := by omega
    exact ⟨a, xs, _, xs[n], rfl, rfl, SqL.of (sb _ _ naf ha), atI_nat (List.getElem?_eq_getElem hn), q _ _ (List.getElem_mem hn) sb hf'⟩
/-! ### the greatest that goes into both -/
abbrev s_law_gcd : Stmt := topS 138
abbrev n_law_gcd : List Str := ["_law_one", "_law_other"]
theorem sc_law_gcd : FnScope n_law_gcd ["_law_one", "_law_other"] (defScope s_law_gcd) := ⟨rfl, rfl, rfl, by decide +kernel, rfl, by decide +kernel, by decide +kernel⟩
def spGcd : Sp := fun vs H Q _ => ∃ (a b : Nat), vs = [.int a, .int b] ∧ Q (.int (Nat.gcd a b)) H
theorem ok_gcd {f : Addr} {fd : FuncData} {k : Nat} (F : Fun K "_law_gcd" "_law_gcd" s_law_gcd f fd) (T : Tx mg) : FnOk P w K mg base CX0 (k + 1) f fd ["_law_one", "_law_other"] spGcd := by
  refine F.ok sc_law_gcd (fun vs H Q E h => ?_) (fun cdv A outer s H vs Q E hr h => ?_)
  · obtain ⟨a, b, rfl, _⟩ := h
    rfl
  · obtain ⟨a, b, rfl, q⟩ := h
    refine ⟨_, (pss_cons (ps_while PassesOwn.never (pt_truth (pv 1) (by intro _; rfl))
      (pss_one (ps_par (i := 0) (j := 1) (by rfl) sc_law_gcd.nd rfl rfl (by decide) rfl rfl (pa_cons (pv 1) (pa_cons (pe_op op_mod (pv 0) (pv 1)) pa_nil)) (by rfl))))
      (pss_one (ps_ret (pe_callB call_abs (by rfl) T.abs (by decide +kernel) (pa_cons (pv 0) pa_nil))))), ?_⟩
    refine while_by (fun σ H' => ∃ x y : Nat, σ = [some (.int x), some (.int y)] ∧ Nat.gcd x y = Nat.gcd a b ∧ H' = H) (fun σ _ => match σ with | [_, some (.int y)] => y.toNat | _ => 0) ⟨a, b, rfl, rfl, rfl⟩ ?_ ?_
    · rintro σ H' ⟨x, y, rfl, hg, rfl⟩
      refine ⟨.int y, rfl, ((y : Int) != 0), rfl, ?_⟩
      by_cases hy : y = 0
      · subst hy
        refine iteF ⟨_, rfl, _, rfl, ?_⟩
        rw [if_neg (by omega)]
        rw [Nat.gcd_zero_right] at hg
        rw [hg]
        exact q
      · have e : ((y : Int) != 0) = true := by simp [hy]
        rw [e]
        refine iteT ⟨_, rfl, _, rfl, _, rfl, _, _, rfl, rfl, (by show (0 : Int) < (y : Int); omega), _, _, rfl, ?_, ?_⟩
        · refine ⟨y, x % y, rfl, ?_, rfl⟩
          rw [← hg, Nat.gcd_comm y (x % y), ← Nat.gcd_rec y x, Nat.gcd_comm]
        · show ((x : Int) % (y : Int)).toNat < ((y : Int)).toNat
          have h1 := Int.emod_lt_of_pos (x : Int) (show (0 : Int) < (y : Int) by omega)
          have h2 := Int.emod_nonneg (x : Int) (show (y : Int) ≠ 0 by omega)
          omega
    · rintro σ H' Q1 Q2 hq ⟨v, e, k, t, q1⟩
      exact ⟨v, e, k, t, hq _ _ q1⟩
end
end Bw
set_option Elab.async false
set_option linter.all false
set_option maxRecDepth 100000
set_option maxHeartbeats 1000000
namespace Bw
open PySem PySem.Spec PyProof.Rows L2
/-! ### tables, as lists of rows -/
def ent (rows : List (List Int)) (i j : Nat) : Int := (rows.getD i []).getD j 0
structure TabOk (rows : List (List Int)) (n : Nat) : Prop where
  n1 : 1 ≤ n
  n4 : n ≤ 4
  len : n ≤ rows.length
  len4 : rows.length ≤ n + 4
  wide : ∀ r ∈ rows, r.length = n
  tie : ∀ r ∈ rows, ∀ t ∈ r, -50 ≤ t ∧ t ≤ 50
  even : ∃ d : Nat → Int, (∀ i, i < n → 0 < d i) ∧ ∀ i j, i < n → j < n → d i * ent rows i j = -(d j * ent rows j i)
def matRow (n : Nat) (b : Nat → Int) : List Int := (List.range n).map b
def matRows (n : Nat) (B : Nat → Nat → Int) : List (List Int) := (List.range n).map fun i => matRow n (B i)
theorem matRow_len (n : Nat) (b : Nat → Int) : (matRow n b).length = n := by simp [matRow]
theorem matRows_len (n : Nat) (B : Nat → Nat → Int) : (matRows n B).length = n := by simp [matRows]
theorem matRow_get {n : Nat} {b : Nat → Int} {j : Nat} (h : j < n) : (matRow n b)[j]? = some (b j) := by simp [matRow, h]
theorem matRows_get {n : Nat} {B : Nat → Nat → Int} {i : Nat} (h : i < n) : (matRows n B)[i]? = some (matRow n (B i)) := by simp [matRows, h]
theorem matRow_getD {n : Nat} {b : Nat → Int} {j : Nat} (h : j < n) : (matRow n b).getD j 0 = b j := by simp [matRow, h]
theorem matRow_set {n : Nat} {b : Nat → Int} {j : Nat} {v : Int} : (matRow n b).set j v = matRow n (fun k => if k = j then v else b k) := by
  apply List.ext_getElem?
  intro k
  rw [List.getElem?_set]
  by_cases hk : k < n
  · rw [matRow_get hk, matRow_get hk]
    by_cases e : j = k
    · subst e
      simp [matRow_len, hk]
    · rw [if_neg e, if_neg (fun z => e z.symm)]
  · have h1 : (matRow n b)[k]? = none := List.getElem?_eq_none (by rw [matRow_len]; omega)
    have h2 : (matRow n fun k => if k = j then v else b k)[k]? = none := List.getElem?_eq_none (by rw [matRow_len]; omega)
    rw [h1, h2, matRow_len]
    split
    · rw [if_neg (by omega)]
    · rfl
theorem rep_flat (n : Nat) : (List.replicate n [V.int 0]).flatten = (matRow n fun _ => 0).map V.int := by
  apply List.ext_getElem?
  intro k
  have e : (matRow n fun _ => (0 : Int)) = List.replicate n 0 := by
    unfold matRow
    rw [List.map_const', List.length_range]
  rw [e, List.map_replicate, List.flatten_replicate_singleton]
end Bw
set_option Elab.async false
set_option linter.all false
set_option maxRecDepth 100000
set_option maxHeartbeats 2000000
namespace Bw
open PySem PySem.Spec PyProof.Rows L2
/-! ### lists of rows that may still be written -/
def RowsAt (H : Hp) (as : List Addr) (n : Nat) (B : Nat → Nat → Int) : Prop := as.length = n ∧ as.Nodup ∧ ∀ i b, as[i]? = some b → H b = some (.lst ((matRow n (B i)).map V.int))
def TabAt (H : Hp) (a : Addr) (rows : List (List Int)) : Prop := ∃ as : List Addr, H a = some (.tup (as.map V.ref)) ∧ as.length = rows.length ∧ ∀ (i : Nat) (r : List Int), rows[i]? = some r → ∃ b, as[i]? = some b ∧ H b = some (.tup (r.map V.int))
theorem TabAt.same {H H' : Hp} {a : Addr} {rows : List (List Int)} (s : Same H H') (h : TabAt H a rows) : TabAt H' a rows := by
  obtain ⟨as, h1, h2, h3⟩ := h
  exact ⟨as, s _ _ h1, h2, fun i r e => by
    obtain ⟨b, e1, e2⟩ := h3 i r e
    exact ⟨b, e1, s _ _ e2⟩⟩
theorem TabAt.but {H H' : Hp} {f l a : Addr} {rows : List (List Int)} (s : SameBut f H H') (hf : FeedAt H f l) (h : TabAt H a rows) : TabAt H' a rows := by
  obtain ⟨as, h1, h2, h3⟩ := h
  exact ⟨as, s _ _ (hf.tup h1) h1, h2, fun i r e => by
    obtain ⟨b, e1, e2⟩ := h3 i r e
    exact ⟨b, e1, s _ _ (hf.tup e2) e2⟩⟩
def put2 (B : Nat → Nat → Int) (i j : Nat) (v : Int) : Nat → Nat → Int := fun a b => if a = i ∧ b = j then v else B a b
theorem RowsAt.put {H : Hp} {as : List Addr} {n : Nat} {B : Nat → Nat → Int} (h : RowsAt H as n B) {i j : Nat} {b : Addr} (hb : as[i]? = some b) (v : Int) :
    RowsAt (upd H b (.lst (((matRow n (B i)).map V.int).set j (V.int v)))) as n (put2 B i j v) := by
  obtain ⟨h1, h2, h3⟩ := h
  refine ⟨h1, h2, fun k c e => ?_⟩
  by_cases hk : k = i
  · subst hk
    have : c = b := Option.some.inj (e.symm.trans hb)
    subst this
    rw [upd_same, ← List.map_set, matRow_set]
    have z : (fun k_1 => if k_1 = j then v else B k k_1) = put2 B k j v k := by
      funext y
      unfold put2
      by_cases hy : y = j
      · rw [if_pos hy, if_pos ⟨rfl, hy⟩]
      · rw [if_neg hy, if_neg (fun z => hy z.2)]
    rw [z]
  · have ne : c ≠ b := fun z => by
      subst z
      exact hk (nd_ix h2 e hb)
    rw [upd_ne ne, h3 k c e]
    have z : put2 B i j v k = B k := by
      funext y
      unfold put2
      rw [if_neg (fun z => hk z.1)]
    rw [z]
def loadAt (ls : List Int) (i : Nat) : Int := ls.getD i 1
structure Good (n : Nat) (r : Int) (ls : List Int) (B : Nat → Nat → Int) : Prop where
  len : ls.length = n
  load : ∀ x ∈ ls, 1 ≤ x ∧ x ≤ 4
  ev : ∀ i j, i < n → j < n → loadAt ls i * B i j = -(loadAt ls j * B j i)
  bd : ∀ i j, -(4 * r) ≤ B i j ∧ B i j ≤ 4 * r
theorem Good.zero {n : Nat} {r : Int} {ls : List Int} (h1 : ls.length = n) (h2 : ∀ x ∈ ls, 1 ≤ x ∧ x ≤ 4) (h3 : 0 ≤ r) : Good n r ls fun _ _ => 0 :=
  ⟨h1, h2, fun i j _ _ => by rw [Int.mul_zero, Int.mul_zero]; rfl, fun _ _ => ⟨by omega, by omega⟩⟩
theorem loadAt_get {ls : List Int} {i : Nat} {x : Int} (h : ls[i]? = some x) : loadAt ls i = x := by
  unfold loadAt
  rw [List.getD_eq_getElem?_getD, h]
  rfl
theorem mul_bd {t x r : Int} (h1 : -r ≤ t) (h2 : t ≤ r) (h3 : 0 ≤ x) (h4 : x ≤ 4) : -(4 * r) ≤ t * x ∧ t * x ≤ 4 * r := by
  have h0 : 0 ≤ r := by omega
  have a1 : t * x ≤ r * x := Int.mul_le_mul_of_nonneg_right h2 h3
  have a2 : r * x ≤ r * 4 := Int.mul_le_mul_of_nonneg_left h4 h0
  have a3 : -r * x ≤ t * x := Int.mul_le_mul_of_nonneg_right h1 h3
  have a4 : -r * x = -(r * x) := Int.neg_mul ..
  omega
theorem Good.put {n : Nat} {r : Int} {ls : List Int} {B : Nat → Nat → Int} (g : Good n r ls B) {i j : Nat} {x y t : Int} {c : Nat} (hij : i < j) (hi : ls[i]? = some x) (hj : ls[j]? = some y) (hc : 0 < c) (cx : (c : Int) ∣ x) (cy : (c : Int) ∣ y) (h1 : -r ≤ t) (h2 : t ≤ r) :
    Good n r ls (put2 (put2 B i j (t * (y / c))) j i (0 - t * (x / c))) := by
  have hx := g.load x (List.mem_of_getElem? hi)
  have hy := g.load y (List.mem_of_getElem? hj)
  obtain ⟨x', rfl⟩ := cx
  obtain ⟨y', rfl⟩ := cy
  have c0 : (c : Int) ≠ 0 := by omega
  have ex : (c : Int) * x' / c = x' := Int.mul_ediv_cancel_left _ c0
  have ey : (c : Int) * y' / c = y' := Int.mul_ediv_cancel_left _ c0
  rw [ex, ey]
  have x0 : 0 ≤ x' := by
    rcases Int.lt_or_le x' 0 with h | h
    · have := Int.mul_neg_of_pos_of_neg (show (0 : Int) < c by omega) h
      omega
    · exact h
  have y0 : 0 ≤ y' := by
    rcases Int.lt_or_le y' 0 with h | h
    · have := Int.mul_neg_of_pos_of_neg (show (0 : Int) < c by omega) h
      omega
    · exact h
  have x4 : x' ≤ 4 := by
    have : 1 * x' ≤ c * x' := Int.mul_le_mul_of_nonneg_right (by omega) x0
    omega
  have y4 : y' ≤ 4 := by
    have : 1 * y' ≤ c * y' := Int.mul_le_mul_of_nonneg_right (by omega) y0
    omega
  have b1 := mul_bd h1 h2 y0 y4
  have b2 := mul_bd h1 h2 x0 x4
  have key : (c : Int) * x' * (t * y') = -(c * y' * (0 - t * x')) := by
    rw [Int.zero_sub, Int.mul_neg, Int.neg_neg]
    rw [Int.mul_assoc, Int.mul_assoc, Int.mul_left_comm x' t y', Int.mul_left_comm y' t x', Int.mul_comm x' y']
  refine ⟨g.len, g.load, fun a b ha hb => ?_, fun a b => ?_⟩
  · unfold put2
    by_cases e1 : a = j ∧ b = i
    · obtain ⟨rfl, rfl⟩ := e1
      rw [if_pos ⟨rfl, rfl⟩, if_neg (fun z => by omega), if_pos ⟨rfl, rfl⟩, loadAt_get hi, loadAt_get hj]
      omega
    · rw [if_neg e1]
      by_cases e2 : a = i ∧ b = j
      · obtain ⟨rfl, rfl⟩ := e2
        rw [if_pos ⟨rfl, rfl⟩, if_pos ⟨rfl, rfl⟩, loadAt_get hi, loadAt_get hj]
        exact key
      · rw [if_neg e2, if_neg (fun z => e2 ⟨z.2, z.1⟩), if_neg (fun z => e1 ⟨z.2, z.1⟩)]
        exact g.ev a b ha hb
  · unfold put2
    by_cases e1 : a = j ∧ b = i
    · rw [if_pos e1]
      omega
    · rw [if_neg e1]
      by_cases e2 : a = i ∧ b = j
      · rw [if_pos e2]
        omega
      · rw [if_neg e2]
        exact g.bd a b
end Bw
set_option Elab.async false
set_option linter.all false
set_option maxRecDepth 100000
set_option maxHeartbeats 4000000
namespace Bw
open PySem PySem.Spec PyProof.Rows L2
section
variable {P : Program} {w : World} {K : PySem.W.Frag} {mg : Str → Option Value} {base : Heap}
abbrev s_law_even : Stmt := topS 139
abbrev n_law_even : List Str := ["_law_feed_here", "_law_many", "_law_reach", "_law_heavy", "_law_load", "_law_rows", "_law_i", "_law_j", "_law_tie", "_law_by", "_law_k", "_law_row"]
theorem sc_law_even : FnScope n_law_even ["_law_feed_here", "_law_many", "_law_reach"] (defScope s_law_even) := ⟨rfl, rfl, rfl, by decide +kernel, rfl, by decide +kernel, by decide +kernel⟩
def spEven : Sp := fun vs H Q _ => ∃ (f l : Addr) (n : Nat) (r : Int), vs = [.ref f, .int n, .int r] ∧ FeedAt H f l ∧ n ≤ 4 ∧ 1 ≤ r ∧ r ≤ 12 ∧
  ∀ (a : Addr) (ls : List Int) (B : Nat → Nat → Int) (H' : Hp), SameBut f H H' → FeedAt H' f l → TabAt H' a (matRows n B) → Good n r ls B → Q (.ref a) H'
theorem ok_even {f : Addr} {fd : FuncData} {k : Nat} (F : Fun K "_law_even" "_law_even" s_law_even f fd) (T : Tx mg) (c_law_draw : Cal P w K mg base CX0 1 "_law_draw" ["_law_feed_here", "_law_many"] spDraw)
    (c_law_pick : Cal P w K mg base CX0 2 "_law_pick" ["_law_feed_here", "_law_row"] spPick) (c_law_gcd : Cal P w K mg base CX0 1 "_law_gcd" ["_law_one", "_law_other"] spGcd) : FnOk P w K mg base CX0 3 f fd ["_law_feed_here", "_law_many", "_law_reach"] spEven := by
  refine F.ok sc_law_even (fun vs H Q E h => ?_) (fun cdv A outer s H vs Q E hr h => ?_)
  · obtain ⟨f, l, n, r, rfl, _⟩ := h
    rfl
  · obtain ⟨f, l, n, r, rfl, hf, n4, r1, r12, q⟩ := h
    have hr1 := hr.mono (show 1 ≤ 2 by decide)
    refine ⟨_, (pss_cons (ps_set (i := 3) sc_law_even.nd rfl (.inr rfl) (pe_cal c_law_pick hr (by rfl) (pa_cons (pv 0) (pa_cons (pe_lst (pa_cons (pe_lst (pa_cons pe_int pa_nil)) (pa_cons (pe_lst (pa_cons pe_int pa_nil)) (pa_cons (pe_lst (pa_cons pe_int (pa_cons pe_int pa_nil))) (pa_cons (pe_lst (pa_cons pe_int (pa_cons pe_int pa_nil))) (pa_cons (pe_lst (pa_cons pe_int (pa_cons pe_int (pa_cons pe_int pa_nil)))) pa_nil)))))) pa_nil))))
  (pss_cons (ps_setLc (i := 4) (own := [("_law_k", 10)]) (by rfl) sc_law_even.nd rfl rfl (sw_true rfl rfl rfl (by decide +kernel)) (pi_range1 (by rfl) T.range (pa_cons (pv 1) pa_nil)) (blkOk_by (own := [("_law_k", 10)]) (N := n_law_even) (sc := defScope s_law_even) (by decide +kernel)) (fun _ _ _ _ _ => (pg_name (i := 10) sc_law_even.nd rfl (.inl rfl))) (fun _ _ _ _ _ => pts_nil) (fun _ _ _ _ _ => (pe_cal c_law_pick hr (by rfl) (pa_cons (pv 0) (pa_cons (pv 3) pa_nil)))))
  (pss_cons (ps_setLc (i := 5) (own := [("_law_k", 10)]) (by rfl) sc_law_even.nd rfl rfl (sw_true rfl rfl rfl (by decide +kernel)) (pi_range1 (by rfl) T.range (pa_cons (pv 1) pa_nil)) (blkOk_by (own := [("_law_k", 10)]) (N := n_law_even) (sc := defScope s_law_even) (by decide +kernel)) (fun _ _ _ _ _ => (pg_name (i := 10) sc_law_even.nd rfl (.inl rfl))) (fun _ _ _ _ _ => pts_nil) (fun _ _ _ _ _ => (pe_op op_rep (pe_lst (pa_cons pe_int pa_nil)) (pv 1))))
  (pss_cons (ps_for PassesOwn.never rfl (pi_range1 (by rfl) T.range (pa_cons (pv 1) pa_nil)) (pg_name (i := 6) sc_law_even.nd rfl (.inl rfl))
    (pss_one (ps_for PassesOwn.never rfl (pi_range2 (by rfl) T.range (pa_cons (pe_op op_add (pv 6) pe_int) (pa_cons (pv 1) pa_nil))) (pg_name (i := 7) sc_law_even.nd rfl (.inl rfl))
      (pss_cons (ps_set (i := 8) sc_law_even.nd rfl (.inl rfl) (pe_cal c_law_pick hr (by rfl) (pa_cons (pv 0) (pa_cons (pe_lst (pa_cons pe_int (pa_cons pe_int (pa_cons (pe_un un_neg pe_int) (pa_cons pe_int (pa_cons (pe_op op_sub (pe_cal c_law_draw hr1 (by rfl) (pa_cons (pv 0) (pa_cons (pe_op op_add (pe_op op_mul pe_int (pv 2)) pe_int) pa_nil))) (pv 2)) pa_nil)))))) pa_nil))))
      (pss_cons (ps_set (i := 9) sc_law_even.nd rfl (.inl rfl) (pe_cal c_law_gcd hr1 (by rfl) (pa_cons (pe_ix ix_list (pv 4) (pv 6) (fun _ _ => rfl)) (pa_cons (pe_ix ix_list (pv 4) (pv 7) (fun _ _ => rfl)) pa_nil))))
      (pss_cons (ps_asg (pe_op op_mul (pv 8) (pe_op op_fdiv (pe_ix ix_list (pv 4) (pv 7) (fun _ _ => rfl)) (pv 9))) (pg_sub (pe_ix ix_list (pv 5) (pv 6) (fun _ _ => rfl)) (pv 7) set_list))
      (pss_one (ps_asg (pe_op op_sub pe_int (pe_op op_mul (pv 8) (pe_op op_fdiv (pe_ix ix_list (pv 4) (pv 6) (fun _ _ => rfl)) (pv 9)))) (pg_sub (pe_ix ix_list (pv 5) (pv 7) (fun _ _ => rfl)) (pv 6) set_list)))))))))
  (pss_one (ps_ret (pe_callTy (c_tup (K := K)) (by rfl) T.tuple (by decide +kernel) (pa_cons (pe_lc (own := [("_law_row", 11)]) (by rfl) sc_law_even.nd (pi_list (pv 5)) (blkOk_by (own := [("_law_row", 11)]) (N := n_law_even) (sc := defScope s_law_even) (by decide +kernel)) (fun _ _ _ _ _ => (pg_name (i := 11) sc_law_even.nd rfl (.inl rfl))) (fun _ _ _ _ _ => pts_nil) (fun _ _ _ _ _ => (pe_callTy (c_tup (K := K)) (by rfl) T.tuple (by decide +kernel) (pa_cons (pv 11) pa_nil)))) pa_nil)))))))), ?_⟩
    -- heavy = pick(feed, [..])
    refine ⟨.ref f, rfl, by show 1 ≤ sizeLine; decide, fun p1 e1 => ⟨by show 1 ≤ sizeLine; decide, fun p2 e2 => ⟨by show 2 ≤ sizeLine; decide, fun p3 e3 => ⟨by show 2 ≤ sizeLine; decide, fun p4 e4 => ⟨by show 3 ≤ sizeLine; decide, fun p5 e5 => ⟨by show 5 ≤ sizeLine; decide, fun o eo => ?_⟩⟩⟩⟩⟩⟩
    have s1 := same_upd (o := .lst [.int 1]) e1
    have s2 := same_upd (o := .lst [.int 1]) e2
    have s3 := same_upd (o := .lst [.int 1, .int 2]) e3
    have s4 := same_upd (o := .lst [.int 1, .int 3]) e4
    have s5 := same_upd (o := .lst [.int 1, .int 2, .int 4]) e5
    have s6 := same_upd (o := .lst [.ref p1, .ref p2, .ref p3, .ref p4, .ref p5]) eo
    have t5 := s5.trans s6
    have t4 := s4.trans t5
    have t3 := s3.trans t4
    have t2 := s2.trans t3
    have t1 := s1.trans t2
    have o0 : H o = none := s1.free (s2.free (s3.free (s4.free (s5.free eo))))
    refine ⟨f, l, o, _, rfl, hf.same t1, upd_same, hf.ne o0, by show 0 < 5; decide, by show 5 < 1000; decide, fun v H1 hv sb1 hf1 => ?_⟩
    have hv : ∃ (h : Addr) (hs : List Int), v = .ref h ∧ H h = none ∧ H1 h = some (.lst (hs.map V.int)) ∧ 0 < hs.length ∧ hs.length < 1000 ∧ ∀ x ∈ hs, 1 ≤ x ∧ x ≤ 4 := by
      simp only [List.mem_cons, List.not_mem_nil, or_false] at hv
      have p20 : H p2 = none := s1.free e2
      have p30 : H p3 = none := s1.free (s2.free e3)
      have p40 : H p4 = none := s1.free (s2.free (s3.free e4))
      have p50 : H p5 = none := s1.free (s2.free (s3.free (s4.free e5)))
      rcases hv with rfl | rfl | rfl | rfl | rfl
      · exact ⟨p1, [1], rfl, e1, sb1 _ _ (hf.ne e1) (t2 _ _ upd_same), by decide, by decide, by decide⟩
      · exact ⟨p2, [1], rfl, p20, sb1 _ _ (hf.ne p20) (t3 _ _ upd_same), by decide, by decide, by decide⟩
      · exact ⟨p3, [1, 2], rfl, p30, sb1 _ _ (hf.ne p30) (t4 _ _ upd_same), by decide, by decide, by decide⟩
      · exact ⟨p4, [1, 3], rfl, p40, sb1 _ _ (hf.ne p40) (t5 _ _ upd_same), by decide, by decide, by decide⟩
      · exact ⟨p5, [1, 2, 4], rfl, p50, sb1 _ _ (hf.ne p50) (s6 _ _ upd_same), by decide, by decide, by decide⟩
    obtain ⟨h, hs, rfl, h0, hh, hs0, hs1, hs4⟩ := hv
    have sb1 : SameBut f H H1 := (t1.but).trans sb1
    clear hv s1 s2 s3 s4 s5 s6 t1 t2 t3 t4 t5 eo e5 e4 e3 e2 e1
    -- load = [pick(feed, heavy) for k in range(many)]
    refine ⟨.int n, rfl, n, rfl, by omega, by omega, fun L eL => ?_⟩
    have L0 : H L = none := by
      by_cases z : L = f
      · subst z
        exact absurd rfl (hf1.ne eL)
      · cases y : H L with
        | none => rfl
        | some u =>
          rw [sb1 _ _ z y] at eL
          cases eL
    have nLf : L ≠ f := hf1.ne eL
    have nhL : h ≠ L := ne_of_none hh eL
    refine lc_range (fun i H' => ∃ ls : List Int, ls.length = i ∧ (∀ x ∈ ls, 1 ≤ x ∧ x ≤ 4) ∧ H' L = some (.lst (ls.map V.int)) ∧ SameBut f H H' ∧ FeedAt H' f l ∧ H' h = some (.lst (hs.map V.int))) ⟨[], rfl, by simp, upd_same, sb1.updN L0, hf1.put nLf (hf1.ne2 eL), by rw [upd_ne nhL]; exact hh⟩ ?_ ?_
    · rintro i H2 hi ⟨ls, el, hls, eL2, sb2, hf2, hh2⟩
      refine ⟨rfl, ?_⟩
      refine ⟨.ref f, rfl, .ref h, rfl, f, l, h, _, rfl, hf2, hh2, hf.ne h0, by rw [List.length_map]; omega, by rw [List.length_map]; omega, fun v H3 hv sb3 hf3 => ?_⟩
      obtain ⟨x, hx, rfl⟩ := List.mem_map.mp hv
      refine ⟨ls.map V.int, sb3 _ _ nLf eL2, by rw [List.length_map]; exact small1000 (by omega), ls ++ [x], by rw [List.length_append, el]; rfl, ?_, ?_, (sb2.trans sb3).updN L0, hf3.put nLf (hf.ne2 L0), ?_⟩
      · intro y hy
        rcases List.mem_append.mp hy with hy | hy
        · exact hls y hy
        · rw [List.mem_singleton.mp hy]
          exact hs4 x hx
      · rw [upd_same, List.map_append]
        rfl
      · rw [upd_ne nhL]
        exact sb3 _ _ (hf.ne h0) hh2
    · rintro H2 ⟨ls, el, hls, eL2, sb2, hf2, hh2⟩
      -- rows = [[0] * many for k in range(many)]
      refine ⟨.int n, rfl, n, rfl, by omega, by omega, fun R eR => ?_⟩
      have R0 : H R = none := by
        by_cases z : R = f
        · subst z
          exact absurd rfl (hf2.ne eR)
        · cases y : H R with
          | none => rfl
          | some u =>
            rw [sb2 _ _ z y] at eR
            cases eR
      have nRf : R ≠ f := hf2.ne eR
      have nRL : R ≠ L := Ne.symm (ne_of_none eL2 eR)
      refine lc_range (fun i H' => ∃ as : List Addr, as.length = i ∧ as.Nodup ∧ (∀ b ∈ as, H b = none ∧ b ≠ L ∧ b ≠ R ∧ H' b = some (.lst ((matRow n fun _ => 0).map V.int))) ∧ H' R = some (.lst (as.map V.ref)) ∧ SameBut f H H' ∧ FeedAt H' f l ∧ H' L = some (.lst (ls.map V.int))) ⟨[], rfl, List.nodup_nil, by simp, upd_same, sb2.updN R0, hf2.put nRf (hf2.ne2 eR), by rw [upd_ne nRL.symm]; exact eL2⟩ ?_ ?_
      · rintro i H3 hi ⟨as, ea, nd, has, eR3, sb3, hf3, eL3⟩
        refine ⟨rfl, ?_⟩
        refine ⟨by show 1 ≤ sizeLine; decide, fun z ez => ⟨.int n, rfl, z, n, _, rfl, rfl, upd_same, by omega, by omega, ?_, fun b eb => ?_⟩⟩
        · show 1 * ((n : Int)).toNat ≤ sizeLine
          exact Nat.le_of_lt (small1000 (by omega))
        · have sz := same_upd (o := .lst [.int 0]) ez
          have sb := same_upd (o := .lst (List.replicate ((n : Int)).toNat [V.int 0]).flatten) eb
          have b3 : H3 b = none := sz.free eb
          have b0 : H b = none := by
            by_cases z : b = f
            · subst z
              exact absurd rfl (hf3.ne b3)
            · cases y : H b with
              | none => rfl
              | some u =>
                rw [sb3 _ _ z y] at b3
                cases b3
          have nbR : b ≠ R := Ne.symm (ne_of_none eR3 b3)
          have nbL : b ≠ L := Ne.symm (ne_of_none eL3 b3)
          refine ⟨as.map V.ref, sb _ _ (sz _ _ eR3), by rw [List.length_map]; exact small1000 (by omega), as ++ [b], by rw [List.length_append, ea]; rfl, ?_, ?_, ?_, ((sb3.trans (sz.trans sb).but).updN R0), (hf3.same (sz.trans sb)).put nRf (hf.ne2 R0), ?_⟩
          · refine List.nodup_append.mpr ⟨nd, by simp, ?_⟩
            intro u hu v hv e
            rw [List.mem_singleton.mp hv] at e
            subst e
            have := (has _ hu).2.2.2
            rw [b3] at this
            cases this
          · intro u hu
            rcases List.mem_append.mp hu with hu | hu
            · obtain ⟨u0, u1, u2, u3⟩ := has u hu
              exact ⟨u0, u1, u2, by rw [upd_ne u2]; exact sb _ _ (sz _ _ u3)⟩
            · rw [List.mem_singleton.mp hu]
              refine ⟨b0, nbL, nbR, ?_⟩
              rw [upd_ne nbR, upd_same, Int.toNat_natCast, rep_flat]
          · rw [upd_same, List.map_append]
            rfl
          · rw [upd_ne nRL.symm]
            exact sb _ _ (sz _ _ eL3)
      · rintro H3 ⟨as, ea, nd, has, eR3, sb3, hf3, eL3⟩
        have rw0 : RowsAt H3 as n fun _ _ => 0 := ⟨ea, nd, fun i b e => (has b (List.mem_of_getElem? e)).2.2.2⟩
        have hb0 : ∀ b ∈ as, H b = none ∧ b ≠ L ∧ b ≠ R := fun b hb => ⟨(has b hb).1, (has b hb).2.1, (has b hb).2.2.1⟩
        have g0 : Good n r ls fun _ _ => 0 := Good.zero el hls (by omega)
        clear has
        -- the loops
        refine ⟨.int n, rfl, n, rfl, by omega, by omega, for_range (fun i σ H' => ∃ (y6 y7 y8 y9 : Option V) (B : Nat → Nat → Int), σ = [some (.ref f), some (.int n), some (.int r), some (.ref h), some (.ref L), some (.ref R), y6, y7, y8, y9, none, none] ∧ SameBut f H H' ∧ FeedAt H' f l ∧ H' L = some (.lst (ls.map V.int)) ∧ H' R = some (.lst (as.map V.ref)) ∧ RowsAt H' as n B ∧ Good n r ls B)
          ⟨none, none, none, none, _, rfl, sb3, hf3, eL3, eR3, rw0, g0⟩ ?_ ?_⟩
        · rintro i σ H4 hi ⟨y6, y7, y8, y9, B, rfl, sb4, hf4, eL4, eR4, rw4, g4⟩
          have hi : i < n := hi
          refine ⟨_, rfl, _, _, rfl, rfl, _, rfl, _, n, rfl, ⟨by omega, by omega, by omega, by omega⟩, for_range (fun j σ H' => ∃ (y7 y8 y9 : Option V) (B : Nat → Nat → Int), σ = [some (.ref f), some (.int n), some (.int r), some (.ref h), some (.ref L), some (.ref R), some (.int (0 + (i : Int))), y7, y8, y9, none, none] ∧ SameBut f H H' ∧ FeedAt H' f l ∧ H' L = some (.lst (ls.map V.int)) ∧ H' R = some (.lst (as.map V.ref)) ∧ RowsAt H' as n B ∧ Good n r ls B)
            ⟨y7, y8, y9, B, rfl, sb4, hf4, eL4, eR4, rw4, g4⟩ ?_ ?_⟩
          · rintro j σ H5 hj ⟨y7, y8, y9, B, rfl, sb5, hf5, eL5, eR5, rw5, g5⟩
            obtain ⟨J, hJ⟩ : ∃ J : Nat, (0 + (i : Int)) + 1 + (j : Int) = (J : Int) := ⟨i + 1 + j, by omega⟩
            rw [hJ]
            have hij : i < J := by omega
            have hJn : J < n := by omega
            have e0 : (0 : Int) + (i : Int) = (i : Int) := by omega
            rw [e0]
            -- tie = pick(feed, [0, 1, -1, 1, draw(2 * reach + 1) - reach])
            refine ⟨.ref f, rfl, 1, rfl, .ref f, rfl, .int r, rfl, _, _, rfl, rfl, .inl ⟨by decide, by decide⟩, _, _, rfl, rfl, f, l, _, rfl, hf5, by omega, by omega, fun u H6 u0 u1 sb6 hf6 => ?_⟩
            refine ⟨.int r, rfl, _, _, rfl, rfl, by show 5 ≤ sizeLine; decide, fun o eo => ?_⟩
            have so := same_upd (o := .lst [.int 0, .int 1, .int (-1), .int 1, .int (u - r)]) eo
            have nof : o ≠ f := hf6.ne eo
            refine ⟨f, l, o, _, rfl, hf6.same so, upd_same, nof, by show 0 < 5; decide, by show 5 < 1000; decide, fun v H7 hv sb7 hf7 => ?_⟩
            obtain ⟨t, rfl, t1, t2⟩ : ∃ t : Int, v = .int t ∧ -r ≤ t ∧ t ≤ r := by
              simp only [List.mem_cons, List.not_mem_nil, or_false] at hv
              rcases hv with rfl | rfl | rfl | rfl | rfl
              · exact ⟨0, rfl, by omega, by omega⟩
              · exact ⟨1, rfl, by omega, by omega⟩
              · exact ⟨-1, rfl, by omega, by omega⟩
              · exact ⟨1, rfl, by omega, by omega⟩
              · exact ⟨u - r, rfl, by omega, by omega⟩
            have sb57 : SameBut f H5 H7 := (sb6.trans so.but).trans sb7
            have eL7 := sb57 _ _ nLf eL5
            have eR7 := sb57 _ _ nRf eR5
            have rw7 : RowsAt H7 as n B := ⟨rw5.1, rw5.2.1, fun k b e => sb57 _ _ (hf.ne (hb0 b (List.mem_of_getElem? e)).1) (rw5.2.2 k b e)⟩
            have sb7 : SameBut f H H7 := sb5.trans sb57
            clear sb57 so eo nof sb6 hf6 sb5 hf5
            -- by = gcd(load[i], load[j])
            have il : i < ls.length := by omega
            have jl : J < ls.length := by omega
            obtain ⟨x, hx⟩ : ∃ x, ls[i]? = some x := ⟨_, List.getElem?_eq_getElem il⟩
            obtain ⟨y, hy⟩ : ∃ y, ls[J]? = some y := ⟨_, List.getElem?_eq_getElem jl⟩
            have gx : (ls.map V.int)[i]? = some (.int x) := by rw [List.getElem?_map, hx]; rfl
            have gy : (ls.map V.int)[J]? = some (.int y) := by rw [List.getElem?_map, hy]; rfl
            have x1 := hls x (List.mem_of_getElem? hx)
            have y1 := hls y (List.mem_of_getElem? hy)
            obtain ⟨xn, rfl⟩ : ∃ xn : Nat, x = (xn : Int) := ⟨x.toNat, by omega⟩
            obtain ⟨yn, rfl⟩ : ∃ yn : Nat, y = (yn : Int) := ⟨y.toNat, by omega⟩
            refine ⟨_, rfl, _, rfl, L, _, i, _, rfl, rfl, SqL.of eL7, atI_nat gx, _, rfl, _, rfl, L, _, J, _, rfl, rfl, SqL.of eL7, atI_nat gy, xn, yn, rfl, ?_⟩
            have c0 : 0 < Nat.gcd xn yn := Nat.gcd_pos_of_pos_left _ (by omega)
            have c4 : Nat.gcd xn yn ≤ 4 := Nat.le_trans (Nat.gcd_le_left _ (by omega)) (by omega)
            obtain ⟨bi, hbi⟩ : ∃ b, as[i]? = some b := ⟨_, List.getElem?_eq_getElem (by omega)⟩
            obtain ⟨bj, hbj⟩ : ∃ b, as[J]? = some b := ⟨_, List.getElem?_eq_getElem (by omega)⟩
            have gbi : (as.map V.ref)[i]? = some (.ref bi) := by rw [List.getElem?_map, hbi]; rfl
            have gbj : (as.map V.ref)[J]? = some (.ref bj) := by rw [List.getElem?_map, hbj]; rfl
            obtain ⟨bi0, biL, biR⟩ := hb0 bi (List.mem_of_getElem? hbi)
            obtain ⟨bj0, bjL, bjR⟩ := hb0 bj (List.mem_of_getElem? hbj)
            have gd := Good.put g5 hij hx hy c0 (Int.natCast_dvd_natCast.mpr (Nat.gcd_dvd_left xn yn)) (Int.natCast_dvd_natCast.mpr (Nat.gcd_dvd_right xn yn)) t1 t2
            generalize Nat.gcd xn yn = c at c0 c4 gd
            -- rows[i][j] = tie * (load[j] // by)
            refine ⟨.int t, rfl, _, rfl, _, rfl, L, _, J, _, rfl, rfl, SqL.of eL7, atI_nat gy, .int c, rfl, _, _, rfl, rfl, ⟨by omega, by omega⟩, _, _, rfl, rfl, .inl ⟨by omega, by omega⟩, ?_⟩
            refine ⟨_, rfl, _, rfl, R, _, i, _, rfl, rfl, SqL.of eR7, atI_nat gbi, _, rfl, bi, _, J, J, rfl, rfl, rw7.2.2 i bi hbi, ?_, ?_⟩
            · unfold ixN
              rw [if_pos (by omega), List.length_map, matRow_len, if_pos (by omega), Int.toNat_natCast]
            have rw8 := RowsAt.put rw7 (j := J) hbi (t * ((yn : Int) / (c : Int)))
            have eL8 := (upd_ne (H := H7) (o := .lst (((matRow n (B i)).map V.int).set J (V.int (t * ((yn : Int) / (c : Int)))))) (Ne.symm biL)).trans eL7
            have eR8 := (upd_ne (H := H7) (o := .lst (((matRow n (B i)).map V.int).set J (V.int (t * ((yn : Int) / (c : Int)))))) (Ne.symm biR)).trans eR7
            have sb8 := sb7.updN (o := .lst (((matRow n (B i)).map V.int).set J (V.int (t * ((yn : Int) / (c : Int)))))) bi0
            have hf8 := hf7.put (o := .lst (((matRow n (B i)).map V.int).set J (V.int (t * ((yn : Int) / (c : Int)))))) (hf.ne bi0) (hf.ne2 bi0)
            generalize upd H7 bi (.lst (((matRow n (B i)).map V.int).set J (V.int (t * ((yn : Int) / (c : Int)))))) = H8 at rw8 eL8 eR8 sb8 hf8
            -- rows[j][i] = 0 - tie * (load[i] // by)
            refine ⟨.int t, rfl, _, rfl, _, rfl, L, _, i, _, rfl, rfl, SqL.of eL8, atI_nat gx, .int c, rfl, _, _, rfl, rfl, ⟨by omega, by omega⟩, _, _, rfl, rfl, .inl ⟨by omega, by omega⟩, _, _, rfl, rfl, ?_⟩
            refine ⟨_, rfl, _, rfl, R, _, J, _, rfl, rfl, SqL.of eR8, atI_nat gbj, _, rfl, bj, _, i, i, rfl, rfl, rw8.2.2 J bj hbj, ?_, ?_⟩
            · unfold ixN
              rw [if_pos (by omega), List.length_map, matRow_len, if_pos (by omega), Int.toNat_natCast]
            exact ⟨_, _, _, _, rfl, sb8.updN bj0, hf8.put (hf.ne bj0) (hf.ne2 bj0), (upd_ne (Ne.symm bjL)).trans eL8, (upd_ne (Ne.symm bjR)).trans eR8, RowsAt.put rw8 hbj _, gd⟩
          · rintro σ H5 ⟨y7, y8, y9, B, rfl, rest⟩
            exact ⟨_, y7, y8, y9, B, rfl, rest⟩
        · rintro σ H4 ⟨y6, y7, y8, y9, B, rfl, sb4, hf4, eL4, eR4, rw4, g4⟩
          -- return tuple([tuple(row) for row in rows])
          refine ⟨_, rfl, R, rfl, ⟨_, SqL.of eR4⟩, fun D eD => ?_⟩
          have D0 : H D = none := by
            by_cases z : D = f
            · subst z
              exact absurd rfl (hf4.ne eD)
            · cases y : H D with
              | none => rfl
              | some u =>
                rw [sb4 _ _ z y] at eD
                cases eD
          have sD := same_upd (o := .lst []) eD
          have nDR : R ≠ D := ne_of_none eR4 eD
          refine lc_list (K := K) (a := R) (xs := as.map V.ref) (fun i H' => ∃ ts : List Addr, ts.length = i ∧ (∀ (k : Nat) (b : Addr), ts[k]? = some b → H' b = some (.tup ((matRow n (B k)).map V.int))) ∧ H' D = some (.lst (ts.map V.ref)) ∧ (∀ b o, b ≠ D → H4 b = some o → H' b = some o)) ⟨[], rfl, by simp, upd_same, fun b o nb e => by rw [upd_ne nb]; exact e⟩ (fun i H' _ ⟨ts, _, _, _, k⟩ => SqL.of (k _ _ nDR eR4)) ?_ ?_
          · rintro i v H5 hv ⟨ts, et, hts, eD5, k5⟩
            rw [List.getElem?_map] at hv
            cases ei : as[i]? with
            | none =>
              rw [ei] at hv
              cases hv
            | some b =>
              rw [ei] at hv
              cases hv
              have hb5 : H5 b = some (.lst ((matRow n (B i)).map V.int)) := k5 _ _ (ne_of_none (rw4.2.2 i b ei) eD) (rw4.2.2 i b ei)
              refine ⟨rfl, .ref b, rfl, b, _, rfl, .inl ⟨SqL.of hb5, fun p ep => ?_⟩⟩
              have sp := same_upd (o := .tup ((matRow n (B i)).map V.int)) ep
              have npD : p ≠ D := Ne.symm (ne_of_none eD5 ep)
              refine ⟨ts.map V.ref, sp _ _ eD5, by rw [List.length_map]; exact small1000 (by have := (List.getElem?_eq_some_iff.mp ei).1; omega), ts ++ [p], by rw [List.length_append, et]; rfl, fun k c e => ?_, ?_, fun c o nc e => ?_⟩
              · rw [List.getElem?_append] at e
                split at e
                · have hc := hts k c e
                  have ncD : c ≠ D := ne_of hc eD5 (by intro z; cases z)
                  rw [upd_ne ncD]
                  exact sp _ _ hc
                · next hk =>
                  have : k = i := by
                    have h2 := (List.getElem?_eq_some_iff.mp e).1
                    rw [List.length_singleton] at h2
                    omega
                  subst this
                  have : c = p := by
                    have z : k - ts.length = 0 := by omega
                    rw [z] at e
                    exact (Option.some.inj e).symm
                  subst this
                  rw [upd_ne npD, upd_same]
              · rw [upd_same, List.map_append]
                rfl
              · rw [upd_ne nc]
                exact sp _ _ (k5 _ _ nc e)
          · rintro H5 ⟨ts, et, hts, eD5, k5⟩
            refine ⟨D, _, rfl, .inl ⟨SqL.of eD5, fun a ea => ?_⟩⟩
            have sa := same_upd (o := .tup (ts.map V.ref)) ea
            have sb5 : SameBut f H H5 := fun b o nb e => k5 _ _ (ne_of_none e D0) (sb4 _ _ nb e)
            have hf5 : FeedAt H5 f l := by
              obtain ⟨ns, i, n, m, c, a1, a2, a3, a4⟩ := hf4
              exact ⟨ns, i, n, m, c, a1, k5 _ _ (ne_of_none a2 eD) a2, k5 _ _ (ne_of_none a3 eD) a3, a4⟩
            refine q a ls B _ (sb5.trans sa.but) (hf5.same sa) ⟨ts, upd_same, ?_, fun i r e => ?_⟩ g4
            · rw [matRows_len, et, List.length_map]
              exact rw4.1
            · have hi : i < n := by
                have := (List.getElem?_eq_some_iff.mp e).1
                rw [matRows_len] at this
                exact this
              rw [matRows_get hi] at e
              cases e
              have ht : i < ts.length := by
                rw [et, List.length_map]
                omega
              exact ⟨_, List.getElem?_eq_getElem ht, sa _ _ (hts i _ (List.getElem?_eq_getElem ht))⟩
end
end Bw
set_option Elab.async false
set_option linter.all false
set_option maxRecDepth 100000
set_option maxHeartbeats 4000000
namespace Bw
open PySem PySem.Spec PyProof.Rows L2
theorem SameBut.none {f l a : Addr} {H H1 : Hp} (s : SameBut f H H1) (h : FeedAt H1 f l) (e : H1 a = none) : H a = none := by
  by_cases z : a = f
  · subst z
    exact absurd rfl (h.ne e)
  · cases y : H a with
    | none => rfl
    | some u =>
      rw [s _ _ z y] at e
      cases e
section
variable {P : Program} {w : World} {K : PySem.W.Frag} {mg : Str → Option Value} {base : Heap}
abbrev s_law_roots : Stmt := topS 140
abbrev n_law_roots : List Str := ["_law_feed_here", "_law_ties", "_law_most", "_law_reach", "_law_rows", "_law_k", "_law_one"]
theorem sc_law_roots : FnScope n_law_roots ["_law_feed_here", "_law_ties", "_law_most", "_law_reach"] (defScope s_law_roots) := ⟨rfl, rfl, rfl, by decide +kernel, rfl, by decide +kernel, by decide +kernel⟩
/-- roots for a table of n buds: new rows of n numbers from -r to r -/
def spRoots : Sp := fun vs H Q _ => ∃ (f l a : Addr) (rows : List (List Int)) (n m : Nat) (r : Int), vs = [.ref f, .ref a, .int m, .int r] ∧ FeedAt H f l ∧ TabAt H a rows ∧ 1 ≤ n ∧ n ≤ 4 ∧ rows.length ≤ 8 ∧ 1 ≤ rows.length ∧ (∀ x ∈ rows, x.length = n) ∧ m ≤ 4 ∧ 0 ≤ r ∧ r ≤ 50 ∧
  ∀ (b : Addr) (more : List (List Int)) (H' : Hp), SameBut f H H' → FeedAt H' f l → TabAt H' b (rows ++ more) → more.length ≤ m → (∀ x ∈ more, x.length = n ∧ ∀ t ∈ x, -r ≤ t ∧ t ≤ r) → Q (.ref b) H'
theorem ok_roots {f : Addr} {fd : FuncData} {k : Nat} (F : Fun K "_law_roots" "_law_roots" s_law_roots f fd) (T : Tx mg) (c_law_draw : Cal P w K mg base CX0 1 "_law_draw" ["_law_feed_here", "_law_many"] spDraw) :
    FnOk P w K mg base CX0 2 f fd ["_law_feed_here", "_law_ties", "_law_most", "_law_reach"] spRoots := by
  refine F.ok sc_law_roots (fun vs H Q E h => ?_) (fun cdv A outer s H vs Q E hr h => ?_)
  · obtain ⟨f, l, a, rows, n, m, r, rfl, _⟩ := h
    rfl
  · obtain ⟨f, l, a, rows, n, m, r, rfl, hf, hT, n1, n4, hl8, hl1, hw, m4, r0, r50, q⟩ := h
    refine ⟨_, (pss_cons (ps_set (i := 4) sc_law_roots.nd rfl (.inl rfl) (pe_callTy (c_lst (K := K)) (by rfl) T.list (by decide +kernel) (pa_cons (pv 1) pa_nil)))
  (pss_cons (ps_for PassesOwn.never rfl (pi_range1 (by rfl) T.range (pa_cons (pe_cal c_law_draw hr (by rfl) (pa_cons (pv 0) (pa_cons (pe_op op_add (pv 2) pe_int) pa_nil))) pa_nil)) (pg_name (i := 5) sc_law_roots.nd rfl (.inl rfl))
    (pss_one (ps_expr (pe_bm PySem.F.plainAttrs_list PySem.F.slot_list_append PySem.F.type_list_append mt_append (pv 4) (pa_cons (pe_callTy (c_tup (K := K)) (by rfl) T.tuple (by decide +kernel) (pa_cons (pe_lc (own := [("_law_one", 6)]) (by rfl) sc_law_roots.nd (p_tup (K := K) (pe_ix (i_tup (K := K)) (pv 1) pe_int (fun _ _ => rfl))) (blkOk_by (own := [("_law_one", 6)]) (N := n_law_roots) (sc := defScope s_law_roots) (by decide +kernel)) (fun _ _ _ _ _ => (pg_name (i := 6) sc_law_roots.nd rfl (.inl rfl))) (fun _ _ _ _ _ => pts_nil) (fun _ _ _ _ _ => (pe_op op_sub (pe_cal c_law_draw hr (by rfl) (pa_cons (pv 0) (pa_cons (pe_op op_add (pe_op op_mul pe_int (pv 3)) pe_int) pa_nil))) (pv 3)))) pa_nil)) pa_nil)))))
  (pss_one (ps_ret (pe_callTy (c_tup (K := K)) (by rfl) T.tuple (by decide +kernel) (pa_cons (pv 4) pa_nil)))))), ?_⟩
    obtain ⟨as, ha, hal, has⟩ := id hT
    -- rows = list(ties)
    refine ⟨.ref a, rfl, a, _, rfl, .inr (SqT.of ha), fun R eR => ?_⟩
    have sR := same_upd (o := .lst (as.map V.ref)) eR
    have nRf : R ≠ f := hf.ne eR
    have nRl : R ≠ l := hf.ne2 eR
    -- range(draw(most + 1))
    refine ⟨.ref f, rfl, .int m, rfl, _, _, rfl, rfl, f, l, _, rfl, hf.same sR, by omega, by omega, fun u H1 u0 u1 sb1 hf1 => ?_⟩
    refine ⟨u, rfl, by omega, by omega, ?_⟩
    have hd0 : ∃ r0 b0, rows[0]? = some r0 ∧ as[0]? = some b0 ∧ H b0 = some (.tup (r0.map V.int)) ∧ r0.length = n := by
      have z : 0 < rows.length := by omega
      obtain ⟨b0, e1, e2⟩ := has 0 _ (List.getElem?_eq_getElem z)
      exact ⟨_, b0, List.getElem?_eq_getElem z, e1, e2, hw _ (List.getElem_mem z)⟩
    obtain ⟨r0', b0, er0, eb0, hb0, lr0⟩ := hd0
    refine for_range (fun i σ H' => ∃ (y5 : Option V) (ts : List Addr) (more : List (List Int)), σ = [some (.ref f), some (.ref a), some (.int m), some (.int r), some (.ref R), y5, none] ∧ SameBut f H H' ∧ FeedAt H' f l ∧ H' R = some (.lst ((as ++ ts).map V.ref)) ∧ ts.length = i ∧ more.length = i ∧
      (∀ (k : Nat) (x : List Int), more[k]? = some x → ∃ b, ts[k]? = some b ∧ H' b = some (.tup (x.map V.int))) ∧ (∀ x ∈ more, x.length = n ∧ ∀ t ∈ x, -r ≤ t ∧ t ≤ r)) ?_ ?_ ?_
    · exact ⟨none, [], [], rfl, (sR.but).trans sb1, hf1, by rw [List.append_nil]; exact sb1 _ _ nRf upd_same, rfl, rfl, by simp, by simp⟩
    · rintro i σ H2 hi ⟨y5, ts, more, rfl, sb2, hf2, eR2, lt, lm, hts, hmo⟩
      have ha2 := sb2 _ _ (hf.tup ha) ha
      have hb2 := sb2 _ _ (hf.tup hb0) hb0
      have g0 : (as.map V.ref)[0]? = some (.ref b0) := by rw [List.getElem?_map, eb0]; rfl
      -- rows.append(tuple([..]))
      refine ⟨.ref R, rfl, .inl ⟨rfl, _, SqL.of eR2⟩, .ref a, rfl, a, _, 0, .ref b0, rfl, rfl, SqT.of ha2, atI_nat (j := 0) g0, b0, rfl, ⟨_, SqT.of hb2⟩, fun D eD => ?_⟩
      have D0 : H D = none := sb2.none hf2 eD
      have nDf : D ≠ f := hf2.ne eD
      have nDR : D ≠ R := Ne.symm (ne_of_none eR2 eD)
      refine lc_tup (K := K) (a := b0) (xs := r0'.map V.int) (fun j H' => ∃ x : List Int, x.length = j ∧ (∀ t ∈ x, -r ≤ t ∧ t ≤ r) ∧ H' D = some (.lst (x.map V.int)) ∧ FeedAt H' f l ∧ (∀ b o, b ≠ D → b ≠ f → H2 b = some o → H' b = some o)) ⟨[], rfl, by simp, upd_same, hf2.put nDf (hf2.ne2 eD), fun b o h1 h2 e => by rw [upd_ne h1]; exact e⟩
        (fun j H' _ ⟨x, _, _, _, _, k⟩ => SqT.of (k _ _ (ne_of_none hb2 eD) (hf.tup hb0) hb2)) ?_ ?_
      · rintro j v H3 hv ⟨x, lx, hx, eD3, hf3, k3⟩
        refine ⟨rfl, .ref f, rfl, .int r, rfl, _, _, rfl, rfl, .inl ⟨by decide, by decide⟩, _, _, rfl, rfl, f, l, _, rfl, hf3, by omega, by omega, fun t H4 t0 t1 sb4 hf4 => ?_⟩
        have hj : j < n := by
          have := (List.getElem?_eq_some_iff.mp hv).1
          rw [List.length_map] at this
          omega
        refine ⟨.int r, rfl, _, _, rfl, rfl, x.map V.int, sb4 _ _ nDf eD3, by rw [List.length_map]; exact small1000 (by omega), x ++ [t - r], by rw [List.length_append, lx]; rfl, fun z hz => ?_, ?_, hf4.put nDf (hf.ne2 D0), fun b o h1 h2 e => ?_⟩
        · rcases List.mem_append.mp hz with hz | hz
          · exact hx z hz
          · rw [List.mem_singleton.mp hz]
            omega
        · rw [upd_same, List.map_append]
          rfl
        · rw [upd_ne h1]
          exact sb4 _ _ h2 (k3 _ _ h1 h2 e)
      · rintro H3 ⟨x, lx, hx, eD3, hf3, k3⟩
        rw [List.length_map, lr0] at lx
        refine ⟨D, _, rfl, .inl ⟨SqL.of eD3, fun p ep => ?_⟩⟩
        have sp := same_upd (o := .tup (x.map V.int)) ep
        have eR3 := k3 _ _ (Ne.symm nDR) nRf eR2
        have npR : p ≠ R := Ne.symm (ne_of_none eR3 ep)
        refine ⟨R, _, _, rfl, rfl, sp _ _ eR3, ?_, ?_⟩
        · rw [List.length_map, List.length_append]
          exact small1000 (by omega)
        · refine ⟨_, ts ++ [p], more ++ [x], rfl, ?_, (hf3.same sp).put nRf nRl, ?_, by rw [List.length_append, lt]; rfl, by rw [List.length_append, lm]; rfl, fun k z e => ?_, fun z hz => ?_⟩
          · refine SameBut.updN (fun b o nb e => sp _ _ (k3 _ _ (ne_of_none e D0) nb (sb2 _ _ nb e))) eR
          · rw [upd_same, ← List.append_assoc, List.map_append (l₂ := [p])]
            rfl
          · rw [List.getElem?_append] at e
            split at e
            · next hk =>
              obtain ⟨b, e1, e2⟩ := hts k z e
              refine ⟨b, by rw [List.getElem?_append, if_pos (by omega)]; exact e1, ?_⟩
              have nbR : b ≠ R := ne_of e2 eR2 (by intro z; cases z)
              rw [upd_ne nbR]
              exact sp _ _ (k3 _ _ (ne_of_none e2 eD) (hf2.tup e2) e2)
            · next hk =>
              have h2 := (List.getElem?_eq_some_iff.mp e).1
              rw [List.length_singleton] at h2
              have z0 : k - more.length = 0 := by omega
              rw [z0] at e
              have : x = z := Option.some.inj e
              subst this
              refine ⟨p, ?_, ?_⟩
              · rw [List.getElem?_append, if_neg (by omega)]
                have z1 : k - ts.length = 0 := by omega
                rw [z1]
                rfl
              · rw [upd_ne npR, upd_same]
          · rcases List.mem_append.mp hz with hz | hz
            · exact hmo z hz
            · rw [List.mem_singleton.mp hz]
              exact ⟨lx, hx⟩
    · rintro σ H2 ⟨y5, ts, more, rfl, sb2, hf2, eR2, lt, lm, hts, hmo⟩
      refine ⟨.ref R, rfl, R, _, rfl, .inl ⟨SqL.of eR2, fun p ep => ?_⟩⟩
      have sp := same_upd (o := .tup ((as ++ ts).map V.ref)) ep
      refine q p more _ (sb2.trans sp.but) (hf2.same sp) ⟨as ++ ts, upd_same, by rw [List.length_append, List.length_append, hal, lt, lm], fun i x e => ?_⟩ (by omega) hmo
      rw [List.getElem?_append] at e
      split at e
      · next hk =>
        obtain ⟨b, e1, e2⟩ := has i x e
        exact ⟨b, by rw [List.getElem?_append, if_pos (by omega)]; exact e1, sp _ _ (sb2 _ _ (hf.tup e2) e2)⟩
      · next hk =>
        obtain ⟨b, e1, e2⟩ := hts _ x e
        exact ⟨b, by rw [List.getElem?_append, if_neg (by omega), hal]; exact e1, sp _ _ e2⟩
end
end Bw
set_option Elab.async false
set_option linter.all false
set_option maxRecDepth 100000
set_option maxHeartbeats 4000000
namespace Bw
open PySem PySem.Spec PyProof.Rows L2
theorem ip_mul {X : Cx} : PIp X .Mult (rI CMul fun i j => .int (i * j)) := fun pins s σ H x y v u Q I a b q => iop_mul pins s σ H x y v u Q I a b q
section
variable {P : Program} {w : World} {K : PySem.W.Frag} {mg : Str → Option Value} {base : Heap}
/-! ### is_number -/
abbrev s_is_number : Stmt := topS 19
abbrev n_is_number : List Str := ["thing"]
theorem sc_is_number : FnScope n_is_number ["thing"] (defScope s_is_number) := ⟨rfl, rfl, rfl, by decide +kernel, rfl, by decide +kernel, by decide +kernel⟩
def spIsNum : Sp := fun vs H Q _ => ∃ i : Int, vs = [.int i] ∧ Q (.bl true) H
theorem ok_isnum {f : Addr} {fd : FuncData} {k : Nat} (F : Fun K "is_number" "is_number" s_is_number f fd) (T : Tx mg) : FnOk P w K mg base CX0 (k + 1) f fd ["thing"] spIsNum := by
  refine F.ok sc_is_number (fun vs H Q E h => ?_) (fun cdv A outer s H vs Q E hr h => ?_)
  · obtain ⟨i, rfl, _⟩ := h
    rfl
  · obtain ⟨i, rfl, q⟩ := h
    refine ⟨_, (pss_one (ps_ret (pe_and (pe_callB (c_isi (K := K)) (by rfl) T.isinstance (by decide +kernel) (pa_cons (pv 0) (pa_cons (pe_bltn (v := .ty "int") (by rfl) T.int (by decide +kernel) rfl) pa_nil))) (pe_one (pe_not (pe_callB (c_isi (K := K)) (by rfl) T.isinstance (by decide +kernel) (pa_cons (pv 0) (pa_cons (pe_bltn (v := .ty "bool") (by rfl) T.bool (by decide +kernel) rfl) pa_nil)))))))), ?_⟩
    refine ⟨.int i, rfl, _, _, _, _, true, rfl, .ty "int", .base (.int i), kit_ty (by decide +kernel), true, rfl, ?_⟩
    exact ⟨.int i, rfl, _, _, _, _, false, rfl, .ty "bool", .base (.int i), kit_ty (by decide +kernel), false, rfl, q⟩
/-! ### is_row -/
abbrev s_is_row : Stmt := topS 31
abbrev n_is_row : List Str := ["row", "many", "tie"]
theorem sc_is_row : FnScope n_is_row ["row", "many"] (defScope s_is_row) := ⟨rfl, rfl, rfl, by decide +kernel, rfl, by decide +kernel, by decide +kernel⟩
def spIsRow : Sp := fun vs H Q _ => ∃ (a : Addr) (r : List Int), vs = [.ref a, .int r.length] ∧ H a = some (.tup (r.map V.int)) ∧ r.length ≤ 4 ∧ (∀ t ∈ r, -50 ≤ t ∧ t ≤ 50) ∧ ∀ H', Same H H' → Q (.bl true) H'
theorem all_rep (n : Nat) : (List.replicate n true).all id = true := by
  rw [List.all_eq_true]
  intro x hx
  exact List.eq_of_mem_replicate hx
theorem ok_isrow {f : Addr} {fd : FuncData} (F : Fun K "is_row" "is_row" s_is_row f fd) (T : Tx mg) (c_is_number : Cal P w K mg base CX0 1 "is_number" ["thing"] spIsNum) : FnOk P w K mg base CX0 2 f fd ["row", "many"] spIsRow := by
  refine F.ok sc_is_row (fun vs H Q E h => ?_) (fun cdv A outer s H vs Q E hr h => ?_)
  · obtain ⟨a, r, rfl, _⟩ := h
    rfl
  · obtain ⟨a, r, rfl, ha, l4, hb, q⟩ := h
    refine ⟨_, (pss_cons (ps_if (PW.pt (pw_or (pt_not (pt_val (pe_callB (c_isi (K := K)) (by rfl) T.isinstance (by decide +kernel) (pa_cons (pv 0) (pa_cons (pe_bltn (v := .ty "tuple") (by rfl) T.tuple (by decide +kernel) rfl) pa_nil))))) (pw_or1 (pt_cmpR op_ne (pe_callB (c_len (K := K)) (by rfl) T.len PySem.boot_len (pa_cons (pv 0) pa_nil)) (pv 1) (nomark _)))))
    (pss_one (ps_ret pe_bl))
    pss_nil)
  (pss_one (ps_ret (pe_callB (c_all (K := K) rfl) (by rfl) T.all (by decide +kernel) (pa_cons (pe_lc (own := [("tie", 2)]) (by rfl) sc_is_row.nd (p_tup (K := K) (pv 0)) (blkOk_by (own := [("tie", 2)]) (N := n_is_row) (sc := defScope s_is_row) (by decide +kernel)) (fun _ _ _ _ _ => (pg_name (i := 2) sc_is_row.nd rfl (.inl rfl))) (fun _ _ _ _ _ => pts_nil) (fun _ _ _ _ _ => (pe_and (pe_cal c_is_number hr (by rfl) (pa_cons (pv 2) pa_nil)) (pe_one (pe_cmpR op_le (pe_callB call_abs (by rfl) T.abs (by decide +kernel) (pa_cons (pv 2) pa_nil)) (pe_gint (by rfl) T.MOST_TIE) (nomark _)))))) pa_nil))))), ?_⟩
    refine ⟨.ref a, rfl, _, _, _, _, true, rfl, .ty "tuple", .base (.tup ha), kit_ty (by decide +kernel), true, rfl, ?_⟩
    refine iteF ⟨.ref a, rfl, a, _, rfl, .inr (SqT.of ha), .int r.length, rfl, rfl, _, rfl, ?_⟩
    rw [List.length_map]
    refine iteNS rfl ?_
    -- all([..])
    refine ⟨.ref a, rfl, a, rfl, ⟨_, SqT.of ha⟩, fun D eD => ?_⟩
    have naD : a ≠ D := ne_of_none ha eD
    refine lc_tup (K := K) (a := a) (xs := r.map V.int) (fun j H' => H' D = some (.lst ((List.replicate j true).map V.bl)) ∧ ∀ b o, b ≠ D → H b = some o → H' b = some o) ⟨upd_same, fun b o n e => by rw [upd_ne n]; exact e⟩ (fun j H' _ ⟨_, k⟩ => SqT.of (k _ _ naD ha)) ?_ ?_
    · rintro j v H1 hv ⟨e1, k1⟩
      obtain ⟨t, ht, rfl⟩ := int_at hv
      have hj : j < r.length := (List.getElem?_eq_some_iff.mp ht).1
      have hbt := hb t (List.mem_of_getElem? ht)
      refine ⟨rfl, .int t, rfl, t, rfl, true, rfl, ?_⟩
      refine ⟨.int t, rfl, t, rfl, _, _, rfl, rfl, _, e1, by rw [List.length_map, List.length_replicate]; exact small1000 (by omega), ?_, fun b o n e => ?_⟩
      · have ed : decide ((if t < 0 then -t else t) ≤ 50) = true := decide_eq_true (by split <;> omega)
        rw [upd_same]
        show some (HO.lst (_ ++ [V.bl (decide ((if t < 0 then -t else t) ≤ 50))])) = _
        rw [ed, List.replicate_succ', List.map_append]
        rfl
      · rw [upd_ne n]
        exact k1 _ _ n e
    · rintro H1 ⟨e1, k1⟩
      refine ⟨D, _, rfl, SqL.of e1, ?_⟩
      rw [all_rep]
      exact q _ fun b o e => k1 _ _ (ne_of_none e eD) e
/-! ### bud_count -/
abbrev s_bud_count : Stmt := topS 36
abbrev n_bud_count : List Str := ["table"]
theorem sc_bud_count : FnScope n_bud_count ["table"] (defScope s_bud_count) := ⟨rfl, rfl, rfl, by decide +kernel, rfl, by decide +kernel, by decide +kernel⟩
/-- a table's row, tracked -/
theorem TabAt.row {H : Hp} {a : Addr} {rows : List (List Int)} (h : TabAt H a rows) {i : Nat} (hi : i < rows.length) : ∃ (as : List Addr) (b : Addr), H a = some (.tup (as.map V.ref)) ∧ (as.map V.ref)[i]? = some (.ref b) ∧ H b = some (.tup ((rows.getD i []).map V.int)) := by
  obtain ⟨as, h1, h2, h3⟩ := h
  obtain ⟨b, e1, e2⟩ := h3 i _ (List.getElem?_eq_getElem hi)
  refine ⟨as, b, h1, by rw [List.getElem?_map, e1]; rfl, ?_⟩
  rw [List.getD_eq_getElem?_getD, List.getElem?_eq_getElem hi]
  exact e2
theorem row_len {rows : List (List Int)} {n i : Nat} (w : ∀ r ∈ rows, r.length = n) (hi : i < rows.length) : (rows.getD i []).length = n := by
  rw [List.getD_eq_getElem?_getD, List.getElem?_eq_getElem hi]
  exact w _ (List.getElem_mem hi)
def spBuds : Sp := fun vs H Q _ => ∃ (a : Addr) (rows : List (List Int)) (n : Nat), vs = [.ref a] ∧ TabAt H a rows ∧ 0 < rows.length ∧ (∀ r ∈ rows, r.length = n) ∧ Q (.int n) H
theorem ok_buds {f : Addr} {fd : FuncData} {k : Nat} (F : Fun K "bud_count" "bud_count" s_bud_count f fd) (T : Tx mg) : FnOk P w K mg base CX0 (k + 1) f fd ["table"] spBuds := by
  refine F.ok sc_bud_count (fun vs H Q E h => ?_) (fun cdv A outer s H vs Q E hr h => ?_)
  · obtain ⟨a, rows, n, rfl, _⟩ := h
    rfl
  · obtain ⟨a, rows, n, rfl, hT, h0, hw, q⟩ := h
    refine ⟨_, (pss_one (ps_ret (pe_callB (c_len (K := K)) (by rfl) T.len PySem.boot_len (pa_cons (pe_ix (i_tup (K := K)) (pv 0) pe_int (fun _ _ => rfl)) pa_nil)))), ?_⟩
    obtain ⟨as, b, e1, e2, e3⟩ := hT.row h0
    refine ⟨.ref a, rfl, a, _, 0, .ref b, rfl, rfl, SqT.of e1, atI_nat (j := 0) e2, b, _, rfl, .inr (SqT.of e3), ?_⟩
    rw [List.length_map, row_len hw h0]
    exact q
/-! ### pair_bars -/
abbrev s_pair_bars : Stmt := topS 38
abbrev n_pair_bars : List Str := ["table", "i", "j", "one", "other"]
theorem sc_pair_bars : FnScope n_pair_bars ["table", "i", "j"] (defScope s_pair_bars) := ⟨rfl, rfl, rfl, by decide +kernel, rfl, by decide +kernel, by decide +kernel⟩
def spPair : Sp := fun vs H Q _ => ∃ (a : Addr) (rows : List (List Int)) (n i j : Nat), vs = [.ref a, .int i, .int j] ∧ TabAt H a rows ∧ TabOk rows n ∧ i < n ∧ j < n ∧ Q (.bl false) H
theorem ent_get {rows : List (List Int)} {n i j : Nat} (w : ∀ r ∈ rows, r.length = n) (hi : i < rows.length) (hj : j < n) : ((rows.getD i []).map V.int)[j]? = some (.int (ent rows i j)) := by
  have h := row_len w hi
  unfold ent
  have hj2 : j < (rows.getD i []).length := by omega
  rw [List.getElem?_map, List.getElem?_eq_getElem hj2, List.getD_eq_getElem?_getD (i := j), List.getElem?_eq_getElem hj2]
  rfl
theorem ent_bd {rows : List (List Int)} {n i j : Nat} (O : TabOk rows n) (hi : i < rows.length) (hj : j < n) : -50 ≤ ent rows i j ∧ ent rows i j ≤ 50 := by
  have h := row_len O.wide hi
  have hj2 : j < (rows.getD i []).length := by omega
  have e : ent rows i j = (rows.getD i [])[j] := by
    unfold ent
    rw [List.getD_eq_getElem?_getD (i := j), List.getElem?_eq_getElem hj2]
    rfl
  rw [e]
  refine O.tie (rows.getD i []) ?_ _ (List.getElem_mem hj2)
  rw [List.getD_eq_getElem?_getD, List.getElem?_eq_getElem hi]
  exact List.getElem_mem hi
theorem pair_math {x y c d : Int} (hc : 0 < c) (hd : 0 < d) (e : c * x = -(d * y)) : (x = 0 ∧ y = 0) ∨ x * y < 0 := by
  rcases Int.lt_trichotomy x 0 with hx | hx | hx
  · right
    have h1 : c * x < 0 := Int.mul_neg_of_pos_of_neg hc hx
    have h2 : 0 < y := by
      rcases Int.lt_or_le 0 y with h | h
      · exact h
      · have := Int.mul_nonpos_of_nonneg_of_nonpos (Int.le_of_lt hd) h
        omega
    exact Int.mul_neg_of_neg_of_pos hx h2
  · left
    subst hx
    rw [Int.mul_zero] at e
    refine ⟨rfl, ?_⟩
    have : d * y = 0 := by omega
    rcases Int.mul_eq_zero.mp this with h | h
    · omega
    · exact h
  · right
    have h1 : 0 < c * x := Int.mul_pos hc hx
    have h2 : y < 0 := by
      rcases Int.lt_or_le y 0 with h | h
      · exact h
      · have := Int.mul_nonneg (Int.le_of_lt hd) h
        omega
    exact Int.mul_neg_of_pos_of_neg hx h2
theorem ok_pair {f : Addr} {fd : FuncData} {k : Nat} (F : Fun K "pair_bars" "pair_bars" s_pair_bars f fd) (T : Tx mg) : FnOk P w K mg base CX0 (k + 1) f fd ["table", "i", "j"] spPair := by
  refine F.ok sc_pair_bars (fun vs H Q E h => ?_) (fun cdv A outer s H vs Q E hr h => ?_)
  · obtain ⟨a, rows, n, i, j, rfl, _⟩ := h
    rfl
  · obtain ⟨a, rows, n, i, j, rfl, hT, O, hi, hj, q⟩ := h
    refine ⟨_, (pss_cons (ps_set (i := 3) sc_pair_bars.nd rfl (.inl rfl) (pe_ix (i_tup (K := K)) (pe_ix (i_tup (K := K)) (pv 0) (pv 1) (fun _ _ => rfl)) (pv 2) (fun _ _ => rfl)))
  (pss_cons (ps_set (i := 4) sc_pair_bars.nd rfl (.inl rfl) (pe_ix (i_tup (K := K)) (pe_ix (i_tup (K := K)) (pv 0) (pv 2) (fun _ _ => rfl)) (pv 1) (fun _ _ => rfl)))
  (pss_one (ps_ret (pe_and (pe_not (pe_and (pe_cmpR op_eq (pv 3) pe_int (nomark _)) (pe_one (pe_cmpR op_eq (pv 4) pe_int (nomark _))))) (pe_one (pe_cmpR op_ge (pe_op op_mul (pv 3) (pv 4)) pe_int (nomark _)))))))), ?_⟩
    have hl := O.len
    have hi2 : i < rows.length := by omega
    have hj2 : j < rows.length := by omega
    obtain ⟨as, bi, e1, e2, e3⟩ := hT.row hi2
    obtain ⟨as', bj, e1', e2', e3'⟩ := hT.row hj2
    obtain ⟨d, d0, dv⟩ := O.even
    have key := pair_math (d0 i hi) (d0 j hj) (dv i j hi hj)
    have bd := ent_bd O hi2 hj
    refine ⟨.ref a, rfl, .int i, rfl, a, _, i, .ref bi, rfl, rfl, SqT.of e1, atI_nat e2, .int j, rfl, bi, _, j, _, rfl, rfl, SqT.of e3, atI_nat (ent_get O.wide hi2 hj), ?_⟩
    refine ⟨.ref a, rfl, .int j, rfl, a, _, j, .ref bj, rfl, rfl, SqT.of e1', atI_nat e2', .int i, rfl, bj, _, i, _, rfl, rfl, SqT.of e3', atI_nat (ent_get O.wide hj2 hi), ?_⟩
    generalize ent rows i j = x at key bd
    generalize ent rows j i = y at key
    refine ⟨.int x, rfl, rfl, _, rfl, ?_⟩
    rcases key with ⟨rfl, rfl⟩ | key
    · exact ⟨.int 0, rfl, rfl, true, rfl, false, rfl, q⟩
    · refine ite2 (fun e => ?_) (fun e => ?_)
      · have : x = 0 := V.int.inj (of_decide_eq_true e)
        subst this
        omega
      · refine ⟨false, rfl, true, rfl, .int x, rfl, .int y, rfl, x, y, rfl, rfl, .inl ⟨by omega, by omega⟩, _, _, rfl, rfl, ?_⟩
        have z : decide (x * y ≥ 0) = false := decide_eq_false (by omega)
        show Q (V.bl (decide (x * y ≥ 0))) H
        rw [z]
        exact q
end
end Bw
set_option Elab.async false
set_option linter.all false
set_option maxRecDepth 100000
set_option maxHeartbeats 4000000
namespace Bw
open PySem PySem.Spec PyProof.Rows L2
/-! ### walks whose turn is any reading -/
theorem it_list {K : PySem.W.Frag} {a : Addr} {xs : List V} {H1 : Hp} {Qd : Hp → Prop} {Body : V → Hp → (Hp → Prop) → Prop} (Pv : Nat → Hp → Prop) (h0 : Pv 0 H1) (hl : ∀ i H, i ≤ xs.length → Pv i H → SqL K H a xs)
    (hs : ∀ i x H, xs[i]? = some x → Pv i H → Body x H (Pv (i + 1))) (hd : ∀ H, Pv xs.length H → Qd H) :
    ∃ W : Nat → Nat → Hp → Prop, (∃ m, W 0 m H1) ∧ ∀ i m H, W i m H → ((Itl K a).stop i H ∧ Qd H) ∨ ((Itl K a).go i H ∧ ∃ Nx : Hp → Prop, (∀ H', Nx H' → ∃ m', m' < m ∧ W (i + 1) m' H') ∧ ∀ x H', (Itl K a).yld i H x H' → Body x H' Nx) := by
  refine ⟨fun i m H => m = xs.length - i ∧ i ≤ xs.length ∧ Pv i H, ⟨xs.length, by simp, Nat.zero_le _, h0⟩, ?_⟩
  rintro i m H ⟨rfl, hi, p⟩
  have q := hl i H hi p
  by_cases hlt : i < xs.length
  · refine .inr ⟨⟨xs, xs[i], q, by simp [hlt]⟩, Pv (i + 1), fun H' p' => ⟨xs.length - (i + 1), by omega, rfl, hlt, p'⟩, fun x H' y => ?_⟩
    obtain ⟨e, y⟩ := y
    subst e
    exact hs i x _ (y _ q) p
  · exact .inl ⟨⟨xs, q, by omega⟩, hd H (by
      have : i = xs.length := by omega
      rw [this] at p
      exact p)⟩
theorem it_range {lo : Int} {n : Nat} {H1 : Hp} {Qd : Hp → Prop} {Body : V → Hp → (Hp → Prop) → Prop} (Pv : Nat → Hp → Prop) (h0 : Pv 0 H1) (hs : ∀ i H, i < n → Pv i H → Body (.int (lo + i)) H (Pv (i + 1))) (hd : ∀ H, Pv n H → Qd H) :
    ∃ W : Nat → Nat → Hp → Prop, (∃ m, W 0 m H1) ∧ ∀ i m H, W i m H → ((Itr lo n).stop i H ∧ Qd H) ∨ ((Itr lo n).go i H ∧ ∃ Nx : Hp → Prop, (∀ H', Nx H' → ∃ m', m' < m ∧ W (i + 1) m' H') ∧ ∀ x H', (Itr lo n).yld i H x H' → Body x H' Nx) := by
  refine ⟨fun i m H => m = n - i ∧ i ≤ n ∧ Pv i H, ⟨n, by simp, Nat.zero_le _, h0⟩, ?_⟩
  rintro i m H ⟨rfl, hi, p⟩
  by_cases hlt : i < n
  · refine .inr ⟨hlt, Pv (i + 1), fun H' p' => ⟨n - (i + 1), by omega, rfl, hlt, p'⟩, fun x H' y => ?_⟩
    obtain ⟨e, y⟩ := y
    subst e y
    exact hs i _ hlt p
  · exact .inl ⟨(by show n ≤ i; omega), hd H (by
      have : i = n := by omega
      rw [this] at p
      exact p)⟩
section
variable {P : Program} {w : World} {K : PySem.W.Frag} {mg : Str → Option Value} {base : Heap}
/-! ### check_form -/
abbrev s_check_form : Stmt := topS 32
abbrev n_check_form : List Str := ["table", "many", "row"]
theorem sc_check_form : FnScope n_check_form ["table"] (defScope s_check_form) := ⟨rfl, rfl, rfl, by decide +kernel, rfl, by decide +kernel, by decide +kernel⟩
/-- what is asked of a good table -/
def spGood : Sp := fun vs H Q _ => ∃ (a : Addr) (rows : List (List Int)) (n : Nat), vs = [.ref a] ∧ TabAt H a rows ∧ TabOk rows n ∧ ∀ H', Same H H' → Q .non H'
theorem ok_form {f : Addr} {fd : FuncData} (F : Fun K "check_form" "check_form" s_check_form f fd) (T : Tx mg) (c_is_row : Cal P w K mg base CX0 2 "is_row" ["row", "many"] spIsRow) : FnOk P w K mg base CX0 3 f fd ["table"] spGood := by
  refine F.ok sc_check_form (fun vs H Q E h => ?_) (fun cdv A outer s H vs Q E hr h => ?_)
  · obtain ⟨a, rows, n, rfl, _⟩ := h
    rfl
  · obtain ⟨a, rows, n, rfl, hT, O, q⟩ := h
    refine ⟨_, (pss_cons (ps_if (PW.pt (pw_or (pt_not (pt_val (pe_callB (c_isi (K := K)) (by rfl) T.isinstance (by decide +kernel) (pa_cons (pv 0) (pa_cons (pe_bltn (v := .ty "tuple") (by rfl) T.tuple (by decide +kernel) rfl) pa_nil))))) (pw_or (pt_cmpR op_eq (pe_callB (c_len (K := K)) (by rfl) T.len PySem.boot_len (pa_cons (pv 0) pa_nil)) pe_int (nomark _)) (pw_or1 (pt_not (pt_val (pe_callB (c_isi (K := K)) (by rfl) T.isinstance (by decide +kernel) (pa_cons (pe_ix (i_tup (K := K)) (pv 0) pe_int (fun _ _ => rfl)) (pa_cons (pe_bltn (v := .ty "tuple") (by rfl) T.tuple (by decide +kernel) rfl) pa_nil)))))))))
    (pss_one ps_never)
    pss_nil)
  (pss_cons (ps_set (i := 1) sc_check_form.nd rfl (.inr rfl) (pe_callB (c_len (K := K)) (by rfl) T.len PySem.boot_len (pa_cons (pe_ix (i_tup (K := K)) (pv 0) pe_int (fun _ _ => rfl)) pa_nil)))
  (pss_cons (ps_if (PW.pt (pw_or (pt_not (pt_chain op_le op_le pe_int (pv 1) (pe_gint (by rfl) T.MOST_BUDS))) (pw_or1 (pt_not (pt_chain op_le op_le (pv 1) (pe_callB (c_len (K := K)) (by rfl) T.len PySem.boot_len (pa_cons (pv 0) pa_nil)) (pe_op op_add (pv 1) (pe_gint (by rfl) T.MOST_ROOTS)))))))
    (pss_one ps_never)
    pss_nil)
  (pss_one (ps_if (pt_not (pt_val (pe_callB (c_all (K := K) rfl) (by rfl) T.all (by decide +kernel) (pa_cons (pe_lc (own := [("row", 2)]) (by rfl) sc_check_form.nd (p_tup (K := K) (pv 0)) (blkOk_by (own := [("row", 2)]) (N := n_check_form) (sc := defScope s_check_form) (by decide +kernel)) (fun _ _ _ _ _ => (pg_name (i := 2) sc_check_form.nd rfl (.inl rfl))) (fun _ _ _ _ _ => pts_nil) (fun _ _ _ _ _ => (pe_cal c_is_row hr (by rfl) (pa_cons (pv 2) (pa_cons (pv 1) pa_nil))))) pa_nil))))
    (pss_one ps_never)
    pss_nil))))), ?_⟩
    have h1 := O.n1
    have h2 := O.n4
    have h3 := O.len
    have h4 := O.len4
    have l0 : 0 < rows.length := by omega
    obtain ⟨as, ha, hal, has⟩ := id hT
    obtain ⟨b, hb1, hb⟩ := has 0 _ (List.getElem?_eq_getElem l0)
    have hb0 : (as.map V.ref)[0]? = some (.ref b) := by rw [List.getElem?_map, hb1]; rfl
    have hw0 := O.wide _ (List.getElem_mem l0)
    -- the form
    refine ⟨.ref a, rfl, _, _, _, _, true, rfl, .ty "tuple", .base (.tup ha), kit_ty (by decide +kernel), true, rfl, ?_⟩
    refine iteF ⟨.ref a, rfl, a, _, rfl, .inr (SqT.of ha), rfl, _, rfl, ite2 (fun e => ?_) (fun _ => ?_)⟩
    · have := V.int.inj (of_decide_eq_true e)
      rw [List.length_map] at this
      omega
    refine ⟨.ref a, rfl, a, _, 0, .ref b, rfl, rfl, SqT.of ha, atI_nat (j := 0) hb0, _, _, _, _, true, rfl, .ty "tuple", .base (.tup hb), kit_ty (by decide +kernel), true, rfl, iteF ?_⟩
    -- many
    refine ⟨.ref a, rfl, a, _, 0, .ref b, rfl, rfl, SqT.of ha, atI_nat (j := 0) hb0, b, _, rfl, .inr (SqT.of hb), ?_⟩
    rw [List.length_map, hw0]
    refine ⟨.int n, rfl, _, _, rfl, rfl, _, rfl, ite2 (fun _ => ⟨_, _, rfl, rfl, _, rfl, iteNS (show (n : Int) ≤ 4 by omega) ?_⟩) (fun e => absurd (decide_eq_true (show (1 : Int) ≤ n by omega)) e)⟩
    refine ⟨.int n, rfl, .ref a, rfl, a, _, rfl, .inr (SqT.of ha), _, _, rfl, rfl, _, rfl, ?_⟩
    rw [List.length_map, hal]
    refine ite2 (fun _ => ⟨.int n, rfl, _, _, rfl, rfl, _, _, rfl, rfl, _, rfl, iteNS (show (rows.length : Int) ≤ n + 4 by omega) ?_⟩) (fun e => absurd (decide_eq_true (show (n : Int) ≤ rows.length by omega)) e)
    -- all rows
    refine ⟨.ref a, rfl, a, rfl, ⟨_, SqT.of ha⟩, fun D eD => ?_⟩
    have naD : a ≠ D := ne_of_none ha eD
    refine lc_tup (K := K) (a := a) (xs := as.map V.ref) (fun j H' => H' D = some (.lst ((List.replicate j true).map V.bl)) ∧ ∀ b o, b ≠ D → H b = some o → H' b = some o) ⟨upd_same, fun b o n e => by rw [upd_ne n]; exact e⟩ (fun j H' _ ⟨_, k⟩ => SqT.of (k _ _ naD ha)) ?_ ?_
    · rintro j v H1 hv ⟨e1, k1⟩
      rw [List.getElem?_map] at hv
      cases ej : as[j]? with
      | none =>
        rw [ej] at hv
        cases hv
      | some c =>
        rw [ej] at hv
        cases hv
        have hj : j < rows.length := by
          have := (List.getElem?_eq_some_iff.mp ej).1
          omega
        obtain ⟨c', e2, hc⟩ := has j _ (List.getElem?_eq_getElem hj)
        cases (Option.some.inj (ej.symm.trans e2))
        have hw := O.wide _ (List.getElem_mem hj)
        have ht := O.tie _ (List.getElem_mem hj)
        generalize rows[j] = r at hc hw ht
        refine ⟨rfl, .ref c, rfl, .int n, rfl, c, r, by rw [hw]; rfl, k1 _ _ (ne_of_none hc eD) hc, by omega, ht, fun H2 s2 => ?_⟩
        refine ⟨_, s2 _ _ e1, by rw [List.length_map, List.length_replicate]; exact small1000 (by omega), ?_, fun b o n e => ?_⟩
        · rw [upd_same, List.replicate_succ', List.map_append]
          rfl
        · rw [upd_ne n]
          exact s2 _ _ (k1 _ _ n e)
    · rintro H1 ⟨e1, k1⟩
      refine ⟨D, _, rfl, SqL.of e1, true, ?_, iteF (q _ fun b o e => k1 _ _ (ne_of_none e eD) e)⟩
      rw [all_rep]
/-! ### unlike_rows -/
abbrev s_unlike_rows : Stmt := topS 37
abbrev n_unlike_rows : List Str := ["many", "length", "rows", "step", "row", "number"]
theorem sc_unlike_rows : FnScope n_unlike_rows ["many", "length"] (defScope s_unlike_rows) := ⟨rfl, rfl, rfl, by decide +kernel, rfl, by decide +kernel, by decide +kernel⟩
def ringV (g : List Nat) : List V := g.map fun x => V.int (x : Nat)
/-- tuples of so many places -/
def RingsAt (H : Hp) (n m : Nat) (ts : List Addr) : Prop := ∀ t ∈ ts, ∃ g : List Nat, H t = some (.tup (ringV g)) ∧ g.length = m ∧ ∀ x ∈ g, x < n
def spUnlike : Sp := fun vs H Q _ => ∃ (n m : Nat), vs = [.int n, .int m] ∧ n ≤ 4 ∧ m ≤ 4 ∧ ∀ (p : Addr) (ts : List Addr) (H' : Hp), Same H H' → H' p = some (.lst (ts.map V.ref)) → RingsAt H' n m ts → ts.length ≤ 256 → Q (.ref p) H'
theorem pow4 {i : Nat} (h : i ≤ 4) : 4 ^ i ≤ 256 := Nat.pow_le_pow_right (by decide) h
theorem flat_ring (g : List Nat) : (ringV g).all flatV = true := by
  rw [List.all_eq_true]
  intro x hx
  unfold ringV at hx
  obtain ⟨y, _, rfl⟩ := List.mem_map.mp hx
  rfl
theorem ok_unlike {f : Addr} {fd : FuncData} {k : Nat} (F : Fun K "unlike_rows" "unlike_rows" s_unlike_rows f fd) (T : Tx mg) : FnOk P w K mg base CX0 (k + 1) f fd ["many", "length"] spUnlike := by
  refine F.ok sc_unlike_rows (fun vs H Q E h => ?_) (fun cdv A outer s H vs Q E hr h => ?_)
  · obtain ⟨n, m, rfl, _⟩ := h
    rfl
  · obtain ⟨n, m, rfl, n4, m4, q⟩ := h
    refine ⟨_, (pss_cons (ps_set (i := 2) sc_unlike_rows.nd rfl (.inl rfl) (pe_lst (pa_cons (pe_tup pa_nil) pa_nil)))
      (pss_cons (ps_for PassesOwn.never rfl (pi_range1 (by rfl) T.range (pa_cons (pv 1) pa_nil)) (pg_name (i := 3) sc_unlike_rows.nd rfl (.inl rfl))
        (pss_one (ps_setLc2 (i := 2) (own := [("row", 4), ("number", 5)]) (vs1 := [5]) (by rfl) sc_unlike_rows.nd rfl rfl (sw_true rfl rfl rfl (by decide +kernel)) (p_list (K := K) (pv 2)) (blkOk_by (own := [("row", 4), ("number", 5)]) (N := n_unlike_rows) (sc := defScope s_unlike_rows) (by decide +kernel)) (by decide)
          (fun _ _ _ _ _ => (pg_name (i := 4) sc_unlike_rows.nd rfl (.inl rfl))) (fun _ _ _ _ _ => pts_nil) (fun _ _ _ _ _ => (pi_range1 (by rfl) T.range (pa_cons (pv 0) pa_nil))) (fun _ _ _ _ _ => (pg_name (i := 5) sc_unlike_rows.nd rfl (.inl rfl))) (fun _ _ _ _ _ => pts_one (pt_cmpR (o_notin (K := K)) (pv 5) (pv 4) (by rfl)))
          (fun _ _ _ _ _ => (pe_op (o_cat (K := K)) (pv 4) (pe_tup (pa_cons (pv 5) pa_nil)))))))
      (pss_one (ps_ret (pv 2))))), ?_⟩
    -- rows = [()]
    refine ⟨Nat.zero_le _, fun e he => ⟨by show 1 ≤ sizeLine; decide, fun R eR => ?_⟩⟩
    have s1 := same_upd (o := .tup []) he
    have s2 := same_upd (o := .lst [.ref e]) eR
    refine ⟨.int m, rfl, m, rfl, by omega, by omega, for_range (fun i σ H' => ∃ (y3 : Option V) (R : Addr) (ts : List Addr), σ = [some (.int n), some (.int m), some (.ref R), y3, none, none] ∧ Same H H' ∧ H' R = some (.lst (ts.map V.ref)) ∧ RingsAt H' n i ts ∧ ts.length ≤ 4 ^ i)
      ⟨none, R, [e], rfl, s1.trans s2, upd_same, fun t ht => ?_, Nat.le_refl 1⟩ ?_ ?_⟩
    · rw [List.mem_singleton.mp ht]
      exact ⟨[], s2 _ _ upd_same, rfl, by simp⟩
    · rintro i σ H1 hi ⟨y3, R, ts, rfl, sm, eR1, hts, lts⟩
      have hi : i < m := hi
      have l256 : ts.length ≤ 256 := Nat.le_trans lts (pow4 (by omega))
      refine ⟨.ref R, rfl, R, rfl, ⟨_, SqL.of eR1⟩, fun D eD => ?_⟩
      have nRD : R ≠ D := ne_of_none eR1 eD
      refine it_list (K := K) (a := R) (xs := ts.map V.ref) (fun j H' => ∃ us : List Addr, H' D = some (.lst (us.map V.ref)) ∧ RingsAt H' n (i + 1) us ∧ us.length ≤ 4 * j ∧ ∀ b o, b ≠ D → H1 b = some o → H' b = some o)
        ⟨[], upd_same, fun t ht => by simp at ht, by simp, fun b o n e => by rw [upd_ne n]; exact e⟩ (fun j H' _ ⟨us, _, _, _, k⟩ => SqL.of (k _ _ nRD eR1)) ?_ ?_
      · rintro j v H2 hv ⟨us, eD2, hus, lus, k2⟩
        rw [List.getElem?_map] at hv
        cases ej : ts[j]? with
        | none =>
          rw [ej] at hv
          cases hv
        | some t =>
          rw [ej] at hv
          cases hv
          have hjl := (List.getElem?_eq_some_iff.mp ej).1
          obtain ⟨g, hg, lg, gb⟩ := hts t (List.mem_of_getElem? ej)
          refine ⟨rfl, .int n, rfl, n, rfl, by omega, by omega, it_range (fun x H' => ∃ us : List Addr, H' D = some (.lst (us.map V.ref)) ∧ RingsAt H' n (i + 1) us ∧ us.length ≤ 4 * j + x ∧ ∀ b o, b ≠ D → H1 b = some o → H' b = some o) ⟨us, eD2, hus, lus, k2⟩ ?_ ?_⟩
          · rintro x H3 hx ⟨us, eD3, hus, lus, k3⟩
            have hx : x < n := hx
            have e0 : (0 : Int) + (x : Int) = ((x : Nat) : Int) := by omega
            rw [e0]
            have ht3 := k3 _ _ (ne_of_none hg eD) hg
            refine ⟨rfl, .int x, rfl, .ref t, rfl, t, _, rfl, .inr (SqT.of ht3), rfl, flat_ring g, _, rfl, ite2 (fun _ => ?_) (fun _ => ⟨us, eD3, hus, by omega, k3⟩)⟩
            refine ⟨.ref t, rfl, .int x, rfl, by show 1 ≤ sizeLine; decide, fun c ec => ?_⟩
            have sc := same_upd (o := .tup [.int x]) ec
            have done : ∀ (z : Addr) (H4 : Hp), Same H3 H4 → H4 z = some (.tup (ringV (g ++ [x]))) → ∃ acc, H4 D = some (.lst acc) ∧ acc.length < sizeLine ∧ ∃ us : List Addr, (upd H4 D (.lst (acc ++ [.ref z]))) D = some (.lst (us.map V.ref)) ∧ RingsAt (upd H4 D (.lst (acc ++ [.ref z]))) n (i + 1) us ∧ us.length ≤ 4 * j + (x + 1) ∧ ∀ b o, b ≠ D → H1 b = some o → (upd H4 D (.lst (acc ++ [.ref z]))) b = some o := by
              intro z H4 s4 hz
              have eD4 := s4 _ _ eD3
              refine ⟨_, eD4, by rw [List.length_map]; exact Nat.lt_of_le_of_lt (show us.length ≤ 5000 by omega) (by decide), us ++ [z], by rw [upd_same, List.map_append]; rfl, fun t' ht' => ?_, by rw [List.length_append]; show us.length + 1 ≤ _; omega, fun b o nb e => by rw [upd_ne nb]; exact s4 _ _ (k3 _ _ nb e)⟩
              rcases List.mem_append.mp ht' with ht' | ht'
              · obtain ⟨g', a1, a2, a3⟩ := hus t' ht'
                have a4 := s4 _ _ a1
                refine ⟨g', ?_, a2, a3⟩
                rw [upd_ne (ne_of a4 eD4 (by intro z; cases z))]
                exact a4
              · rw [List.mem_singleton.mp ht']
                refine ⟨g ++ [x], ?_, by rw [List.length_append, lg]; rfl, fun y hy => ?_⟩
                · rw [upd_ne (ne_of hz eD4 (by intro z; cases z))]
                  exact hz
                · rcases List.mem_append.mp hy with hy | hy
                  · exact gb y hy
                  · rw [List.mem_singleton.mp hy]
                    exact hx
            refine ⟨t, c, ringV g, [.int x], rfl, rfl, SqT.of (sc _ _ ht3), SqT.of upd_same, ?_, fun z => ?_, fun _ z => (by cases z), fun _ _ p ep => ?_⟩
            · unfold ringV
              rw [List.length_map]
              show g.length + 1 ≤ sizeLine
              exact Nat.le_of_lt (small1000 (by omega))
            · refine done c _ sc ?_
              rw [upd_same]
              unfold ringV at z ⊢
              rw [List.map_append, z]
              rfl
            · refine done p _ (sc.trans (same_upd ep)) ?_
              rw [upd_same]
              unfold ringV
              rw [List.map_append]
              rfl
          · rintro H3 ⟨us, eD3, hus, lus, k3⟩
            have lus : us.length ≤ 4 * j + ((n : Int)).toNat := lus
            exact ⟨us, eD3, hus, by omega, k3⟩
      · rintro H2 ⟨us, eD2, hus, lus, k2⟩
        rw [List.length_map] at lus
        exact ⟨_, D, us, rfl, fun b o e => k2 _ _ (ne_of_none (sm _ _ e) eD) (sm _ _ e), eD2, hus, by rw [Nat.pow_succ]; omega⟩
    · rintro σ H1 ⟨y3, R, ts, rfl, sm, eR1, hts, lts⟩
      exact ⟨.ref R, rfl, q R ts _ sm eR1 hts (Nat.le_trans lts (pow4 m4))⟩
end
end Bw
set_option Elab.async false
set_option linter.all false
set_option maxRecDepth 100000
set_option maxHeartbeats 4000000
namespace Bw
open PySem PySem.Spec PyProof.Rows L2
/-! ### rings of an even table -/
def np (l : List Nat) : Nat := l.foldr (· * ·) 1
def fl (F : Nat × Nat → Int) (zs : List (Nat × Nat)) : Int := zs.foldl (fun p z => p * F z) 1
theorem fl_abs (F : Nat × Nat → Int) : ∀ (zs : List (Nat × Nat)) (c : Int), (zs.foldl (fun p z => p * F z) c).natAbs = c.natAbs * np (zs.map fun z => (F z).natAbs)
  | [], c => (Nat.mul_one _).symm
  | z :: zs, c => by
    show (zs.foldl (fun p z => p * F z) (c * F z)).natAbs = c.natAbs * ((F z).natAbs * np (zs.map fun z => (F z).natAbs))
    rw [fl_abs F zs, Int.natAbs_mul, Nat.mul_assoc]
theorem np_bal (D : Nat → Nat) (F G : Nat × Nat → Nat) : ∀ zs : List (Nat × Nat), (∀ z ∈ zs, D z.1 * F z = D z.2 * G z) → np ((zs.map (·.1)).map D) * np (zs.map F) = np ((zs.map (·.2)).map D) * np (zs.map G)
  | [], _ => rfl
  | z :: zs, h => by
    have h1 := h z (List.mem_cons_self ..)
    have ih := np_bal D F G zs fun y hy => h y (List.mem_cons_of_mem _ hy)
    show (D z.1 * np ((zs.map (·.1)).map D)) * (F z * np (zs.map F)) = (D z.2 * np ((zs.map (·.2)).map D)) * (G z * np (zs.map G))
    rw [Nat.mul_mul_mul_comm, h1, ih, Nat.mul_mul_mul_comm]
theorem np_append (l m : List Nat) : np (l ++ m) = np l * np m := by
  induction l with
  | nil => exact (Nat.one_mul _).symm
  | cons x l ih =>
    show x * np (l ++ m) = x * np l * np m
    rw [ih, Nat.mul_assoc]
theorem np_pos : ∀ l : List Nat, (∀ x ∈ l, 0 < x) → 0 < np l
  | [], _ => Nat.one_pos
  | x :: l, h => Nat.mul_pos (h x (List.mem_cons_self ..)) (np_pos l fun y hy => h y (List.mem_cons_of_mem _ hy))
def rot (g : List Nat) : List Nat := g.drop 1 ++ g.take 1
theorem rot_len (g : List Nat) : (rot g).length = g.length := by
  unfold rot
  rw [List.length_append, List.length_drop, List.length_take]
  omega
theorem rot_mem {g : List Nat} {x : Nat} (h : x ∈ rot g) : x ∈ g := by
  rcases List.mem_append.mp h with h | h
  · exact List.mem_of_mem_drop h
  · exact List.mem_of_mem_take h
theorem np_rot (D : Nat → Nat) (g : List Nat) : np ((rot g).map D) = np (g.map D) := by
  unfold rot
  rw [List.map_append, np_append, Nat.mul_comm, ← np_append, ← List.map_append, List.take_append_drop]
theorem ring_math {rows : List (List Int)} {n : Nat} (O : TabOk rows n) {g : List Nat} (hg : ∀ x ∈ g, x < n) :
    (fl (fun z => ent rows z.1 z.2) (g.zip (rot g))).natAbs = (fl (fun z => ent rows z.2 z.1) (g.zip (rot g))).natAbs := by
  obtain ⟨d, d0, dv⟩ := O.even
  have b := np_bal (fun x => (d x).natAbs) (fun z => (ent rows z.1 z.2).natAbs) (fun z => (ent rows z.2 z.1).natAbs) (g.zip (rot g)) (fun z hz => by
    have h1 := hg _ (List.of_mem_zip hz).1
    have h2 := hg _ (rot_mem (List.of_mem_zip hz).2)
    have e := congrArg Int.natAbs (dv _ _ h1 h2)
    rw [Int.natAbs_neg, Int.natAbs_mul, Int.natAbs_mul] at e
    exact e)
  rw [List.map_fst_zip (by rw [rot_len]; exact Nat.le_refl _), List.map_snd_zip (by rw [rot_len]; exact Nat.le_refl _), np_rot] at b
  have pos : 0 < np (g.map fun x => (d x).natAbs) := np_pos _ fun x hx => by
    obtain ⟨y, hy, rfl⟩ := List.mem_map.mp hx
    have := d0 y (hg y hy)
    omega
  have c := Nat.eq_of_mul_eq_mul_left pos b
  unfold fl
  rw [fl_abs (fun z => ent rows z.1 z.2), fl_abs (fun z => ent rows z.2 z.1), c]
theorem fl_take {F : Nat × Nat → Int} {zs : List (Nat × Nat)} {i : Nat} {z : Nat × Nat} (h : zs[i]? = some z) : fl F (zs.take (i + 1)) = fl F (zs.take i) * F z := by
  unfold fl
  rw [List.take_add_one, h, List.foldl_append]
  rfl
theorem abs_if (x : Int) : (if x < 0 then -x else x) = (x.natAbs : Int) := by
  split <;> omega
section
variable {P : Program} {w : World} {K : PySem.W.Frag} {mg : Str → Option Value} {base : Heap}
abbrev s_ring_bars : Stmt := topS 39
abbrev n_ring_bars : List Str := ["table", "ring", "onward", "back", "i", "j"]
theorem sc_ring_bars : FnScope n_ring_bars ["table", "ring"] (defScope s_ring_bars) := ⟨rfl, rfl, rfl, by decide +kernel, rfl, by decide +kernel, by decide +kernel⟩
def spRing : Sp := fun vs H Q _ => ∃ (a t : Addr) (rows : List (List Int)) (n : Nat) (g : List Nat), vs = [.ref a, .ref t] ∧ TabAt H a rows ∧ TabOk rows n ∧ H t = some (.tup (ringV g)) ∧ 2 ≤ g.length ∧ g.length ≤ 4 ∧ (∀ x ∈ g, x < n) ∧ ∀ H', Same H H' → Q (.bl false) H'
theorem cut_ring1 {g : List Nat} (h : 2 ≤ g.length) : cutV (ringV g) (some 1) none = ringV (g.drop 1) := by
  unfold cutV ringV
  rw [show HT.sIx (g.map fun x => V.int (x : Nat)).length 0 (some 1) = min 1 (g.map fun x => V.int (x : Nat)).length from HT.sIx_nat _ 0 1, HT.sIx_none, List.length_map, Nat.min_eq_left (by omega), List.map_drop, List.take_of_length_le]
  rw [List.length_drop, List.length_map]
  exact Nat.le_refl _
theorem cut_ring2 {g : List Nat} (h : 2 ≤ g.length) : cutV (ringV g) none (some 1) = ringV (g.take 1) := by
  unfold cutV ringV
  rw [show HT.sIx (g.map fun x => V.int (x : Nat)).length (g.map fun x => V.int (x : Nat)).length (some 1) = min 1 (g.map fun x => V.int (x : Nat)).length from HT.sIx_nat _ _ 1, HT.sIx_none, List.length_map, Nat.min_eq_left (by omega), List.map_take, List.drop_zero]
theorem ringV_len (g : List Nat) : (ringV g).length = g.length := by
  unfold ringV
  rw [List.length_map]
theorem ringV_at {g : List Nat} {i : Nat} {y : V} (h : (ringV g)[i]? = some y) : ∃ x, g[i]? = some x ∧ y = .int (x : Nat) := by
  unfold ringV at h
  rw [List.getElem?_map] at h
  cases e : g[i]? with
  | none =>
    rw [e] at h
    cases h
  | some u =>
    rw [e] at h
    exact ⟨u, rfl, (Option.some.inj h).symm⟩
theorem ok_ring {f : Addr} {fd : FuncData} {k : Nat} (F : Fun K "ring_bars" "ring_bars" s_ring_bars f fd) (T : Tx mg) : FnOk P w K mg base CX0 (k + 1) f fd ["table", "ring"] spRing := by
  refine F.ok sc_ring_bars (fun vs H Q E h => ?_) (fun cdv A outer s H vs Q E hr h => ?_)
  · obtain ⟨a, t, rows, n, g, rfl, _⟩ := h
    rfl
  · obtain ⟨a, t, rows, n, g, rfl, hT, O, ht, g2, g4, hg, q⟩ := h
    refine ⟨_, (pss_cons (ps_set (i := 2) sc_ring_bars.nd rfl (.inl rfl) pe_int)
  (pss_cons (ps_set (i := 3) sc_ring_bars.nd rfl (.inl rfl) pe_int)
  (pss_cons (ps_for PassesOwn.never rfl (RZ.pi_zipA (by rfl) T.zip (pa_cons (pv 1) (pa_cons (pe_op (o_cat (K := K)) (pe_slice (l_tup (K := K)) (pv 1) (po_some pe_int) po_none) (pe_slice (l_tup (K := K)) (pv 1) po_none (po_some pe_int))) pa_nil))) (pg_tup rfl (pgs_cons (pg_name (i := 4) sc_ring_bars.nd rfl (.inl rfl)) (pgs_cons (pg_name (i := 5) sc_ring_bars.nd rfl (.inl rfl)) pgs_nil)))
    (pss_cons (ps_aug (i := 2) sc_ring_bars.nd rfl (.inl rfl) (pe_ix (i_tup (K := K)) (pe_ix (i_tup (K := K)) (pv 0) (pv 4) (fun _ _ => rfl)) (pv 5) (fun _ _ => rfl)) ip_mul)
    (pss_one (ps_aug (i := 3) sc_ring_bars.nd rfl (.inl rfl) (pe_ix (i_tup (K := K)) (pe_ix (i_tup (K := K)) (pv 0) (pv 5) (fun _ _ => rfl)) (pv 4) (fun _ _ => rfl)) ip_mul))))
  (pss_one (ps_ret (pe_cmpR op_ne (pe_callB call_abs (by rfl) T.abs (by decide +kernel) (pa_cons (pv 2) pa_nil)) (pe_callB call_abs (by rfl) T.abs (by decide +kernel) (pa_cons (pv 3) pa_nil)) (nomark _))))))), ?_⟩
    -- zip(ring, ring[1:] + ring[:1])
    refine ⟨.ref t, rfl, .ref t, rfl, 1, rfl, t, _, rfl, SqT.of ht, fun z => ?_, fun _ c ec => ?_⟩
    · have z1 := z.1
      rw [show HT.sIx (ringV g).length 0 (some 1) = min 1 (ringV g).length from HT.sIx_nat _ 0 1, ringV_len] at z1
      omega
    have s1 := same_upd (o := .tup (cutV (ringV g) (some 1) none)) ec
    refine ⟨.ref t, rfl, 1, rfl, t, _, rfl, SqT.of (s1 _ _ ht), fun z => ?_, fun _ e ee => ?_⟩
    · have z1 := z.2
      rw [show HT.sIx (ringV g).length (ringV g).length (some 1) = min 1 (ringV g).length from HT.sIx_nat _ _ 1, ringV_len] at z1
      omega
    have s2 := same_upd (o := .tup (cutV (ringV g) none (some 1))) ee
    have hc := s2 _ _ (upd_same (H := H) (a := c) (o := .tup (cutV (ringV g) (some 1) none)))
    have hlc : (cutV (ringV g) (some 1) none).length = g.length - 1 := by rw [cut_ring1 g2, ringV_len, List.length_drop]
    have hle : (cutV (ringV g) none (some 1)).length = 1 := by
      rw [cut_ring2 g2, ringV_len, List.length_take]
      omega
    refine ⟨c, e, _, _, rfl, rfl, SqT.of hc, SqT.of upd_same, ?_, fun z => ?_, fun _ z => ?_, fun _ _ p ep => ?_⟩
    · rw [hlc, hle]
      exact Nat.le_of_lt (small1000 (by omega))
    · rw [z] at hlc
      have : 0 = g.length - 1 := hlc
      omega
    · rw [z] at hle
      cases hle
    have s3 := same_upd (o := .tup (cutV (ringV g) (some 1) none ++ cutV (ringV g) none (some 1))) ep
    have hp : (upd (upd (upd H c (.tup (cutV (ringV g) (some 1) none))) e (.tup (cutV (ringV g) none (some 1)))) p (.tup (cutV (ringV g) (some 1) none ++ cutV (ringV g) none (some 1)))) p = some (.tup (ringV (rot g))) := by
      rw [upd_same, cut_ring1 g2, cut_ring2 g2]
      unfold rot ringV
      rw [List.map_append]
    have s13 := s1.trans (s2.trans s3)
    generalize (upd (upd (upd H c (.tup (cutV (ringV g) (some 1) none))) e (.tup (cutV (ringV g) none (some 1)))) p (.tup (cutV (ringV g) (some 1) none ++ cutV (ringV g) none (some 1)))) = H3 at hp s13
    have ht3 := s13 _ _ ht
    have hT3 := hT.same s13
    refine ⟨t, p, ringV g, ringV (rot g), rfl, .inr ⟨SqT.of ht3, SqT.of hp, RZ.for_zipT (by rw [ringV_len, ringV_len, rot_len]) (fun i σ H' => ∃ y4 y5 : Option V, σ = [some (.ref a), some (.ref t), some (.int (fl (fun z => ent rows z.1 z.2) ((g.zip (rot g)).take i))), some (.int (fl (fun z => ent rows z.2 z.1) ((g.zip (rot g)).take i))), y4, y5] ∧ Same H3 H') ⟨none, none, rfl, .refl _⟩ (fun i σ H' ⟨_, _, _, s⟩ => ⟨SqT.of (s _ _ ht3), SqT.of (s _ _ hp)⟩) ?_ ?_⟩⟩
    · rintro i vx vy Tt σ H4 hx hy ⟨y4, y5, rfl, s4⟩ nT
      obtain ⟨x, ex, rfl⟩ := ringV_at hx
      obtain ⟨y, ey, rfl⟩ := ringV_at hy
      have hxn := hg x (List.mem_of_getElem? ex)
      have hyn := hg y (rot_mem (List.mem_of_getElem? ey))
      have hl := O.len
      have hz : (g.zip (rot g))[i]? = some (x, y) := by
        rw [List.getElem?_zip_eq_some]
        exact ⟨ex, ey⟩
      have s5 := s4.trans (same_upd (o := .tup [.int x, .int y]) nT)
      have hT5 := hT3.same s5
      obtain ⟨as, bx, e1, e2, e3⟩ := hT5.row (show x < rows.length by omega)
      obtain ⟨as', by', e1', e2', e3'⟩ := hT5.row (show y < rows.length by omega)
      have bd1 := ent_bd O (show x < rows.length by omega) hyn
      have bd2 := ent_bd O (show y < rows.length by omega) hxn
      refine ⟨Tt, [.int x, .int y], rfl, SqT.of upd_same, rfl, .int x, [.int y], rfl, .int y, [], rfl, rfl, ?_⟩
      refine ⟨_, rfl, .ref a, rfl, .int x, rfl, a, _, x, .ref bx, rfl, rfl, SqT.of e1, atI_nat e2, .int y, rfl, bx, _, y, _, rfl, rfl, SqT.of e3, atI_nat (ent_get O.wide (by omega) hyn), _, _, rfl, rfl, .inr ⟨by omega, by omega⟩, ?_⟩
      refine ⟨_, rfl, .ref a, rfl, .int y, rfl, a, _, y, .ref by', rfl, rfl, SqT.of e1', atI_nat e2', .int x, rfl, by', _, x, _, rfl, rfl, SqT.of e3', atI_nat (ent_get O.wide (by omega) hxn), _, _, rfl, rfl, .inr ⟨by omega, by omega⟩, ?_⟩
      refine ⟨some (.int x), some (.int y), ?_, s5⟩
      rw [fl_take hz, fl_take hz]
      rfl
    · rintro σ H4 ⟨y4, y5, rfl, s4⟩
      have et : (g.zip (rot g)).take (ringV g).length = g.zip (rot g) := List.take_of_length_le (by rw [ringV_len, List.length_zip]; omega)
      rw [et]
      have m := ring_math O hg
      refine ⟨_, rfl, _, rfl, _, rfl, _, rfl, rfl, ?_⟩
      rw [abs_if, abs_if, m, decide_eq_true rfl]
      exact q _ (s13.trans s4)
/-! ### barred -/
abbrev s_barred : Stmt := topS 40
abbrev n_barred : List Str := ["table", "many", "i", "j", "ring"]
theorem sc_barred : FnScope n_barred ["table"] (defScope s_barred) := ⟨rfl, rfl, rfl, by decide +kernel, rfl, by decide +kernel, by decide +kernel⟩
theorem ok_barred {f : Addr} {fd : FuncData} (F : Fun K "barred" "barred" s_barred f fd) (T : Tx mg) (c_check_form : Cal P w K mg base CX0 3 "check_form" ["table"] spGood) (c_bud_count : Cal P w K mg base CX0 1 "bud_count" ["table"] spBuds)
    (c_pair_bars : Cal P w K mg base CX0 1 "pair_bars" ["table", "i", "j"] spPair) (c_unlike_rows : Cal P w K mg base CX0 1 "unlike_rows" ["many", "length"] spUnlike) (c_ring_bars : Cal P w K mg base CX0 1 "ring_bars" ["table", "ring"] spRing) : FnOk P w K mg base CX0 4 f fd ["table"] spGood := by
  refine F.ok sc_barred (fun vs H Q E h => ?_) (fun cdv A outer s H vs Q E hr h => ?_)
  · obtain ⟨a, rows, n, rfl, _⟩ := h
    rfl
  · obtain ⟨a, rows, n, rfl, hT, O, q⟩ := h
    have hr1 := hr.mono (show 1 ≤ 3 by decide)
    refine ⟨_, (pss_cons (ps_expr (pe_cal c_check_form hr (by rfl) (pa_cons (pv 0) pa_nil)))
  (pss_cons (ps_set (i := 1) sc_barred.nd rfl (.inl rfl) (pe_cal c_bud_count hr1 (by rfl) (pa_cons (pv 0) pa_nil)))
  (pss_cons (ps_for PassesOwn.never rfl (pi_range1 (by rfl) T.range (pa_cons (pv 1) pa_nil)) (pg_name (i := 2) sc_barred.nd rfl (.inl rfl))
    (pss_one (ps_for PassesOwn.never rfl (pi_range2 (by rfl) T.range (pa_cons (pv 2) (pa_cons (pv 1) pa_nil))) (pg_name (i := 3) sc_barred.nd rfl (.inl rfl))
      (pss_one (ps_if (pt_val (pe_cal c_pair_bars hr1 (by rfl) (pa_cons (pv 0) (pa_cons (pv 2) (pa_cons (pv 3) pa_nil)))))
        (pss_one (ps_ret (pe_tup (pa_cons (pv 2) (pa_cons (pv 3) pa_nil)))))
        pss_nil)))))
  (pss_cons (ps_for PassesOwn.never rfl (p_list (K := K) (pe_op op_cat (pe_cal c_unlike_rows hr1 (by rfl) (pa_cons (pv 1) (pa_cons pe_int pa_nil))) (pe_cal c_unlike_rows hr1 (by rfl) (pa_cons (pv 1) (pa_cons pe_int pa_nil))))) (pg_name (i := 4) sc_barred.nd rfl (.inl rfl))
    (pss_one (ps_if (pt_val (pe_cal c_ring_bars hr1 (by rfl) (pa_cons (pv 0) (pa_cons (pv 4) pa_nil))))
      (pss_one (ps_ret (pv 4)))
      pss_nil)))
  (pss_one (ps_ret pe_non)))))), ?_⟩
    have h1 := O.n1
    have h2 := O.n4
    have h3 := O.len
    refine ⟨.ref a, rfl, a, rows, n, rfl, hT, O, fun H1 s1 => ?_⟩
    refine ⟨.ref a, rfl, a, rows, n, rfl, hT.same s1, by omega, O.wide, ?_⟩
    refine ⟨.int n, rfl, n, rfl, by omega, by omega, for_range (fun i σ H' => ∃ y2 y3 : Option V, σ = [some (.ref a), some (.int n), y2, y3, none] ∧ Same H H') ⟨none, none, rfl, s1⟩ ?_ ?_⟩
    · rintro i σ H2 hi ⟨y2, y3, rfl, s2⟩
      have hi : i < n := hi
      have e0 : (0 : Int) + (i : Int) = (i : Int) := by omega
      rw [e0]
      refine ⟨_, rfl, _, rfl, i, n, rfl, ⟨by omega, by omega, by omega, by omega⟩, for_range (fun j σ H' => ∃ y3 : Option V, σ = [some (.ref a), some (.int n), some (.int i), y3, none] ∧ Same H H') ⟨y3, rfl, s2⟩ ?_ ?_⟩
      · rintro j σ H3 hj ⟨y3, rfl, s3⟩
        obtain ⟨J, hJ⟩ : ∃ J : Nat, (i : Int) + (j : Int) = (J : Int) := ⟨i + j, by omega⟩
        rw [hJ]
        exact ⟨_, rfl, _, rfl, _, rfl, a, rows, n, i, J, rfl, hT.same s3, O, hi, by omega, false, rfl, iteF ⟨_, rfl, s3⟩⟩
      · rintro σ H3 ⟨y3, rfl, s3⟩
        exact ⟨_, y3, rfl, s3⟩
    · rintro σ H2 ⟨y2, y3, rfl, s2⟩
      refine ⟨.int n, rfl, n, 3, rfl, h2, by decide, fun p ts H3 s3 hp hts l3 => ?_⟩
      refine ⟨.int n, rfl, n, 4, rfl, h2, by decide, fun p' ts' H4 s4 hp' hts' l4 => ?_⟩
      refine ⟨p, p', _, _, rfl, rfl, s4 _ _ hp, hp', ?_, fun R eR => ?_⟩
      · rw [List.length_map, List.length_map]
        exact Nat.le_trans (show ts.length + ts'.length ≤ 1000 by omega) (by decide)
      have sR := same_upd (o := .lst (ts.map V.ref ++ ts'.map V.ref)) eR
      refine ⟨R, rfl, ⟨_, SqL.of upd_same⟩, for_list (K := K) (a := R) (xs := ts.map V.ref ++ ts'.map V.ref) (fun i σ H' => ∃ y4 : Option V, σ = [some (.ref a), some (.int n), y2, y3, y4] ∧ Same (upd H4 R (.lst (ts.map V.ref ++ ts'.map V.ref))) H') ⟨none, rfl, .refl _⟩ (fun i σ H' _ ⟨_, _, s⟩ => SqL.of (s _ _ upd_same)) ?_ ?_⟩
      · rintro i v σ H5 hv ⟨y4, rfl, s5⟩
        obtain ⟨t, g, rfl, hg, gl, gb⟩ : ∃ (t : Addr) (g : List Nat), v = .ref t ∧ H4 t = some (.tup (ringV g)) ∧ (g.length = 3 ∨ g.length = 4) ∧ ∀ x ∈ g, x < n := by
          rcases List.mem_append.mp (List.mem_of_getElem? hv) with h | h
          · obtain ⟨t, ht, e⟩ := List.mem_map.mp h
            subst e
            obtain ⟨g, a1, a2, a3⟩ := hts t ht
            exact ⟨t, g, rfl, s4 _ _ a1, .inl a2, a3⟩
          · obtain ⟨t, ht, e⟩ := List.mem_map.mp h
            subst e
            obtain ⟨g, a1, a2, a3⟩ := hts' t ht
            exact ⟨t, g, rfl, a1, .inr a2, a3⟩
        refine ⟨_, rfl, _, rfl, a, t, rows, n, g, rfl, hT.same (s2.trans (s3.trans (s4.trans (sR.trans s5)))), O, s5 _ _ (sR _ _ hg), by omega, by omega, gb, fun H6 s6 => ?_⟩
        exact ⟨false, rfl, iteF ⟨_, rfl, s5.trans s6⟩⟩
      · rintro σ H5 ⟨y4, rfl, s5⟩
        exact q _ (s2.trans (s3.trans (s4.trans (sR.trans s5))))
/-! ### check_table -/
abbrev s_check_table : Stmt := topS 33
abbrev n_check_table : List Str := ["table", "ring"]
theorem sc_check_table : FnScope n_check_table ["table"] (defScope s_check_table) := ⟨rfl, rfl, rfl, by decide +kernel, rfl, by decide +kernel, by decide +kernel⟩
theorem ok_check {f : Addr} {fd : FuncData} (F : Fun K "check_table" "check_table" s_check_table f fd) (T : Tx mg) (c_barred : Cal P w K mg base CX0 4 "barred" ["table"] spGood) : FnOk P w K mg base CX0 5 f fd ["table"] spGood := by
  refine F.ok sc_check_table (fun vs H Q E h => ?_) (fun cdv A outer s H vs Q E hr h => ?_)
  · obtain ⟨a, rows, n, rfl, _⟩ := h
    rfl
  · obtain ⟨a, rows, n, rfl, hT, O, q⟩ := h
    refine ⟨_, (pss_cons (ps_set (i := 1) sc_check_table.nd rfl (.inl rfl) (pe_cal c_barred hr (by rfl) (pa_cons (pv 0) pa_nil)))
  (pss_one (ps_if (pt_cmpR op_notN (pv 1) pe_non (nomark _))
    (pss_one ps_never)
    pss_nil))), ?_⟩
    refine ⟨.ref a, rfl, a, rows, n, rfl, hT, O, fun H1 s1 => ?_⟩
    exact ⟨.non, rfl, rfl, _, rfl, iteF (q _ s1)⟩
end
end Bw
set_option Elab.async false
set_option linter.all false
set_option maxRecDepth 100000
set_option maxHeartbeats 4000000
namespace Bw
open PySem PySem.Spec PyProof.Rows L2
theorem Same.updN {H H' : Hp} {D : Addr} {o : HO} (s : Same H H') (h : H D = none) : Same H (upd H' D o) := fun c u e => by
  rw [upd_ne (ne_of_none e h)]
  exact s _ _ e
end Bw
set_option Elab.async false
set_option linter.all false
set_option maxRecDepth 100000
set_option maxHeartbeats 4000000
namespace Bw
open PySem PySem.Spec PyProof.Rows L2
/-! ### is_row of any row -/
def tieOk (t : Int) : Bool := decide ((if t < 0 then -t else t) ≤ 50)
def rowOk (m : Nat) (r : List Int) : Bool := decide (r.length = m) && r.all tieOk
section
variable {P : Program} {w : World} {K : PySem.W.Frag} {mg : Str → Option Value} {base : Heap}
def spIsRowG : Sp := fun vs H Q _ => ∃ (a : Addr) (r : List Int) (m : Nat), vs = [.ref a, .int m] ∧ H a = some (.tup (r.map V.int)) ∧ r.length ≤ 901 ∧ ∀ H', Same H H' → Q (.bl (rowOk m r)) H'
theorem ok_isrowG {f : Addr} {fd : FuncData} (F : Fun K "is_row" "is_row" s_is_row f fd) (T : Tx mg) (c_is_number : Cal P w K mg base CX0 1 "is_number" ["thing"] spIsNum) : FnOk P w K mg base CX0 2 f fd ["row", "many"] spIsRowG := by
  refine F.ok sc_is_row (fun vs H Q E h => ?_) (fun cdv A outer s H vs Q E hr h => ?_)
  · obtain ⟨a, r, m, rfl, _⟩ := h
    rfl
  · obtain ⟨a, r, m, rfl, ha, l4, q⟩ := h
    refine ⟨_, (pss_cons (ps_if (PW.pt (pw_or (pt_not (pt_val (pe_callB (c_isi (K := K)) (by rfl) T.isinstance (by decide +kernel) (pa_cons (pv 0) (pa_cons (pe_bltn (v := .ty "tuple") (by rfl) T.tuple (by decide +kernel) rfl) pa_nil))))) (pw_or1 (pt_cmpR op_ne (pe_callB (c_len (K := K)) (by rfl) T.len PySem.boot_len (pa_cons (pv 0) pa_nil)) (pv 1) (nomark _)))))
    (pss_one (ps_ret pe_bl))
    pss_nil)
  (pss_one (ps_ret (pe_callB (c_all (K := K) rfl) (by rfl) T.all (by decide +kernel) (pa_cons (pe_lc (own := [("tie", 2)]) (by rfl) sc_is_row.nd (p_tup (K := K) (pv 0)) (blkOk_by (own := [("tie", 2)]) (N := n_is_row) (sc := defScope s_is_row) (by decide +kernel)) (fun _ _ _ _ _ => (pg_name (i := 2) sc_is_row.nd rfl (.inl rfl))) (fun _ _ _ _ _ => pts_nil) (fun _ _ _ _ _ => (pe_and (pe_cal c_is_number hr (by rfl) (pa_cons (pv 2) pa_nil)) (pe_one (pe_cmpR op_le (pe_callB call_abs (by rfl) T.abs (by decide +kernel) (pa_cons (pv 2) pa_nil)) (pe_gint (by rfl) T.MOST_TIE) (nomark _)))))) pa_nil))))), ?_⟩
    refine ⟨.ref a, rfl, _, _, _, _, true, rfl, .ty "tuple", .base (.tup ha), kit_ty (by decide +kernel), true, rfl, ?_⟩
    refine iteF ⟨.ref a, rfl, a, _, rfl, .inr (SqT.of ha), .int m, rfl, rfl, _, rfl, ite2 (fun h1 => ?_) (fun h1 => ?_)⟩
    · have e : rowOk m r = false := by
        unfold rowOk
        have : decide (r.length = m) = false := decide_eq_false fun z => by
          rw [List.length_map, z, decide_eq_true rfl] at h1
          exact absurd h1 (by decide)
        rw [this]
        rfl
      rw [e] at q
      exact q H (.refl _)
    have hm : r.length = m := by
      by_cases z : V.int (((r.map V.int).length : Nat) : Int) = V.int (m : Int)
      · injection z with z
        rw [List.length_map] at z
        omega
      · rw [decide_eq_false z] at h1
        exact absurd rfl h1
    refine ⟨.ref a, rfl, a, rfl, ⟨_, SqT.of ha⟩, fun D eD => ?_⟩
    refine lc_tup (K := K) (a := a) (xs := r.map V.int) (fun j H' => H' D = some (.lst (((r.take j).map tieOk).map V.bl)) ∧ Same H H') ⟨upd_same, same_upd eD⟩ (fun j H' _ ⟨_, k⟩ => SqT.of (k _ _ ha)) ?_ ?_
    · rintro j v H1 hv ⟨e1, k1⟩
      obtain ⟨t, ht, rfl⟩ := int_at hv
      have hj : j < r.length := (List.getElem?_eq_some_iff.mp ht).1
      refine ⟨rfl, .int t, rfl, t, rfl, true, rfl, ?_⟩
      refine ⟨.int t, rfl, t, rfl, _, _, rfl, rfl, _, e1, by rw [List.length_map, List.length_map, List.length_take]; exact small1000 (by omega), ?_, Same.updN k1 eD⟩
      rw [upd_same, List.take_succ, ht, List.map_append, List.map_append]
      rfl
    · rintro H1 ⟨e1, k1⟩
      rw [List.length_map, List.take_length] at e1
      refine ⟨D, _, rfl, SqL.of e1, ?_⟩
      have e : rowOk m r = (r.map tieOk).all id := by
        unfold rowOk
        rw [decide_eq_true hm, List.all_map]
        rfl
      rw [e] at q
      exact q H1 k1
end
end Bw
set_option Elab.async false
set_option linter.all false
set_option maxRecDepth 100000
set_option maxHeartbeats 1000000
namespace Bw
open PySem PySem.Spec PyProof.Rows L2
/-! ### sums of products, as what they make of any weighing of powers -/
abbrev Tm := List Int × Int
def Lf (ts : List Tm) (φ : List Int → Int) : Int := (ts.map fun a => a.2 * φ a.1).sum
theorem Lf_nil (φ : List Int → Int) : Lf [] φ = 0 := rfl
theorem Lf_cons (a : Tm) (ts : List Tm) (φ : List Int → Int) : Lf (a :: ts) φ = a.2 * φ a.1 + Lf ts φ := by
  unfold Lf
  rw [List.map_cons, List.sum_cons]
theorem Lf_append (a b : List Tm) (φ : List Int → Int) : Lf (a ++ b) φ = Lf a φ + Lf b φ := by
  unfold Lf
  rw [List.map_append, List.sum_append]
theorem Lf_perm {a b : List Tm} (h : a.Perm b) (φ : List Int → Int) : Lf a φ = Lf b φ := by
  induction h with
  | nil => rfl
  | cons x _ ih => rw [Lf_cons, Lf_cons, ih]
  | swap x y l =>
    rw [Lf_cons, Lf_cons, Lf_cons, Lf_cons]
    omega
  | trans _ _ h1 h2 => exact h1.trans h2
theorem Lf_filter (ts : List Tm) (φ : List Int → Int) : Lf (ts.filter fun a => decide (a.2 ≠ 0)) φ = Lf ts φ := by
  induction ts with
  | nil => rfl
  | cons a ts ih =>
    rw [List.filter_cons]
    by_cases h : a.2 = 0
    · rw [if_neg (by simp [h]), ih, Lf_cons, h]
      omega
    · rw [if_pos (by simp [h]), Lf_cons, Lf_cons, ih]
theorem Lf_map (ts : List Tm) (g : List Int → List Int) (φ : List Int → Int) : Lf (ts.map fun a => (g a.1, a.2)) φ = Lf ts fun p => φ (g p) := by
  induction ts with
  | nil => rfl
  | cons a ts ih => rw [List.map_cons, Lf_cons, Lf_cons, ih]
theorem Lf_neg (ts : List Tm) (φ : List Int → Int) : Lf (ts.map fun a => (a.1, -a.2)) φ = -(Lf ts φ) := by
  induction ts with
  | nil => rfl
  | cons a ts ih =>
    rw [List.map_cons, Lf_cons, Lf_cons, ih]
    show -a.2 * φ a.1 + -(Lf ts φ) = -(a.2 * φ a.1 + Lf ts φ)
    rw [Int.neg_mul]
    omega
/-- products falling by their powers, none of count 0 -/
def Falls (r : List Tm) : Prop := r.Pairwise (fun a b => HT.lexLt b.1 a.1 = true)
structure Cn (ℓ : (List Int → Int) → Int) (r : List Tm) : Prop where
  fall : Falls r
  nz : ∀ a ∈ r, a.2 ≠ 0
  lf : ∀ φ, Lf r φ = ℓ φ
theorem lex_irr (p : List Int) : HT.lexLt p p = false := by
  cases h : HT.lexLt p p with
  | false => rfl
  | true =>
    have := NtL.lex_asym _ _ h
    rw [h] at this
    cases this
theorem lex_ne {p q : List Int} (h : HT.lexLt p q = true) : p ≠ q := fun e => by
  rw [e, lex_irr] at h
  cases h
theorem lex_tot : ∀ {p q : List Int}, HT.lexLt p q = false → HT.lexLt q p = false → p = q
  | [], [], _, _ => rfl
  | [], _ :: _, h, _ => by cases h
  | _ :: _, [], _, h => by cases h
  | x :: p, y :: q, h1, h2 => by
    rw [HT.lexLt_cons] at h1 h2
    by_cases e : x = y
    · subst e
      rw [if_pos rfl] at h1 h2
      rw [lex_tot h1 h2]
    · rw [if_neg e] at h1
      rw [if_neg (fun z => e z.symm)] at h2
      have a1 := of_decide_eq_false h1
      have a2 := of_decide_eq_false h2
      omega
/-- the count of p in r -/
def ind (p : List Int) : List Int → Int := fun q => if q = p then 1 else 0
theorem Lf_ind_none {r : List Tm} {p : List Int} (h : ∀ a ∈ r, a.1 ≠ p) : Lf r (ind p) = 0 := by
  induction r with
  | nil => rfl
  | cons a r ih =>
    rw [Lf_cons, ih fun b hb => h b (List.mem_cons_of_mem _ hb)]
    unfold ind
    rw [if_neg (h a (List.mem_cons_self ..))]
    omega
theorem Lf_ind_mem {r : List Tm} (hf : Falls r) {p : List Int} {c : Int} (h : (p, c) ∈ r) : Lf r (ind p) = c := by
  induction r with
  | nil => cases h
  | cons a r ih =>
    have hf' := List.pairwise_cons.mp hf
    rw [Lf_cons]
    rcases List.mem_cons.mp h with e | h
    · subst e
      rw [Lf_ind_none fun b hb => lex_ne (hf'.1 b hb)]
      show c * ind p p + 0 = c
      unfold ind
      rw [if_pos rfl]
      omega
    · have ne : a.1 ≠ p := Ne.symm (lex_ne (hf'.1 (p, c) h))
      rw [ih hf'.2 h]
      unfold ind
      rw [if_neg ne]
      omega
theorem Cn.mem {ℓ : (List Int → Int) → Int} {r : List Tm} (h : Cn ℓ r) (p : List Int) (c : Int) : (p, c) ∈ r ↔ c ≠ 0 ∧ ℓ (ind p) = c := by
  constructor
  · intro m
    refine ⟨h.nz _ m, ?_⟩
    rw [← h.lf, Lf_ind_mem h.fall m]
  · rintro ⟨hc, e⟩
    rw [← h.lf] at e
    by_cases m : ∃ a ∈ r, a.1 = p
    · obtain ⟨a, ha, rfl⟩ := m
      rw [Lf_ind_mem h.fall (p := a.1) (c := a.2) ha] at e
      rw [← e]
      exact ha
    · rw [Lf_ind_none fun a ha e' => m ⟨a, ha, e'⟩] at e
      exact absurd e.symm hc
theorem falls_uniq : ∀ {r r' : List Tm}, Falls r → Falls r' → (∀ a, a ∈ r ↔ a ∈ r') → r = r'
  | [], [], _, _, _ => rfl
  | [], b :: r', _, _, h => absurd ((h b).mpr (List.mem_cons_self ..)) (by simp)
  | a :: r, [], _, _, h => absurd ((h a).mp (List.mem_cons_self ..)) (by simp)
  | a :: r, b :: r', h1, h2, h => by
    have f1 := List.pairwise_cons.mp h1
    have f2 := List.pairwise_cons.mp h2
    have e : a = b := by
      rcases List.mem_cons.mp ((h a).mp (List.mem_cons_self ..)) with e | m
      · exact e
      · rcases List.mem_cons.mp ((h b).mpr (List.mem_cons_self ..)) with e | m'
        · exact e.symm
        · have x := f2.1 a m
          have y := f1.1 b m'
          have z := NtL.lex_asym _ _ x
          rw [y] at z
          cases z
    subst e
    have hr : r = r' := falls_uniq f1.2 f2.2 fun c => by
      constructor
      · intro m
        rcases List.mem_cons.mp ((h c).mp (List.mem_cons_of_mem _ m)) with e | m'
        · subst e
          exact absurd rfl (lex_ne (f1.1 c m))
        · exact m'
      · intro m
        rcases List.mem_cons.mp ((h c).mpr (List.mem_cons_of_mem _ m)) with e | m'
        · subst e
          exact absurd rfl (lex_ne (f2.1 c m))
        · exact m'
    rw [hr]
theorem Cn.uniq {ℓ : (List Int → Int) → Int} {r r' : List Tm} (h : Cn ℓ r) (h' : Cn ℓ r') : r = r' := by
  refine falls_uniq h.fall h'.fall fun a => ?_
  obtain ⟨p, c⟩ := a
  rw [h.mem, h'.mem]
/-! ### books: a count for each powers, in the order in which they came -/
def getB (bk : List Tm) (p : List Int) : Option Int := (bk.find? fun a => decide (a.1 = p)).map (·.2)
def putB (bk : List Tm) (p : List Int) (c : Int) : List Tm := if (bk.any fun a => decide (a.1 = p)) = true then bk.map (fun a => if a.1 = p then (a.1, c) else a) else bk ++ [(p, c)]
def NdB (bk : List Tm) : Prop := (bk.map (·.1)).Nodup
theorem putB_keys {bk : List Tm} {p : List Int} {c : Int} (h : NdB bk) : NdB (putB bk p c) := by
  unfold putB NdB
  by_cases q : (bk.any fun a => decide (a.1 = p)) = true
  · rw [if_pos q, List.map_map]
    have e : ((fun a : Tm => a.1) ∘ fun a : Tm => if a.1 = p then (a.1, c) else a) = fun a => a.1 := by
      funext a
      show (if a.1 = p then (a.1, c) else a).1 = a.1
      split <;> rfl
    rw [e]
    exact h
  · rw [if_neg q, List.map_append]
    refine List.nodup_append.mpr ⟨h, by simp, ?_⟩
    intro x hx y hy e
    obtain ⟨a, ha, rfl⟩ := List.mem_map.mp hx
    have : y = p := by simpa using hy
    subst this
    exact q (List.any_eq_true.mpr ⟨a, ha, decide_eq_true e⟩)
theorem putB_len (bk : List Tm) (p : List Int) (c : Int) : (putB bk p c).length ≤ bk.length + 1 := by
  unfold putB
  split
  · rw [List.length_map]
    omega
  · rw [List.length_append]
    exact Nat.le_refl _
theorem Lf_repl {p : List Int} {c d : Int} : ∀ {bk : List Tm}, NdB bk → (p, d) ∈ bk → ∀ φ, Lf (bk.map fun a => if a.1 = p then (a.1, c) else a) φ = Lf bk φ + (c - d) * φ p
  | [], _, h, _ => by cases h
  | a :: bk, nd, h, φ => by
    have nd' := List.nodup_cons.mp nd
    rw [List.map_cons, Lf_cons, Lf_cons]
    by_cases e : a.1 = p
    · have rest : (bk.map fun a => if a.1 = p then (a.1, c) else a) = bk := by
        have z : bk.map (fun a => if a.1 = p then (a.1, c) else a) = bk.map id := List.map_congr_left fun b hb => by
          rw [if_neg]
          · rfl
          · intro e'
            exact nd'.1 (List.mem_map.mpr ⟨b, hb, e'.trans e.symm⟩)
        rw [z, List.map_id]
      have ad : a = (p, d) := by
        rcases List.mem_cons.mp h with h | h
        · exact h.symm
        · exact absurd (List.mem_map.mpr ⟨(p, d), h, e.symm⟩) nd'.1
      rw [rest, if_pos e, ad]
      show c * φ p + Lf bk φ = d * φ p + Lf bk φ + (c - d) * φ p
      rw [Int.sub_mul]
      omega
    · rw [if_neg e]
      have h' : (p, d) ∈ bk := by
        rcases List.mem_cons.mp h with h | h
        · rw [← h] at e
          exact absurd rfl e
        · exact h
      rw [Lf_repl nd'.2 h' φ]
      omega
theorem getB_some {bk : List Tm} {p : List Int} {d : Int} (h : getB bk p = some d) : (p, d) ∈ bk := by
  unfold getB at h
  obtain ⟨a, ha, rfl⟩ := Option.map_eq_some_iff.mp h
  have e := List.find?_some ha
  have m := List.mem_of_find?_eq_some ha
  have : a.1 = p := of_decide_eq_true e
  rw [← this]
  exact m
theorem getB_none {bk : List Tm} {p : List Int} (h : getB bk p = none) : (bk.any fun a => decide (a.1 = p)) = false := by
  unfold getB at h
  have z := Option.map_eq_none_iff.mp h
  cases q : (bk.any fun a => decide (a.1 = p)) with
  | false => rfl
  | true =>
    obtain ⟨a, ha, e⟩ := List.any_eq_true.mp q
    exact absurd e (List.find?_eq_none.mp z a ha)
def addB (bk : List Tm) (p : List Int) (c : Int) : List Tm := putB bk p ((getB bk p).getD 0 + c)
theorem Lf_addB {bk : List Tm} (nd : NdB bk) (p : List Int) (c : Int) (φ : List Int → Int) : Lf (addB bk p c) φ = Lf bk φ + c * φ p := by
  unfold addB
  cases h : getB bk p with
  | none =>
    unfold putB
    rw [getB_none h, if_neg (by simp), Lf_append, Lf_cons, Lf_nil]
    show Lf bk φ + ((0 + c) * φ p + 0) = _
    rw [Int.zero_add]
    omega
  | some d =>
    unfold putB
    have m := getB_some h
    rw [if_pos (List.any_eq_true.mpr ⟨_, m, decide_eq_true rfl⟩), Lf_repl nd m]
    show Lf bk φ + (d + c - d) * φ p = _
    have e : d + c - d = c := by omega
    rw [e]
/-- a book as a dict -/
def enc (a : Tm) : List Key × V := (a.1.map Sum.inl, V.int a.2)
theorem inl_inj {p q : List Int} (h : p.map (Sum.inl : Int → Key) = q.map Sum.inl) : p = q := by
  have e := congrArg (List.map fun k : Key => match k with | .inl i => i | .inr _ => 0) h
  rw [List.map_map, List.map_map] at e
  have z : ((fun k : Key => match k with | .inl i => i | .inr _ => 0) ∘ (Sum.inl : Int → Key)) = id := rfl
  rw [z, List.map_id, List.map_id] at e
  exact e
theorem enc_iff {a : Tm} {p : List Int} : (enc a).1 = p.map Sum.inl ↔ a.1 = p := ⟨fun z => inl_inj z, fun z => by rw [← z]; rfl⟩
theorem enc_any (bk : List Tm) (p : List Int) : ((bk.map enc).any fun kv => decide (kv.1 = p.map Sum.inl)) = bk.any fun a => decide (a.1 = p) := by
  rw [List.any_map]
  congr 1
  funext a
  exact decide_eq_decide.mpr enc_iff
theorem enc_put (bk : List Tm) (p : List Int) (c : Int) : putK (bk.map enc) (p.map Sum.inl) (V.int c) = (putB bk p c).map enc := by
  unfold putK putB
  rw [enc_any]
  split
  · rw [List.map_map, List.map_map]
    refine List.map_congr_left fun a _ => ?_
    show (if (enc a).1 = p.map Sum.inl then ((enc a).1, V.int c) else enc a) = enc (if a.1 = p then (a.1, c) else a)
    by_cases e : a.1 = p
    · rw [if_pos (enc_iff.mpr e), if_pos e]
      rfl
    · rw [if_neg fun z => e (enc_iff.mp z), if_neg e]
  · rw [List.map_append]
    rfl
theorem enc_val : ∀ (bk : List Tm) (p : List Int), valV (bk.map enc) (p.map Sum.inl) = (getB bk p).map V.int
  | [], _ => rfl
  | a :: bk, p => by
    rw [List.map_cons]
    by_cases e : a.1 = p
    · have h1 : getB (a :: bk) p = some a.2 := by
        unfold getB
        rw [List.find?_cons_of_pos (by simpa using e)]
        rfl
      rw [h1, valV_pos (enc_iff.mpr e)]
      rfl
    · have h1 : getB (a :: bk) p = getB bk p := by
        unfold getB
        rw [List.find?_cons_of_neg (by simpa using e)]
      rw [h1, ← enc_val bk p, valV_neg fun z => e (enc_iff.mp z)]
theorem enc_keys (bk : List Tm) : KeysI (bk.map enc) (bk.map (·.1)) := by
  unfold KeysI
  rw [List.map_map, List.map_map]
  rfl
end Bw
set_option Elab.async false
set_option linter.all false
set_option maxRecDepth 100000
set_option maxHeartbeats 4000000
namespace Bw
open PySem PySem.Spec PyProof.Rows L2
/-! ### products in the heap -/
def TermAt (H : Hp) (t : Addr) (a : Tm) : Prop := ∃ q, H t = some (.tup [.ref q, .int a.2]) ∧ H q = some (.tup (a.1.map V.int))
def TermsAt (H : Hp) (ts : List Addr) (terms : List Tm) : Prop := ts.length = terms.length ∧ ∀ (i : Nat) (a : Tm), terms[i]? = some a → ∃ t, ts[i]? = some t ∧ TermAt H t a
theorem TermAt.same {H H' : Hp} {t : Addr} {a : Tm} (s : ∀ b xs, H b = some (.tup xs) → H' b = some (.tup xs)) (h : TermAt H t a) : TermAt H' t a := by
  obtain ⟨q, h1, h2⟩ := h
  exact ⟨q, s _ _ h1, s _ _ h2⟩
theorem TermsAt.keep {H H' : Hp} {ts : List Addr} {terms : List Tm} (s : ∀ b xs, H b = some (.tup xs) → H' b = some (.tup xs)) (h : TermsAt H ts terms) : TermsAt H' ts terms := ⟨h.1, fun i a e => by
  obtain ⟨t, e1, e2⟩ := h.2 i a e
  exact ⟨t, e1, e2.same s⟩⟩
theorem TermsAt.same {H H' : Hp} {ts : List Addr} {terms : List Tm} (s : Same H H') (h : TermsAt H ts terms) : TermsAt H' ts terms := h.keep fun b xs e => s _ _ e
theorem TermsAt.but {H H' : Hp} {f l : Addr} {ts : List Addr} {terms : List Tm} (s : SameBut f H H') (hf : FeedAt H f l) (h : TermsAt H ts terms) : TermsAt H' ts terms := h.keep fun b xs e => s _ _ (hf.tup e) e
theorem TermsAt.put {H : Hp} {R : Addr} {xs : List V} {o : HO} {ts : List Addr} {terms : List Tm} (h : TermsAt H ts terms) (hR : H R = some (.lst xs)) : TermsAt (upd H R o) ts terms := h.keep fun b ys e => by
  rw [upd_ne (ne_of e hR (by intro z; cases z))]
  exact e
theorem TermsAt.nil {H : Hp} : TermsAt H [] [] := ⟨rfl, fun i a e => by simp at e⟩
theorem TermsAt.snoc {H : Hp} {ts : List Addr} {terms : List Tm} {t : Addr} {a : Tm} (h : TermsAt H ts terms) (ht : TermAt H t a) : TermsAt H (ts ++ [t]) (terms ++ [a]) := by
  refine ⟨by rw [List.length_append, List.length_append, h.1]; rfl, fun i b e => ?_⟩
  rw [List.getElem?_append] at e
  split at e
  · next hi =>
    obtain ⟨u, e1, e2⟩ := h.2 i b e
    exact ⟨u, by rw [List.getElem?_append, if_pos (by rw [h.1]; exact hi)]; exact e1, e2⟩
  · next hi =>
    have h2 := (List.getElem?_eq_some_iff.mp e).1
    rw [List.length_singleton] at h2
    have z : i - terms.length = 0 := by omega
    rw [z] at e
    have : a = b := Option.some.inj e
    subst this
    refine ⟨t, ?_, ht⟩
    rw [List.getElem?_append, if_neg (by rw [h.1]; exact hi), h.1, z]
    rfl
theorem TermsAt.at {H : Hp} {ts : List Addr} {terms : List Tm} (h : TermsAt H ts terms) {i : Nat} {t : Addr} (e : ts[i]? = some t) : ∃ a, terms[i]? = some a ∧ TermAt H t a := by
  have hi : i < terms.length := by
    have := (List.getElem?_eq_some_iff.mp e).1
    rw [h.1] at this
    exact this
  obtain ⟨u, e1, e2⟩ := h.2 i _ (List.getElem?_eq_getElem hi)
  cases (Option.some.inj (e.symm.trans e1))
  exact ⟨_, List.getElem?_eq_getElem hi, e2⟩
end Bw
set_option Elab.async false
set_option linter.all false
set_option maxRecDepth 100000
set_option maxHeartbeats 4000000
namespace Bw
open PySem PySem.Spec PyProof.Rows L2
/-! ### more of books -/
def Sized (n M : Nat) (ts : List Tm) : Prop := ∀ a ∈ ts, a.1.length = n ∧ a.2.natAbs ≤ M
theorem Sized.nil {n M : Nat} : Sized n M [] := fun a h => by cases h
theorem Sized.mono {n M N : Nat} {ts : List Tm} (h : Sized n M ts) (l : M ≤ N) : Sized n N ts := fun a ha => ⟨(h a ha).1, Nat.le_trans (h a ha).2 l⟩
theorem Sized.put {n M : Nat} {bk : List Tm} {p : List Int} {c : Int} (h : Sized n M bk) (hp : p.length = n) (hc : c.natAbs ≤ M) : Sized n M (putB bk p c) := by
  unfold putB
  split
  · intro a ha
    obtain ⟨b, hb, rfl⟩ := List.mem_map.mp ha
    split
    · exact ⟨(h b hb).1, hc⟩
    · exact h b hb
  · intro a ha
    rcases List.mem_append.mp ha with ha | ha
    · exact h a ha
    · rw [List.mem_singleton.mp ha]
      exact ⟨hp, hc⟩
theorem Sized.add {n M m : Nat} {bk : List Tm} {p : List Int} {c : Int} (h : Sized n M bk) (hp : p.length = n) (hc : c.natAbs ≤ m) : Sized n (M + m) (addB bk p c) := by
  refine (h.mono (Nat.le_add_right M m)).put hp ?_
  cases e : getB bk p with
  | none =>
    show (0 + c).natAbs ≤ _
    omega
  | some d =>
    have := (h _ (getB_some e)).2
    show (d + c).natAbs ≤ _
    have z : d.natAbs ≤ M := this
    omega
theorem getB_mem {bk : List Tm} (nd : NdB bk) {p : List Int} {c : Int} (h : (p, c) ∈ bk) : getB bk p = some c := by
  cases e : getB bk p with
  | none =>
    have z := getB_none e
    have : (bk.any fun a => decide (a.1 = p)) = true := List.any_eq_true.mpr ⟨_, h, decide_eq_true rfl⟩
    rw [z] at this
    cases this
  | some d =>
    have m := getB_some e
    have : ∀ {l : List Tm}, (l.map (·.1)).Nodup → (p, c) ∈ l → (p, d) ∈ l → c = d := by
      intro l
      induction l with
      | nil => intro _ h _; cases h
      | cons a l ih =>
        intro nd h1 h2
        have nd' := List.nodup_cons.mp nd
        rcases List.mem_cons.mp h1 with e1 | h1
        · rcases List.mem_cons.mp h2 with e2 | h2
          · exact congrArg Prod.snd (e1.trans e2.symm)
          · exact absurd (List.mem_map.mpr ⟨_, h2, by rw [← e1]⟩) nd'.1
        · rcases List.mem_cons.mp h2 with e2 | h2
          · exact absurd (List.mem_map.mpr ⟨_, h1, by rw [← e2]⟩) nd'.1
          · exact ih nd'.2 h1 h2
    rw [this nd h m]
theorem nd_app {a b : List Tm} (h : NdB (a ++ b)) : NdB a := by
  unfold NdB at *
  rw [List.map_append] at h
  exact (List.nodup_append.mp h).1
theorem putB_new {bk : List Tm} {p : List Int} {c : Int} (h : NdB (bk ++ [(p, c)])) : putB bk p c = bk ++ [(p, c)] := by
  unfold putB
  rw [if_neg]
  intro z
  obtain ⟨a, ha, e⟩ := List.any_eq_true.mp z
  unfold NdB at h
  rw [List.map_append] at h
  exact (List.nodup_append.mp h).2.2 a.1 (List.mem_map_of_mem ha) p (by simp) (of_decide_eq_true e)
theorem merge_nd : ∀ {b a : List Tm}, NdB (a ++ b) → mergeT (a.map enc) (b.map enc) = (a ++ b).map enc
  | [], a, _ => by rw [List.append_nil]; rfl
  | x :: b, a, h => by
    have e : a ++ x :: b = (a ++ [x]) ++ b := by simp
    rw [e] at h ⊢
    show mergeT (putK (a.map enc) (x.1.map Sum.inl) (V.int x.2)) (b.map enc) = _
    rw [enc_put, putB_new (c := x.2) (nd_app h)]
    exact merge_nd h
theorem nd_filter {bk : List Tm} {f : Tm → Bool} (h : NdB bk) : NdB (bk.filter f) := List.Sublist.nodup (List.Sublist.map _ List.filter_sublist) h
theorem kV_ints (p : List Int) : ((p.map Sum.inl : List Key)).map kV = p.map V.int := by
  rw [List.map_map]
  rfl
theorem nd_short {bk : List Tm} {M : Nat} (nd : NdB bk) (s : Sized 0 M bk) : bk.length ≤ 1 := by
  match bk, nd, s with
  | [], _, _ => exact Nat.zero_le _
  | [_], _, _ => exact Nat.le_refl _
  | a :: b :: r, nd, s =>
    have e1 : a.1 = [] := List.eq_nil_of_length_eq_zero (s a (List.mem_cons_self ..)).1
    have e2 : b.1 = [] := List.eq_nil_of_length_eq_zero (s b (List.mem_cons_of_mem _ (List.mem_cons_self ..))).1
    have n := (List.nodup_cons.mp nd).1
    exact absurd (show a.1 ∈ b.1 :: _ by rw [e1, e2]; exact List.mem_cons_self ..) n
theorem nd_keys {bk : List Tm} {n M : Nat} (nd : NdB bk) (s : Sized n M bk) : 2 ≤ (bk.map (·.1)).length → ∀ q ∈ bk.map (·.1), q ≠ [] := by
  intro h q hq e
  subst e
  obtain ⟨a, ha, e⟩ := List.mem_map.mp hq
  have := (s a ha).1
  rw [show a.1 = [] from e] at this
  subst this
  rw [List.length_map] at h
  have := nd_short nd s
  omega
/-! ### heaps -/
theorem unlock_same {H H' : Hp} {d : Addr} {od : Obj} {u : HO} (h : Same (upd H d (.frz od u)) H') (hd : H d = some u) : Same H (upd H' d u) := fun c o e => by
  by_cases z : c = d
  · subst z
    rw [upd_same, ← hd, e]
  · rw [upd_ne z]
    exact h _ _ (by rw [upd_ne z]; exact e)
theorem TermsAt.updX {H : Hp} {d : Addr} {o u : HO} {ts : List Addr} {terms : List Tm} (h : TermsAt H ts terms) (hd : H d = some u) (nt : ∀ xs, u ≠ .tup xs) : TermsAt (upd H d o) ts terms := h.keep fun b xs e => by
  rw [upd_ne]
  · exact e
  · intro z
    subst z
    rw [e] at hd
    exact nt xs (Option.some.inj hd).symm
theorem TermsAt.tail {H : Hp} {t : Addr} {ts : List Addr} {a : Tm} {terms : List Tm} (h : TermsAt H (t :: ts) (a :: terms)) : TermAt H t a ∧ TermsAt H ts terms := by
  refine ⟨?_, Nat.succ.inj h.1, fun i b e => ?_⟩
  · obtain ⟨u, e1, e2⟩ := h.2 0 a rfl
    cases (Option.some.inj e1)
    exact e2
  · obtain ⟨u, e1, e2⟩ := h.2 (i + 1) b e
    exact ⟨u, e1, e2⟩
theorem TermsAt.pairs {H : Hp} : ∀ {ts : List Addr} {terms : List Tm}, TermsAt H ts terms → ∃ its : List (List Key × Addr × V), Paired (fun t (x : List Key × Addr × V) => H t = some (.tup [.ref x.2.1, x.2.2]) ∧ H x.2.1 = some (.tup (x.1.map kV))) ts its ∧ its.map (fun x => (x.1, x.2.2)) = terms.map enc
  | [], [], _ => ⟨[], .nil, rfl⟩
  | [], _ :: _, h => absurd h.1 (by simp)
  | _ :: _, [], h => absurd h.1 (by simp)
  | t :: ts, a :: terms, h => by
    obtain ⟨⟨q, h1, h2⟩, ht⟩ := h.tail
    obtain ⟨its, p, e⟩ := ht.pairs
    refine ⟨(a.1.map Sum.inl, q, .int a.2) :: its, .cons ⟨h1, by rw [kV_ints]; exact h2⟩ p, ?_⟩
    rw [List.map_cons, e, List.map_cons]
    rfl
/-- a book at d -/
def BkAt (H : Hp) (d : Addr) (bk : List Tm) : Prop := H d = some (.dT (bk.map enc))
theorem take_filter {bk : List Tm} {i : Nat} {a : Tm} (h : bk[i]? = some a) (f : Tm → Bool) : (bk.take (i + 1)).filter f = (bk.take i).filter f ++ (if f a = true then [a] else []) := by
  rw [List.take_succ, h, List.filter_append]
  congr 1
  show List.filter f [a] = _
  rw [List.filter_cons]
  split <;> simp
abbrev nzB : Tm → Bool := fun a => decide (a.2 ≠ 0)
end Bw
set_option Elab.async false
set_option linter.all false
set_option maxRecDepth 100000
set_option maxHeartbeats 4000000
namespace Bw
open PySem PySem.Spec PyProof.Rows L2
section
variable {P : Program} {w : World} {K : PySem.W.Frag} {mg : Str → Option Value} {base : Heap}
/-- what a book of a linear form is -/
structure BookOf (n M : Nat) (ℓ : (List Int → Int) → Int) (bk : List Tm) : Prop where
  nd : NdB bk
  sz : Sized n M bk
  nz : ∀ a ∈ bk, a.2 ≠ 0
  lf : ∀ φ, Lf bk φ = ℓ φ
theorem nz_comp {i k : Nat} {σ : L2.St} {H : Hp} {F : Addr} {bk : List Tm} {Q : VK} (h1 : σ[i]? = some (some (.ref F))) (h2 : ∀ v : V, ((wipe σ [k]).set k (some v))[i]? = some (some (.ref F)))
    (h3 : ∀ v : V, ((wipe σ [k]).set k (some v))[k]? = some (some v)) (h4 : ∀ v : V, wipe ((wipe σ [k]).set k (some v)) [k] = wipe σ [k]) (eF : BkAt H F bk) (nd : NdB bk) (hl : bk.length ≤ 1000)
    (q : ∀ (L : Addr) (ts : List Addr) (H' : Hp), Same H H' → H L = none → H' L = some (.lst (ts.map V.ref)) → TermsAt H' ts (bk.filter nzB) → Q (.ref L) H') :
    tLockE (tLc (iKeys (tVar i)) (gName k) (tTest (tOp rNe (tDGet (tVar i) (tVar k)) (tC (V.int 0)))) (tTup (tCons (tVar k) (tCons (tDGet (tVar i) (tVar k)) tNil))) [k]) σ H Q := by
  refine ⟨F, _, eF, trivial, fun od => ?_⟩
  refine ⟨_, h1, F, od, rfl, .inr ⟨_, upd_same, fun L eL => ?_⟩⟩
  have nLF : L ≠ F := Ne.symm (ne_of_none upd_same eL)
  have L0 : H L = none := by
    rw [upd_ne nLF] at eL
    exact eL
  refine lc_it walk_keysT (fun j H' => ∃ ts : List Addr, H' L = some (.lst (ts.map V.ref)) ∧ TermsAt H' ts ((bk.take j).filter nzB) ∧ Same (upd H F (.frz od (.dT (bk.map enc)))) H') ⟨[], upd_same, by rw [List.take_zero]; exact .nil, same_upd eL⟩ (fun j H' _ ⟨_, _, _, s⟩ => s _ _ upd_same) ?_ ?_
  · rintro j x H1 H1' hj ⟨ts, e1, hT1, s1⟩ ⟨rfl, key, v, b, ekv, rfl, eb⟩
    have hj : j < bk.length := by
      rw [List.length_map] at hj
      exact hj
    have ej := List.getElem?_eq_getElem hj
    rw [List.getElem?_map, ej] at ekv
    have ekv := Option.some.inj ekv
    have ek : key = (bk[j]).1.map Sum.inl := (congrArg Prod.fst ekv).symm
    subst ek
    have hm : (bk[j].1, bk[j].2) ∈ bk := List.getElem_mem hj
    have hv : valV (bk.map enc) (bk[j].1.map Sum.inl) = some (V.int bk[j].2) := by
      rw [enc_val, getB_mem nd hm]
      rfl
    have eF1 := s1 _ _ upd_same
    have dg : ∀ H2 : Hp, Same H1' H2 → DGet H2 F (.ref b) (some (V.int bk[j].2)) := fun H2 s2 => .inr ⟨_, _, b, .inr ⟨od, s2 _ _ eF1⟩, rfl, s2 _ _ eb, hv.symm⟩
    refine ⟨h4 _, ?_⟩
    refine ⟨_, h2 _, _, h3 _, F, _, rfl, dg _ (.refl _), rfl, _, rfl, ite2 (fun hz => ?_) (fun hz => ?_)⟩
    rotate_left
    · have tk := take_filter ej nzB
      have hz : bk[j].2 = 0 := Classical.byContradiction fun z => hz (by simp [z])
      refine ⟨ts, e1, ?_, s1⟩
      rw [tk, if_neg (by simp [nzB, hz]), List.append_nil]
      exact hT1
    · have tk := take_filter ej nzB
      have hz : bk[j].2 ≠ 0 := fun z => by simp [z] at hz
      refine ⟨_, h3 _, _, h2 _, _, h3 _, F, _, rfl, dg _ (.refl _), by show 2 ≤ sizeLine; decide, fun t et => ?_⟩
      have st := same_upd (o := .tup [.ref b, .int bk[j].2]) et
      have hln : ts.length ≤ 1000 := by
        have z := hT1.1
        have z2 := List.length_filter_le nzB (bk.take j)
        rw [List.length_take] at z2
        omega
      refine ⟨_, st _ _ e1, by rw [List.length_map]; exact small1000 hln, ts ++ [t], ?_, ?_, ?_⟩
      · rw [upd_same, List.map_append]
        rfl
      · rw [tk, if_pos (by simp [nzB, hz])]
        refine TermsAt.put (TermsAt.snoc (hT1.same st) ⟨b, upd_same, ?_⟩) (st _ _ e1)
        rw [kV_ints] at eb
        exact st _ _ eb
      · exact Same.updN (s1.trans st) eL
  · rintro H1 ⟨ts, e1, hT1, s1⟩
    have eF1 := s1 _ _ upd_same
    rw [List.length_map, List.take_length] at hT1
    refine ⟨eF1, q L ts _ (unlock_same s1 eF) L0 ?_ (hT1.updX eF1 (fun xs z => by cases z))⟩
    rw [upd_ne nLF]
    exact e1
theorem u1 {a c : Nat} (h : a + 64 < c) : a + 1 < c := by omega
end
end Bw
set_option Elab.async false
set_option linter.all false
set_option maxRecDepth 100000
set_option maxHeartbeats 4000000
namespace Bw
open PySem PySem.Spec PyProof.Rows L2
/-! ### the products of a book, falling -/
def fallB (bk : List Tm) (ks : List (List Int)) : List Tm := ks.map fun p => (p, (getB bk p).getD 0)
theorem fallB_perm {bk : List Tm} {ks : List (List Int)} (nd : NdB bk) (hp : ks.Perm (bk.map (·.1))) : (fallB bk ks).Perm bk := by
  have h : (fallB bk ks).Perm ((bk.map (·.1)).map fun p => (p, (getB bk p).getD 0)) := hp.map _
  rw [List.map_map] at h
  have e : bk.map ((fun p => (p, (getB bk p).getD 0)) ∘ (·.1)) = bk.map id := List.map_congr_left fun a ha => by
    show (a.1, (getB bk a.1).getD 0) = a
    rw [getB_mem nd (c := a.2) ha]
    rfl
  rw [e, List.map_id] at h
  exact h
theorem fallB_falls {bk : List Tm} {ks : List (List Int)} (nd : NdB bk) (hp : ks.Perm (bk.map (·.1))) (hw : ks.Pairwise fun x y => HT.lexLt x y = false) : Falls (fallB bk ks) := by
  have n : ks.Nodup := hp.nodup_iff.mpr nd
  unfold Falls fallB
  rw [List.pairwise_map]
  refine (hw.and n).imp fun {x y} h => ?_
  cases e : HT.lexLt y x with
  | true => rfl
  | false => exact absurd (lex_tot h.1 e) h.2
theorem fallB_cn {n M : Nat} {ℓ : (List Int → Int) → Int} {bk : List Tm} {ks : List (List Int)} (B : BookOf n M ℓ bk) (hp : ks.Perm (bk.map (·.1))) (hw : ks.Pairwise fun x y => HT.lexLt x y = false) : Cn ℓ (fallB bk ks) :=
  ⟨fallB_falls B.nd hp hw, fun a ha => B.nz a ((fallB_perm B.nd hp).mem_iff.mp ha), fun φ => by rw [Lf_perm (fallB_perm B.nd hp), B.lf]⟩
theorem fallB_cnF {n M : Nat} {ℓ : (List Int → Int) → Int} {bk : List Tm} {ks : List (List Int)} (nd : NdB bk) (lf : ∀ φ, Lf bk φ = ℓ φ) (hp : ks.Perm (bk.map (·.1))) (hw : ks.Pairwise fun x y => HT.lexLt x y = false) : Cn ℓ ((fallB bk ks).filter nzB) :=
  ⟨List.Pairwise.filter _ (fallB_falls nd hp hw), fun a ha => of_decide_eq_true (List.mem_filter.mp ha).2, fun φ => by rw [Lf_filter, Lf_perm (fallB_perm nd hp), lf]⟩
theorem fallB_take {bk : List Tm} {ks : List (List Int)} {i : Nat} {p : List Int} (h : ks[i]? = some p) : (fallB bk (ks.take (i + 1))) = fallB bk (ks.take i) ++ [(p, (getB bk p).getD 0)] := by
  unfold fallB
  rw [List.take_succ, h, List.map_append]
  rfl
theorem keys_of {H : Hp} : ∀ {bk : List Tm} {bs : List Addr}, IsKeys H (bk.map enc) bs → (∀ b ∈ bs, ∃ q : List Int, H b = some (.tup (q.map V.int))) ∧ bs.map (keyOf H) = bk.map (·.1)
  | [], _, .nil => ⟨fun b hb => by simp at hb, rfl⟩
  | a :: bk, _, .cons (b := b) h r => by
    obtain ⟨i1, i2⟩ := keys_of r
    have h' : H b = some (.tup (a.1.map V.int)) := by
      rw [← kV_ints]
      exact h
    refine ⟨fun c hc => ?_, ?_⟩
    · rcases List.mem_cons.mp hc with rfl | hc
      · exact ⟨_, h'⟩
      · exact i1 c hc
    · rw [List.map_cons, i2, keyOf_at h']
      rfl
section
variable {P : Program} {w : World} {K : PySem.W.Frag} {mg : Str → Option Value} {base : Heap}
end
end Bw
set_option Elab.async false
set_option linter.all false
set_option maxRecDepth 100000
set_option maxHeartbeats 4000000
namespace Bw
open PySem PySem.Spec PyProof.Rows L2
theorem ref_at {ts : List Addr} {i : Nat} {x : V} (h : (ts.map V.ref)[i]? = some x) : ∃ t, ts[i]? = some t ∧ x = .ref t := by
  rw [List.getElem?_map] at h
  cases e : ts[i]? with
  | none =>
    rw [e] at h
    cases h
  | some t =>
    rw [e] at h
    exact ⟨t, rfl, (Option.some.inj h).symm⟩
theorem SqS.same {K : PySem.W.Frag} {b : Bool} {H H' : Hp} {a : Addr} {xs : List V} (s : Same H H') (h : SqS K b H a xs) : SqS K b H' a xs := by
  cases b
  · rcases h with (h | ⟨o, h⟩) | h
    · exact .inl (.inl (s _ _ h))
    · exact .inl (.inr ⟨o, s _ _ h⟩)
    · exact .inr h
  · exact Same.seq s h
section
variable {P : Program} {w : World} {K : PySem.W.Frag} {mg : Str → Option Value} {base : Heap}
abbrev s_gathered : Stmt := topS 88
abbrev n_gathered : List Str := ["terms", "counts", "powers", "count", "key"]
theorem sc_gathered : FnScope n_gathered ["terms"] (defScope s_gathered) := ⟨rfl, rfl, rfl, by decide +kernel, rfl, by decide +kernel, by decide +kernel⟩
def spGath (K : PySem.W.Frag) : Sp := fun vs H Q _ => ∃ (R : Addr) (ts : List Addr) (terms : List Tm) (n m : Nat) (bb : Bool), vs = [.ref R] ∧ SqS K bb H R (ts.map V.ref) ∧ TermsAt H ts terms ∧ terms.length ≤ 1000 ∧ Sized n m terms ∧
  ∀ (p : Addr) (us : List Addr) (r : List Tm) (H' : Hp), Same H H' → H p = none → H' p = some (.tup (us.map V.ref)) → TermsAt H' us r → Cn (Lf terms) r → Sized n (terms.length * m) r → r.length ≤ terms.length → Q (.ref p) H'
theorem ok_gath {f : Addr} {fd : FuncData} (F : Fun K "gathered" "gathered" s_gathered f fd) (T : Tx mg) : FnOk P w K mg base CX0 1 f fd ["terms"] (spGath K) := by
  refine F.ok sc_gathered (fun vs H Q E h => ?_) (fun cdv A outer s H vs Q E hr h => ?_)
  · obtain ⟨R, ts, terms, n, m, bb, rfl, _⟩ := h
    rfl
  · obtain ⟨R, ts, terms, n, m, bb, rfl, hR, hT, hlen, hsz, q⟩ := h
    have hu := hr.units
    refine ⟨_, (pss_cons (ps_set (i := 1) sc_gathered.nd rfl (.inr rfl) pe_dnewT)
  (pss_cons (ps_for PassesOwn.never rfl (p_seq (K := K) (pv 0)) (g_tup (K := K) (n := 2) rfl (pgs_cons (pg_name (i := 2) sc_gathered.nd rfl (.inl rfl)) (pgs_cons (pg_name (i := 3) sc_gathered.nd rfl (.inl rfl)) pgs_nil)))
    (pss_cons (ps_set (i := 4) sc_gathered.nd rfl (.inl rfl) (pe_callTy (c_tup (K := K)) (by rfl) T.tuple (by decide +kernel) (pa_cons (pv 2) pa_nil)))
    (pss_one (ps_dput (u1 hu) (pv 1) (pv 4) (pe_op op_add (pe_dget2 (u1 hu) (pv 1) (pv 4) pe_int ⟨rfl, rfl, rfl, rfl⟩) (pv 3)) rfl))))
  (pss_one (ps_ret (pe_callTy (c_tup (K := K)) (by rfl) T.tuple (by decide +kernel) (pa_cons (pe_lc (own := [("powers", 2)]) (by rfl) sc_gathered.nd (p_list (K := K) (pe_callBK (cr_sortDT rfl) (by rfl) T.sorted (by decide +kernel) (pa_cons (pv 1) pa_nil) (pk_cons pe_bl pk_nil))) (blkOk_by (own := [("powers", 2)]) (N := n_gathered) (sc := defScope s_gathered) (by decide +kernel)) (fun _ _ _ _ _ => (pg_name (i := 2) sc_gathered.nd rfl (.inl rfl))) (fun _ _ _ _ _ => pts_one (pt_cmpR op_ne (pe_dget (u1 hu) (pv 1) (pv 2) (fun _ _ => rfl)) pe_int (nomark _))) (fun _ _ _ _ _ => (pe_tup (pa_cons (pv 2) (pa_cons (pe_dget (u1 hu) (pv 1) (pv 2) (fun _ _ => rfl)) pa_nil))))) pa_nil)))))), ?_⟩
    intro D eD
    have sD := same_upd (o := .dT []) eD
    refine ⟨.ref R, rfl, R, _, bb, rfl, hR.same sD, ?_⟩
    refine for_it (walk_seq (K := K) (b := bb) (a := R) (xs := ts.map V.ref)) (fun i σ H' => ∃ (y2 y3 y4 : Option V) (bk : List Tm), σ = [some (.ref R), some (.ref D), y2, y3, y4] ∧ Same H H' ∧ BkAt H' D bk ∧ NdB bk ∧ Sized n (i * m) bk ∧ (∀ φ, Lf bk φ = Lf (terms.take i) φ) ∧ bk.length ≤ i)
      ⟨none, none, none, [], rfl, sD, upd_same, List.nodup_nil, .nil, fun φ => rfl, Nat.le_refl _⟩ (fun i σ H' _ ⟨_, _, _, _, _, s, _⟩ => hR.same s) ?_ ?_
    · rintro i x σ H1' H1 _ ⟨y2, y3, y4, bk, rfl, s1, eB, nd, sz, lf, hl⟩ ⟨rfl, hx⟩
      obtain ⟨t, et, rfl⟩ := ref_at hx
      obtain ⟨a, ea, b, hb1, hb2⟩ := (hT.same s1).at et
      have hi := (List.getElem?_eq_some_iff.mp ea).1
      have ha := hsz a (List.mem_of_getElem? ea)
      have ek : H1 b = some (.tup ((a.1.map Sum.inl : List Key).map kV)) := by
        rw [kV_ints]
        exact hb2
      have dg : DGet H1 D (.ref b) ((getB bk a.1).map V.int) := by
        rw [← enc_val]
        exact DGet.t eB ek
      refine ⟨t, _, rfl, SqT.of hb1, rfl, _, _, rfl, _, _, rfl, rfl, ?_⟩
      refine ⟨.ref b, rfl, b, _, rfl, .inr ⟨SqT.of hb2, ?_⟩⟩
      refine ⟨.ref D, rfl, D, rfl, .inr ⟨_, .inl eB⟩, .ref b, rfl, _, dg, .int a.2, rfl, (getB bk a.1).getD 0, a.2, ?_, rfl, .ref D, rfl, .ref b, rfl, D, _, rfl, DPut.t eB ek (by rw [List.length_map]; exact small1000 (by omega)), ?_⟩
      · cases getB bk a.1 <;> rfl
      · refine ⟨_, _, _, addB bk a.1 a.2, rfl, Same.updN s1 eD, ?_, putB_keys nd, ?_, fun φ => ?_, ?_⟩
        · show upd _ _ _ _ = _
          rw [upd_same, enc_put]
          rfl
        · have z := sz.add ha.1 ha.2
          rw [← Nat.succ_mul] at z
          exact z
        · rw [Lf_addB nd, lf, List.take_succ, ea, Lf_append]
          show _ = _ + Lf [a] φ
          rw [Lf_cons, Lf_nil]
          omega
        · have := putB_len bk a.1 ((getB bk a.1).getD 0 + a.2)
          show (putB _ _ _).length ≤ _
          omega
    · rintro σ H1 ⟨y2, y3, y4, bk, rfl, s1, eB, nd, sz, lf, hl⟩
      rw [List.length_map] at hl sz lf
      rw [hT.1] at hl sz lf
      rw [List.take_length] at lf
      refine ⟨.ref D, rfl, D, _, bk.map (·.1), rfl, rfl, .inl eB, enc_keys bk, nd_keys nd sz, fun us p3 kt pm pw ep3 => ?_⟩
      have pw : (us.map (keyOf H1)).Pairwise fun x y => HT.lexLt x y = false := by
        rw [List.pairwise_map]
        exact pw
      have sp := same_upd (o := .lst (us.map V.ref)) ep3
      refine ⟨p3, rfl, ⟨_, SqL.of upd_same⟩, fun L eL => ?_⟩
      have e3 : (upd H1 p3 (.lst (us.map V.ref))) p3 = some (.lst (us.map V.ref)) := upd_same
      have lu : us.length = bk.length := by
        have z := pm.length_eq
        rw [List.length_map, List.length_map] at z
        exact z
      generalize (upd H1 p3 (.lst (us.map V.ref))) = H3 at *
      have sH : Same H H3 := s1.trans sp
      have eB3 := sp _ _ eB
      refine lc_list (K := K) (a := p3) (xs := us.map V.ref) (fun j H' => ∃ ts : List Addr, H' L = some (.lst (ts.map V.ref)) ∧ TermsAt H' ts ((fallB bk ((us.map (keyOf H1)).take j)).filter nzB) ∧ Same H3 H') ⟨[], upd_same, .nil, same_upd eL⟩ (fun j H' _ ⟨_, _, _, s⟩ => SqL.of (s _ _ e3)) ?_ ?_
      · rintro j x H4 hx ⟨ts, e4, hT4, s4⟩
        obtain ⟨b, eb, rfl⟩ := ref_at hx
        obtain ⟨q', hq'⟩ := kt b (List.mem_of_getElem? eb)
        have ek : (us.map (keyOf H1))[j]? = some q' := by
          rw [List.getElem?_map, eb]
          show some (keyOf H1 b) = _
          rw [keyOf_at hq']
        have hq4 := s4 _ _ (sp _ _ hq')
        obtain ⟨a, ha, e1⟩ := List.mem_map.mp (pm.mem_iff.mp (List.mem_of_getElem? ek))
        have gb : getB bk q' = some a.2 := getB_mem nd (by rw [← e1]; exact ha)
        have hv : valV (bk.map enc) (q'.map Sum.inl) = some (V.int a.2) := by
          rw [enc_val, gb]
          rfl
        have dg : DGet H4 D (.ref b) (some (.int a.2)) := .inr ⟨_, q'.map Sum.inl, b, .inl (s4 _ _ eB3), rfl, by rw [kV_ints]; exact hq4, hv.symm⟩
        have tk : (fallB bk ((us.map (keyOf H1)).take (j + 1))).filter nzB = (fallB bk ((us.map (keyOf H1)).take j)).filter nzB ++ (if a.2 ≠ 0 then [(q', a.2)] else []) := by
          rw [fallB_take ek, gb, List.filter_append]
          congr 1
          by_cases z : a.2 = 0 <;> simp [nzB, z]
        refine ⟨rfl, .ref D, rfl, .ref b, rfl, D, .int a.2, rfl, dg, rfl, _, rfl, ite2 (fun hz => ?_) (fun hz => ?_)⟩
        · have hz : a.2 ≠ 0 := fun z => by simp [z] at hz
          rw [tk, if_pos hz]
          refine ⟨.ref b, rfl, .ref D, rfl, .ref b, rfl, D, .int a.2, rfl, dg, by show 2 ≤ sizeLine; decide, fun t et => ?_⟩
          have st := same_upd (o := .tup [.ref b, .int a.2]) et
          have lt : ts.length ≤ 1000 := by
            have z := hT4.1
            have z2 := List.length_filter_le nzB (fallB bk ((us.map (keyOf H1)).take j))
            have z3 : (fallB bk ((us.map (keyOf H1)).take j)).length ≤ bk.length := by
              unfold fallB
              rw [List.length_map, List.length_take, List.length_map]
              omega
            omega
          refine ⟨_, st _ _ e4, by rw [List.length_map]; exact small1000 lt, ts ++ [t], ?_, ?_, Same.updN (s4.trans st) eL⟩
          · rw [upd_same, List.map_append]
            rfl
          · exact TermsAt.put (TermsAt.snoc (hT4.same st) ⟨b, upd_same, st _ _ hq4⟩) (st _ _ e4)
        · have hz : a.2 = 0 := Classical.byContradiction fun z => hz (by simp [z])
          rw [tk, if_neg (fun z => z hz), List.append_nil]
          exact ⟨ts, e4, hT4, s4⟩
      · rintro H4 ⟨ts, e4, hT4, s4⟩
        rw [List.length_map, ← List.length_map (f := keyOf H1), List.take_length] at hT4
        refine ⟨L, _, rfl, .inl ⟨SqL.of e4, fun p ep => ?_⟩⟩
        have st := same_upd (o := .tup (ts.map V.ref)) ep
        have pmB := fallB_perm nd pm
        have hle := List.length_filter_le nzB (fallB bk (us.map (keyOf H1)))
        refine q p ts _ _ ((sH.trans s4).trans st) ((sH.trans s4).free ep) upd_same (hT4.same st) (fallB_cnF (n := n) (M := 0) nd lf pm pw) (fun a ha => sz a (pmB.mem_iff.mp (List.mem_filter.mp ha).1)) ?_
        rw [pmB.length_eq] at hle
        omega
end
end Bw
set_option Elab.async false
set_option linter.all false
set_option maxRecDepth 100000
set_option maxHeartbeats 4000000
namespace Bw
open PySem PySem.Spec PyProof.Rows L2
/-! ### the class Sum -/
structure SumC (K : PySem.W.Frag) (mg : Str → Option Value) (C : Addr) : Prop where
  gl : mg "Sum" = some (.ref C)
  cls : Cls K C
  nw : NoAttr K C "width"
  np : NoAttr K C "products"
  ha : PySem.W.findIn K (.ref C) "__class__" = some (some (.builtin "object.__class__"))
  hn : PySem.W.specialIn K (.builtin "object.__class__") "__get__" = some (some (.builtin "getset_descriptor.__get__"))
  htk : PySem.W.takesIn K (.builtin "object.__class__") = some true
  hm : PySem.W.mroIn K C (.type "object") = some true
  self : PySem.W.kitOne K (.ref C) (.ref C) = some true
  kp : PySem.W.keepIn K (.ref C) = true
structure MakS (P : Program) (w : World) (K : PySem.W.Frag) (mg : Str → Option Value) (base : Heap) (k : Nat) (C : Addr) (ps : List Str) (sp : Sp) : Prop where
  ex : ∃ (f : Addr) (fd : FuncData), Mk K C f ∧ FnOk P w K mg base CX0 k f fd ps sp ∧ mg "Sum" = some (.ref C) ∧ Binds K fd ps []
structure MetS (P : Program) (w : World) (K : PySem.W.Frag) (mg : Str → Option Value) (base : Heap) (k : Nat) (C : Addr) (m : Str) (ps : List Str) (sp : Sp) : Prop where
  ex : ∃ (f : Addr) (fd : FuncData), Cls K C ∧ Meth K C m f ∧ FnOk P w K mg base CX0 k f fd ps sp ∧ Binds K fd ps []
section
variable {X : Cx} {ps : List Str} {sp : Sp} {k : Nat} {C : Addr} {m : Str} {o e : Expr} {es : List Expr} {p pos apos : Pos} {t : TA} {ta : TE}
theorem pe_mkS (M : MakS X.prog X.w X.K X.mg X.base k C ps sp) (hr : Room (k + 1) X.A) (hg : Gl X "Sum") (ha : PA X (e :: es) t) (he : starEach (e :: es) X.env = (false, eval e X.env) :: starEach es X.env := by rfl)
    (hpl : (backTo pos (starEach es X.env)).any (·.1) = false := by rfl) : PE X (.Call (.Name "Sum" p) (e :: es) [] pos) (tMake C sp [] E0 t) := by
  obtain ⟨f, fd, mk, F, hm, hb⟩ := M.ex
  exact pe_make mk F hr hg hm hb .nil pass0 ha (by decide) he hpl
theorem pe_mtS {pl : Sem Bool} (M : MetS X.prog X.w X.K X.mg X.base k C m ps sp) (hr : Room k X.A) (ho : PE X o ta) (ha : PA X (e :: es) t) (hst : starEach (e :: es) X.env = (false, eval e X.env) :: starEach es X.env := by rfl)
    (hpl : (backTo pos (starEach es X.env)).any (·.1) = false := by rfl)
    (ht : eval (.Call (.Attribute o m apos) (e :: es) [] pos) X.env = (do
      let ov ← eval o X.env
      standAt apos.atName
      let (f, first) ← holding [ov] (getMethod ov m pl)
      callWith pos f first (backTo pos (starEach (e :: es) X.env)) (backToKw pos (keywordEach [] X.env))) := by rfl) : PE X (.Call (.Attribute o m apos) (e :: es) [] pos) (tMeth C m sp [] E0 ta t) := by
  obtain ⟨f, fd, c, hm, F, hb⟩ := M.ex
  exact pe_meth (pl := pl) ho c hm F hr hb .nil pass0 ha hst hpl ht
theorem pe_mtS0 {pl : Sem Bool} (M : MetS X.prog X.w X.K X.mg X.base k C m ps sp) (hr : Room k X.A) (ho : PE X o ta)
    (ht : eval (.Call (.Attribute o m apos) [] [] pos) X.env = (do
      let ov ← eval o X.env
      standAt apos.atName
      let (f, first) ← holding [ov] (getMethod ov m pl)
      callWith pos f first (backTo pos (starEach [] X.env)) (backToKw pos (keywordEach [] X.env))) := by rfl) : PE X (.Call (.Attribute o m apos) [] [] pos) (tMeth C m sp [] E0 ta tNil) := by
  obtain ⟨f, fd, c, hm, F, hb⟩ := M.ex
  exact pe_meth0 (pl := pl) ho c hm F hr hb .nil pass0 ht
theorem pf {K : PySem.W.Frag} {f : Str} (he : PE X e ta) (hK : X.K = K := by rfl) (hb : attributeBase e f X.env (eval e X.env) = eval e X.env := by rfl) : PE X (.Attribute e f pos) (tFld K ta f) := by
  subst hK
  exact pe_fld he hb
end
def SumAt (C : Addr) (H : Hp) (a : Addr) (n : Nat) (r : List Tm) : Prop := ∃ (dx p : Addr) (us : List Addr), H a = some (.ins C dx [("width", .int n), ("products", .ref p)]) ∧ H p = some (.tup (us.map V.ref)) ∧ TermsAt H us r
theorem SumAt.same {C : Addr} {H H' : Hp} {a : Addr} {n : Nat} {r : List Tm} (s : Same H H') (h : SumAt C H a n r) : SumAt C H' a n r := by
  obtain ⟨dx, p, us, h1, h2, h3⟩ := h
  exact ⟨dx, p, us, s _ _ h1, s _ _ h2, h3.same s⟩
theorem any_rep (n : Nat) : (List.replicate n false).any id = false := by
  rw [List.any_eq_false]
  intro x hx
  rw [List.eq_of_mem_replicate hx]
  decide
theorem FunD.ok0 {P : Program} {w : World} {K : PySem.W.Frag} {mg : Str → Option Value} {base : Heap} {x qual : Str} {params : Arguments} {body : List Stmt} {scope : Scope} {dvs : List V} {kws : List (Str × V)} {f : Addr} {fd : FuncData} {N ps : List Str} {k : Nat} {sp : Sp} (F : FunD K x qual params body scope dvs kws f fd) (S : FnScope N ps scope)
    (len : ∀ vs H Q E, sp vs H Q E → vs.length = ps.length)
    (hbody : ∀ (cdv : Value) (A : Around) (outer : List Env) (s : Shared) (H : Hp) (vs : List V) (Q : VK) (E : XK), Room k (A.deeper (envOfC qual scope s.heap.objs.size f cdv)) → sp vs H Q E →
      ∃ t, PSs (cxOf CX0 P w K mg base N qual scope f cdv A outer s H E).nox body t ∧ t { nx := fun _ H' => Q .non H', rt := Q } (L2.start N vs) H) : FnOk P w K mg base CX0 (k + 1) f fd ps sp := by
  refine F.ok S len fun cdv A outer s H vs Q E hr hsp => ?_
  obtain ⟨t, h, q⟩ := hbody cdv A outer s H vs Q E hr hsp
  exact ⟨t, h.nox, q⟩
section
variable {P : Program} {w : World} {K : PySem.W.Frag} {mg : Str → Option Value} {base : Heap} {C : Addr}
abbrev s_init : Stmt := inClass (topS 104) 0
abbrev n_init : List Str := ["self", "width", "terms", "powers", "count", "products"]
theorem sc_init : FnScope n_init ["self", "width", "terms"] (defScope s_init) := ⟨rfl, rfl, rfl, by decide +kernel, rfl, by decide +kernel, by decide +kernel⟩
def spInit (K : PySem.W.Frag) (C : Addr) : Sp := fun vs H Q _ => ∃ (x dx R : Addr) (ts : List Addr) (terms : List Tm) (n m : Nat) (bb : Bool), vs = [.ref x, .int n, .ref R] ∧ H x = some (.ins C dx []) ∧ SqS K bb H R (ts.map V.ref) ∧ TermsAt H ts terms ∧ terms.length ≤ 400 ∧ Sized n m terms ∧
  ∀ (r : List Tm) (H' : Hp), SameBut x H H' → SumAt C H' x n r → Cn (Lf terms) r → Sized n (terms.length * m) r → r.length ≤ terms.length → Q .non H'
theorem ok_init {f : Addr} {fd : FuncData} {dvs : List V} {kws : List (Str × V)} (F : FunD K "__init__" "Sum.__init__" (defArgs s_init) (defBody s_init) (defScope s_init) dvs kws f fd) (T : Tx mg) (S : SumC K mg C) (c_gathered : Cal P w K mg base CX0 1 "gathered" ["terms"] (spGath K)) : FnOk P w K mg base CX0 2 f fd ["self", "width", "terms"] (spInit K C) := by
  refine FunD.ok0 F sc_init (fun vs H Q E h => ?_) (fun cdv A outer s H vs Q E hr h => ?_)
  · obtain ⟨x, dx, R, ts, terms, n, m, bb, rfl, _⟩ := h
    rfl
  · obtain ⟨x, dx, R, ts, terms, n, m, bb, rfl, hx, hR, hT, hlen, hsz, q⟩ := h
    refine ⟨_, (pss_cons (ps_if (pt_val (pe_callB (c_any (K := K) rfl) (by rfl) T.any (by decide +kernel) (pa_cons (pe_lc (own := [("powers", 3), ("count", 4)]) (by rfl) sc_init.nd (p_seq (K := K) (pv 2)) (blkOk_by (own := [("powers", 3), ("count", 4)]) (N := n_init) (sc := defScope s_init) (by decide +kernel)) (fun _ _ _ _ _ => (g_tup (K := K) (n := 2) rfl (pgs_cons (pg_name (i := 3) sc_init.nd rfl (.inl rfl)) (pgs_cons (pg_name (i := 4) sc_init.nd rfl (.inl rfl)) pgs_nil)))) (fun _ _ _ _ _ => pts_nil) (fun _ _ _ _ _ => (pe_cmpR op_ne (pe_callB (c_len (K := K)) (by rfl) T.len PySem.boot_len (pa_cons (pv 3) pa_nil)) (pv 1) (nomark _)))) pa_nil)))
    pss_never
    pss_nil)
  (pss_cons (ps_set (i := 5) sc_init.nd rfl (.inl rfl) (pe_cal c_gathered hr (by rfl) (pa_cons (pv 2) pa_nil)))
  (pss_cons (ps_if (pt_cmpR op_gt (pe_callB (c_len (K := K)) (by rfl) T.len PySem.boot_len (pa_cons (pv 5) pa_nil)) (pe_gint (by rfl) T.WIDE) (nomark _))
    pss_never
    pss_nil)
  (pss_cons (ps_fld (pv 0) (pv 1) rfl) (pss_one (ps_fld (pv 0) (pv 5) rfl)))))), ?_⟩
    refine ⟨.ref R, rfl, R, _, bb, rfl, hR, fun D eD => ?_⟩
    refine lc_it (walk_seq (K := K) (b := bb) (a := R) (xs := ts.map V.ref)) (fun j H' => H' D = some (.lst ((List.replicate j false).map V.bl)) ∧ Same H H') ⟨upd_same, same_upd eD⟩ (fun j H' _ ⟨_, s⟩ => hR.same s) ?_ ?_
    · rintro j v H1' H1 _ ⟨e1, s1⟩ ⟨rfl, hv⟩
      obtain ⟨t, et, rfl⟩ := ref_at hv
      obtain ⟨a, ea, b, hb1, hb2⟩ := (hT.same s1).at et
      have hi := (List.getElem?_eq_some_iff.mp ea).1
      have za := hsz a (List.mem_of_getElem? ea)
      refine ⟨t, _, rfl, SqT.of hb1, rfl, _, _, rfl, _, _, rfl, rfl, rfl, .ref b, rfl, b, _, rfl, .inr (SqT.of hb2), .int n, rfl, rfl, ?_⟩
      refine ⟨_, e1, by rw [List.length_map, List.length_replicate]; exact small1000 (by omega), ?_, Same.updN s1 eD⟩
      rw [upd_same, List.replicate_succ', List.map_append, List.length_map, za.1, decide_eq_true rfl]
      rfl
    · rintro H1 ⟨e1, s1⟩
      refine ⟨D, _, rfl, SqL.of e1, ?_⟩
      rw [any_rep]
      refine ⟨false, rfl, iteF ?_⟩
      refine ⟨.ref R, rfl, R, ts, terms, n, m, bb, rfl, hR.same s1, hT.same s1, by omega, hsz, fun p us r H2 s2 p0 e2 hT2 cn z2 hl2 => ?_⟩
      refine ⟨.ref p, rfl, p, _, rfl, .inr (SqT.of e2), _, _, rfl, rfl, _, rfl, ite2 (fun hz => ?_) (fun _ => ?_)⟩
      · have z3 := of_decide_eq_true hz
        rw [List.length_map, hT2.1] at z3
        exact absurd z3 (by omega)
      · have hx2 := s2 _ _ (s1 _ _ hx)
        refine ⟨.int n, rfl, .ref x, rfl, x, C, dx, [], rfl, hx2, S.cls, S.nw, by decide, ?_⟩
        refine ⟨.ref p, rfl, .ref x, rfl, x, C, dx, [("width", .int n)], rfl, upd_same, S.cls, S.np, by show 1 < 1000; decide, ?_⟩
        have npx : p ≠ x := ne_of e2 hx2 (by intro z; cases z)
        refine q r _ ((SameBut.upd (SameBut.upd (s1.trans s2).but))) ⟨dx, p, us, ?_, ?_, ?_⟩ cn z2 hl2
        · rw [upd_same]
          rfl
        · rw [upd_ne npx, upd_ne npx]
          exact e2
        · exact TermsAt.updX (TermsAt.updX hT2 hx2 (fun xs z => by cases z)) upd_same (fun xs z => by cases z)
end
end Bw
set_option Elab.async false
set_option linter.all false
set_option maxRecDepth 100000
set_option maxHeartbeats 4000000
namespace Bw
open PySem PySem.Spec PyProof.Rows L2
/-- a def read off its class, by the class's name -/
structure ClsFn (K : PySem.W.Frag) (mg : Str → Option Value) (x m : Str) (C f : Addr) : Prop where
  g : mg x = some (.ref C)
  sg : PySem.W.specialIn K (.ref C) "__getattribute__" = some (some (.builtin "type.__getattribute__"))
  ty : PySem.W.typeIn K (.ref C) = some (.type "type")
  rd : PySem.W.readsIn K C (.type "type") = true
  fc : PySem.W.findCls K (.ref C) (.type "type") m = some (.val (.ref f))
  kf : PySem.W.keepIn K (.ref f) = true
theorem pe_cfun {X : Cx} {x m : Str} {C f : Addr} {CX : CXT} {k : Nat} {fd : FuncData} {ps : List Str} {sp : Sp} {E : XK} {e : Expr} {es : List Expr} {t : TA} {np apos pos : Pos} {pl : Sem Bool} (T : ClsFn X.K X.mg x m C f) (F : FnOk X.prog X.w X.K X.mg X.base CX k f fd ps sp) (hr : Room k X.A) (hg : Gl X x)
    (hb : Binds X.K fd ps []) (hx : Passes CX X E) (ha : PA X (e :: es) t) (hdb : (x == ("__debug__" : Str)) = false := by decide)
    (ht : eval (.Call (.Attribute (.Name x np) m apos) (e :: es) [] pos) X.env = (do
      let ov ← eval (.Name x np) X.env
      standAt apos.atName
      let (f, first) ← holding [ov] (getMethod ov m pl)
      callWith pos f first (backTo pos (starEach (e :: es) X.env)) (backToKw pos (keywordEach [] X.env))) := by rfl)
    (he : starEach (e :: es) X.env = (false, eval e X.env) :: starEach es X.env := by rfl) (hpl : (backTo pos (starEach es X.env)).any (·.1) = false := by rfl) :
    PE X (.Call (.Attribute (.Name x np) m apos) (e :: es) [] pos) (tCall sp [] E t) := by
  refine ⟨fun pins s σ H Q I h => ?_⟩
  refine PySem.W.methodCall_KW (ld_glob I hg T.g ?_ hdb) ht
  obtain ⟨m, fr⟩ := I.fr
  refine PySem.W.method_of_cls fr I.ok.mod.kin T.sg (PySem.W.cls_val fr I.ok.mod.kin T.ty T.rd T.fc rfl ?_)
  show wpAny _ _ (callWith pos (Value.ref f) [] (backTo pos (starEach (e :: es) X.env)) []) _ _ _
  refine PySem.W.callWith_K (h₀ := X.base) I.ok.mod.kin T.kf (thn (ha.run pos pins _ σ H _ (I.tok _) h) fun us s1 ⟨vs, H1, I1, r, q⟩ => ⟨I1.kIn, ?_⟩) he hpl
  exact run_fn F hr hb .nil hx I1 r q
/-! ### raise C(), C with an __init__ of its own that wants nothing -/
theorem pmk_oex0 {X : Cx} {p pos : Pos} {CX : CXT} {x : Str} {C fI : Addr} {k : Nat} {fd : FuncData} {ps : List Str} {sp : Sp} (T : OexC X.K C) (iC : PySem.W.findIn X.K (.ref C) "__init__" = some (some (.ref fI))) (tI : PySem.W.typeIn X.K (.ref fI) = some (.type "function"))
    (F1 : FnOk X.prog X.w X.K X.mg X.base CX k fI fd ps sp) (hr : Room (k + 1) X.A) (hb : Binds X.K fd ps []) (hx : Passes CX X (fun _ _ _ => False)) (hg : Gl X x) (hm : X.mg x = some (.ref C)) (hdb : (x == ("__debug__" : Str)) = false := by decide) :
    PMk X (.Call (.Name x p) [] [] pos) (tMkO C sp [] tNil) := by
  intro pins s1 σ H1 Q I1 h
  obtain ⟨hz, q1⟩ := h
  obtain ⟨nm, q, N, bs, bm, sn, sub, ab, col, dd, k0, k1, k2, k3, k5, hC, hbm⟩ := T.cls
  refine wpAny_Call_Name_kw (ld_glob I1 hg hm ?_ hdb); refine PySem.W.callWith_K0 I1.kIn T.kC ?_
  show wpAny _ _ (call (.ref C) []) _ _ _
  obtain ⟨hp, g, dr, tk, os⟩ := s1
  have hsz : hp.objs.size ≤ hp.objs.size + 1 := Nat.le_succ _
  have hn : H1 (hp.objs.size + 1) = none := I1.hok.fresh hsz
  have hq := q1 (hp.objs.size + 1) hn
  have kk : ∀ b o, hp.get? b = some o → ((hp.push (PySem.W.kdv_tup [])).push (PySem.HandSPX.excO C hp.objs.size)).get? b = some o := fun b o e => Heap.get?_push_of_some _ (Heap.get?_push_of_some _ e)
  have hget : ((hp.push (PySem.W.kdv_tup [])).push (PySem.HandSPX.excO C hp.objs.size)).get? (hp.objs.size + 1) = some (PySem.HandSPX.excO C hp.objs.size) := by heap_get
  have I2 : L2.Inv X pins σ (upd H1 (hp.objs.size + 1) (exo (hp.objs.size + 1) C none)) ⟨(hp.push (PySem.W.kdv_tup [])).push (PySem.HandSPX.excO C hp.objs.size), g, dr, tk, os⟩ := I1.laid (t' := tk) (a := hp.objs.size + 1) (o := exo (hp.objs.size + 1) C none) (h' := (hp.push (PySem.W.kdv_tup [])).push (PySem.HandSPX.excO C hp.objs.size)) kk hsz (exo_ok hget)
  have r2 : Vals [V.ref (hp.objs.size + 1)] [Value.ref (hp.objs.size + 1)] := .cons rfl .nil
  have hl : ([Value.ref (hp.objs.size + 1)] ++ ([] : List Value)).length = ps.length := F1.len _ _ _ _ hq
  refine wpAny_call (PySem.HandSPX.call_own F.excBase_ValueError (fun Y => PySem.HandSPX.refsVE_contains Y bm hbm) (I1.kIn _ _ hC) (PySem.W.looks_findIn I1.kIn iC) (fun self => PySem.W.bind_fn I1.kIn self tI) (Nat.zero_le _)
    (codeAny_mono (F1.run _ X.stack _ _ ⟨[Value.ref (hp.objs.size + 1)], []⟩ [Value.ref (hp.objs.size + 1)] _ _ (fun _ _ _ => False) (hr.make C [] []) (I2.env0.make C [] []) (hb _ [Value.ref (hp.objs.size + 1)] I2.kIn hl) r2 hq) fun r s' hq' => ?_))
  cases r with
  | error er => exact hx pins σ _ _ er s' I2 hq'
  | ok fl =>
    cases fl with
    | ret u =>
      obtain ⟨v, H2, os2, bare2, un2, hok2, rv, ev, d, fs, ea, ed, hd1, q2⟩ := hq'
      subst ev
      obtain ⟨h2, g2, d2, t2, os'⟩ := s'
      exact ⟨rv, mk_end (raises_own T.exC T.tyC) I1 hsz kk un2 hok2 os2 bare2 ea ed hd1 q2⟩
    | next => exact False.elim hq'
    | brk => exact False.elim hq'
    | cont => exact False.elim hq'
/-- f(k = e, ..), nothing by place -/
def tCallK0 (sp : Sp) (gV : List V → List V → List V) (E : XK) (tk : TA) : TE := fun σ H Q => tk σ H fun zs H2 => sp (gV [] zs) H2 Q E
theorem pe_callK0 {X : Cx} {CX : CXT} {k : Nat} {f : Addr} {fd : FuncData} {ps ks : List Str} {sp : Sp} {E : XK} {x : Str} {p pos : Pos} {kws : List Keyword} {tk : TA} {g : List Value → List Value → List Value} {gV : List V → List V → List V}
    (F : FnOk X.prog X.w X.K X.mg X.base CX k f fd ps sp) (hr : Room k X.A) (hg : Gl X x) (hm : X.mg x = some (.ref f)) (hk : PySem.W.keepIn X.K (.ref f) = true) (hb : KBinds X.K fd ps ks g gV) (hx : Passes CX X E)
    (hkw : PK X kws tk) (hall : (backToKw pos (keywordEach kws X.env)).all (·.1.isSome) = true := by rfl) (hks : (backToKw pos (keywordEach kws X.env)).filterMap (·.1) = ks := by rfl)
    (hdb : (x == ("__debug__" : Str)) = false := by decide) (hpl : ((backTo pos (starEach [] X.env)).any (·.1) || (backToKw pos (keywordEach kws X.env)).any (·.1.isNone)) = false := by rfl) :
    PE X (.Call (.Name x p) [] kws pos) (tCallK0 sp gV E tk) := by
  refine ⟨fun pins s σ H Q I h => ?_⟩
  refine wpAny_Call_Name_kw (ld_glob I hg hm ?_ hdb)
  refine PySem.W.callWith_KW0 (h₀ := X.base) I.ok.mod.kin hk hall (thn (hkw.run pos pins s σ H _ I h) fun ws s2 ⟨zs, H2, I2, rz, q2⟩ => ⟨I2.kIn, ?_⟩) hpl
  rw [hks]
  exact run_fnk (us := []) (vs := []) F hr hb hx I2 .nil rz q2
theorem it_walk {J : It} {n : Nat} {G : Hp → Prop} {Y : Nat → Hp → V → Hp → Prop} (wk : Walk J n G Y) {H1 : Hp} {Qd : Hp → Prop} {Body : V → Hp → (Hp → Prop) → Prop} (Pv : Nat → Hp → Prop) (h0 : Pv 0 H1) (hG : ∀ i H, i ≤ n → Pv i H → G H)
    (hs : ∀ i x H H', i < n → Pv i H → Y i H x H' → Body x H' (Pv (i + 1))) (hd : ∀ H, Pv n H → Qd H) :
    ∃ W : Nat → Nat → Hp → Prop, (∃ m, W 0 m H1) ∧ ∀ i m H, W i m H → (J.stop i H ∧ Qd H) ∨ (J.go i H ∧ ∃ Nx : Hp → Prop, (∀ H', Nx H' → ∃ m', m' < m ∧ W (i + 1) m' H') ∧ ∀ x H', J.yld i H x H' → Body x H' Nx) := by
  refine ⟨fun i m H => m = n - i ∧ i ≤ n ∧ Pv i H, ⟨n, rfl, Nat.zero_le _, h0⟩, ?_⟩
  rintro i m H ⟨rfl, hi, p⟩
  have q := hG i H hi p
  by_cases hlt : i < n
  · exact .inr ⟨wk.goes i H hlt q, Pv (i + 1), fun H' p' => ⟨n - (i + 1), by omega, rfl, hlt, p'⟩, fun x H' y => hs i x H H' hlt p (wk.yields i H x H' hlt q y)⟩
  · have e : i = n := by omega
    subst e
    exact .inl ⟨wk.stops H q, hd H p⟩
section
variable {X : Cx} {K : PySem.W.Frag}
theorem p_bmR {o e : Expr} {es : List Expr} {to : TE} {t : TA} {name : Str} {apos cpos : Pos} {T id : String} {r : V → List V → Hp → VK → Prop} (pa : PlainAttrs T) (slot : Slot T name id) (hty : typeOf (.builtin id) = pure (.type "method_descriptor")) (hm : MtR X id r) (ho : PE X o to) (ha : PA X (e :: es) t) (hK : X.K = K := by rfl)
    (hbase : attributeBase o name X.env (eval o X.env) = eval o X.env := by rfl)
    (hfew : ((backTo cpos (starEach (e :: es) X.env)).all (fun x => !x.1) && (backToKw cpos (keywordEach [] X.env)).all (fun x => x.1.isSome) && decide ((e :: es).length + ([] : List Keyword).length + (if ([] : List Keyword).isEmpty then 0 else 1) < 30)) = true := by rfl)
    (hline : (apos.endLine == cpos.line) = true := by rfl) (hs : starEach (e :: es) X.env = (false, eval e X.env) :: starEach es X.env := by rfl) (hplain : (backTo cpos (starEach es X.env)).any (·.1) = false := by rfl) :
    PE X (.Call (.Attribute o name apos) (e :: es) [] cpos) (tBM K T r to t) := by
  subst hK
  exact pe_bm pa slot hty hm ho ha hbase hfew hline hs hplain
theorem c_max (hc : X.calm = true) (h : X.K = K := by rfl) : CallR X (.builtin "max") (rMax K) := by
  subst h
  exact cr_max hc
end
end Bw
set_option Elab.async false
set_option linter.all false
set_option maxRecDepth 100000
set_option maxHeartbeats 4000000
namespace Bw
open PySem PySem.Spec PyProof.Rows L2 LamX
/-! ### try: .. except x as n: .. and more clauses, where the first one takes whatever is raised -/
def wAs1 (K : PySem.W.Frag) (c : Value) (i : Nat) (ts : Addr → Value → Option Addr → TS) (D : Ends) : WX := fun cls d σ H =>
  PySem.W.exmOne K cls c = some true ∧ ∀ a, H a = none → ts a cls d { nx := fun σ' H' => D.nx (σ'.set i none) H', rt := D.rt, bk := fun σ' H' => D.bk (σ'.set i none) H', ct := fun σ' H' => D.ct (σ'.set i none) H' } (σ.set i (some (.ref a))) H
theorem ps_try_as1 {X : Cx} {x n : Str} {c : Value} {i : Nat} {body suite : List Stmt} {b₀ : Stmt} {np pos pos' : Pos} {tb : WX → TS} {ts : Addr → Value → Option Addr → TS} {hds : List ExceptHandler} (hs : X.stack = X.env :: X.outer) (hf : X.env.frame = some X.env.locals) (hN : X.N.Nodup) (hi : X.N[i]? = some n) (hln : X.env.kindOf n = some .local) (hc : Names X x c)
    (hb : ∀ (W : WX) (pn : List (Addr × Obj)) (xe : Value → Shared → Prop), Takes (X.tr pn xe) W → PassesOwn (model X.prog X.w) X.A X.env xe → PSs (X.tr pn xe) body (tb W))
    (hsu : ∀ (a : Addr) (oe : Obj) (cls : Value) (d : Option Addr) (pn : List (Addr × Obj)), Zc cls d oe → (∃ vs, oe.data = .fields vs) → PSs (X.suite a ((a, oe) :: pn)) (b₀ :: suite) (ts a cls d)) :
    PS X (.Try body (.ExceptHandler (some (.Name x np)) (some n) (b₀ :: suite) pos' :: hds) [] [] pos) (fun D σ H => tb (wAs1 X.K c i ts D) D σ H) := by
  refine ⟨fun pins s σ H D I h => ?_⟩
  have ok := I.ok
  have hfr : X.A.frames = some (X.env :: X.outer) := by rw [ok.frames, hs]
  have hloc : Loc X.env.scope n := .inl hln
  refine wpAny_Try_except ?_
  refine wpAny_mono ((hb (wAs1 X.K c i ts D) (X.pn ++ pins) (fun e s₁ => wpAny (model X.prog X.w) X.A (noteFrame e X.env) (fun _ s₂ => wpAny (model X.prog X.w) X.A (setFlight e none) (fun _ s₃ => wpAny (model X.prog X.w) X.A (handleBy e X.env (.ExceptHandler (some (.Name x np)) (some n) (b₀ :: suite) pos' :: hds)) (SP X pins D) X.xe s₃) X.xe s₂) X.xe s₁) (fun u s' xx => ?_) PassesOwn.looking).run [] s σ H D (I.toTry _) h) (fun f s1 hsp => ?_) (fun e s1 he => he)
  · obtain ⟨a, B, sI, pins', σ', H', cls, d, rfl, J', nb, up, sky, na, os, ag, hb1, hyes⟩ := xx
    have J : L2.Inv X pins σ' H' sI := J'.ofTry ok
    have sky' : Sky B (X.env :: X.outer) a (Zc cls d) X.env.locals s'.heap := by rw [← hs]; exact sky
    show wpAny (model X.prog X.w) X.A (noteFrame (.ref a) X.env) _ _ _
    refine Sky.land Zc.steady hfr hf sky' fun h3 fl3 up3 => ?_
    have J3 : L2.Inv X pins σ' H' { s' with heap := h3 } := J.landed nb fl3.1 (up.trans up3) os ag
    obtain ⟨oe3, vs3, he3, hz3, hd3⟩ := fl3.there
    have nfr : a ∉ frs (X.env :: X.outer) := fun hm => by
      obtain ⟨_, o', e', hnf⟩ := fl3.2.2.1.mem hm
      rw [he3] at e'; cases e'
      exact hnf _ hd3
    have nL : a ≠ X.env.locals := fun z => nfr (List.mem_filterMap.mpr ⟨X.env, List.mem_cons_self, by rw [hf, z]⟩)
    have nF : a ∉ X.fs := fun hm => by
      obtain ⟨e, he, q⟩ := List.mem_filterMap.mp hm
      exact nfr (List.mem_filterMap.mpr ⟨e, List.mem_cons_of_mem _ he, q⟩)
    have S3 := J3.suite he3 hd3 na nL nF
    refine wpAny_handleBy_cons (codeAny_handlers_test ?_) (by intro q; cases q)
    have LT : PySem.W.Looks (model X.prog X.w) h3 (typeOf (.ref a)) cls := fun A Q E s k q => wpAny_typeOf_ref (k _ _ he3) (by rw [hz3.1]; exact q)
    have LM := PySem.W.exm_one (M := model X.prog X.w) (J3.kIn) LT hb1
    have test : ∀ {Q : Value → Shared → Prop} {E : Value → Shared → Prop}, Q c { s' with heap := h3 } → wpAny (model X.prog X.w) (X.A.mark (some (.ref a))) (eval (.Name x np) X.env) Q E { s' with heap := h3 } := fun {Q E} q => by
      obtain ⟨hg, hdbg, hm | ⟨hm, hv, hnn⟩⟩ := hc
      · exact ld_glob (X := X.suite a ((a, oe3) :: (X.pn ++ pins))) S3 hg hm q hdbg
      · exact ld_blt (X := X.suite a ((a, oe3) :: (X.pn ++ pins))) S3 hg hm hv q hnn hdbg
    refine test (LM.here ?_)
    refine codeAny_handlers_suite_as ?_
    refine HandSPX.lands_againZ fl3 fun h4 fl4 up4 => ?_
    have J4 : L2.Inv X pins σ' H' { s' with heap := h4 } := J.landed nb fl4.1 ((up.trans up3).trans up4) os ag
    obtain ⟨oe4, vs4, he4, hz4, hd4⟩ := fl4.there
    have S4 := J4.suite he4 hd4 na nL nF
    refine store_ok (X := X.suite a ((a, oe4) :: (X.pn ++ pins))) (v := .ref a) S4 hN hi hloc rfl (fun s5 S5 => ?_) (.inr hln)
    refine wpAny_mono ((hsu a oe4 cls d (X.pn ++ pins) hz4 ⟨_, hd4⟩).run [] s5 _ H' _ S5 (hyes a na)) (fun f s6 hsp => ?_) (fun _ _ z => False.elim z)
    have end_ : ∀ {σ6 : L2.St} {H6 : Hp} {Q : Shared → Prop}, L2.Inv (X.suite a ((a, oe4) :: (X.pn ++ pins))) [] σ6 H6 s6 → (∀ s7, L2.Inv X pins (σ6.set i none) H6 s7 → Q s7) → wpAny (model X.prog X.w) X.A (do bindName X.env n .none; unbindBehindTheSuite X.env n pos') (fun _ s7 => Q s7) X.xe s6 := fun {σ6 H6 Q} S6 hq => gone_ok (S6.unsuite ok) hN hi hln hq
    cases f with
    | next => exact let ⟨σ6, H6, S6, q6⟩ := hsp; end_ S6 fun s7 J7 => ⟨_, _, J7, q6⟩
    | brk => exact let ⟨σ6, H6, S6, q6⟩ := hsp; end_ S6 fun s7 J7 => ⟨_, _, J7, q6⟩
    | cont => exact let ⟨σ6, H6, S6, q6⟩ := hsp; end_ S6 fun s7 J7 => ⟨_, _, J7, q6⟩
    | ret u => exact let ⟨v6, σ6, H6, S6, r6, q6⟩ := hsp; end_ S6 fun s7 J7 => ⟨_, _, _, J7, r6, q6⟩
  · cases f with
    | next => exact let ⟨σ', H', J', q⟩ := hsp; wpAny_execs_nil ⟨σ', H', J'.ofTry ok, q⟩
    | brk => exact let ⟨σ', H', J', q⟩ := hsp; ⟨σ', H', J'.ofTry ok, q⟩
    | cont => exact let ⟨σ', H', J', q⟩ := hsp; ⟨σ', H', J'.ofTry ok, q⟩
    | ret u => exact let ⟨v, σ', H', J', r, q⟩ := hsp; ⟨v, σ', H', J'.ofTry ok, r, q⟩
/-! ### e.n of a caught error whose class is known only then -/
def tXfD (K : PySem.W.Frag) (a : Addr) (cls : Value) (d : Option Addr) (n : Str) (i : Nat) : TE := fun σ H Q => σ[i]? = some (some (.ref a)) ∧ ∃ (C dd : Addr) (fs : List (Str × V)) (v : V), cls = .ref C ∧ XfC K C ∧ PySem.W.findIn K (.ref C) n = some none ∧ d = some dd ∧ H dd = some (.xd fs) ∧ fs.lookup n = some v ∧ Q v H
theorem pe_xfD {X : Cx} {a : Addr} {oe : Obj} {cls : Value} {d : Option Addr} {pn : List (Addr × Obj)} {e : Expr} {i : Nat} {pos : Pos} {n : Str} (hz : Zc cls d oe) (hf : ∃ vs, oe.data = .fields vs) (he : PE (X.suite a ((a, oe) :: pn)) e (tVar i)) (hb : attributeBase e n X.env (eval e X.env) = eval e X.env := by rfl) :
    PE (X.suite a ((a, oe) :: pn)) (.Attribute e n pos) (tXfD X.K a cls d n i) := by
  refine ⟨fun pins s σ H Q I h => ?_⟩
  obtain ⟨h1, C, dd, fs, v, rfl, T, hno, rfl, h2, h3, q⟩ := h
  exact (pe_xf T hno hz hf he hb).run pins s σ H Q I ⟨.ref a, h1, rfl, rfl, dd, fs, v, rfl, h2, h3, q⟩
/-! ### the word of a refusal, or none -/
/-- an error that a call may let out, with its word -/
def ErrAt (K : PySem.W.Frag) (CB : Addr) (cls : Value) (d : Option Addr) (H : Hp) (v : V) : Prop := ∃ (C dd : Addr) (fs : List (Str × V)), cls = .ref C ∧ d = some dd ∧ PySem.W.exmOne K (.ref C) (.ref CB) = some true ∧ XfC K C ∧ PySem.W.findIn K (.ref C) "word" = some none ∧ H dd = some (.xd fs) ∧ fs.lookup ("word" : Str) = some v
def TWord (K : PySem.W.Frag) (CB : Addr) : (XK → Hp → VK → Prop) → Hp → VK → Prop := fun tl H Q => tl (fun cls d H' => ∃ v, ErrAt K CB cls d H' v ∧ Q v H') H (fun _ H' => Q (.str "") H')
theorem takes_len {X : Cx} {W : WX} (tk : Takes X W) : Takes X (fun cls d σ H => σ.length = X.N.length → W cls d σ H) := fun u s' xx => by
  obtain ⟨a, B, sI, pins', σ', H', cls, d, rfl, J', nb, up, sky, na, os, ag, hw⟩ := xx
  exact tk _ _ ⟨a, B, sI, pins', σ', H', cls, d, rfl, J', nb, up, sky, na, os, ag, hw J'.len⟩
theorem word_gives {X : Cx} {Ng : List Str} {x a q : Str} {sg : Scope} {g CB : Addr} {cdg : Value} {j : Nat} {h2 : ExceptHandler} {p1 p2 p3 p4 p5 p6 p7 p8 p9 p10 p11 : Pos} (hge : sg.names.lookup ("BudError" : Str) = some .globalImplicit) (hme : X.mg "BudError" = some (.ref CB)) (hNd : Ng.Nodup) (hN1 : Ng[1]? = some ("e" : Str)) (hk : sg.names.lookup ("e" : Str) = some .local)
    (h0 : ∀ f : Addr, (L2.start Ng [V.ref f])[0]? = some (some (V.ref f))) :
    GivesTo X Ng x sg g cdg [.Try [.Expr (.Call (.Name a p1) [] [] p2) p3] [.ExceptHandler (some (.Name "BudError" p4)) (some "e") [.Return (some (.Attribute (.Name "e" p5) "word" p6)) p7] p8, h2] [] [] p9, .Return (some (.Constant (.str "") j p10)) p11] a q (TWord X.K CB) := by
  intro f c' s H Q tl act hc h
  have hgl : Gl (cxOf C8.CX0 X.prog X.w X.K X.mg X.base Ng x sg g cdg X.A X.stack s H C8.E0).nox "BudError" := hge
  refine ⟨_, pss_cons (ps_try_as1 (X := (cxOf C8.CX0 X.prog X.w X.K X.mg X.base Ng x sg g cdg X.A X.stack s H C8.E0).nox) (c := .ref CB) (i := 1)
      (tb := fun W D σ H => ∃ Ech : XK, (∀ cls d σ' H', Ech cls d H' → σ'.length = Ng.length → W cls d σ' H') ∧ σ[0]? = some (some (.ref f)) ∧ H c' = some (CodeO c' q) ∧ tl Ech H fun _ H' => D.nx σ H')
      (ts := fun a cls d => tRet (tXfD X.K a cls d "word" 1)) rfl rfl hNd hN1 hk ⟨hgl, by decide, .inl hme⟩ (fun W pn xe tk _ => ?_) (fun b oe cls d pn hz hf => pss_one (ps_ret (pe_xfD hz hf (pe_var hN1 (.inl hk)))))) (pss_one (ps_ret pe_str)), ?_⟩
  · refine ⟨fun pins s' σ H' D I h' => ?_⟩
    obtain ⟨Ech, hW, h1, h2, h3⟩ := h'
    have hp := act _ pn xe Ech p1 p2 (takes_len tk) hW
    have hq := pss_one (ps_expr (pos := p3) hp)
    exact hq.run pins s' σ H' D I ⟨h1, h2, h3⟩
  · refine ⟨fun cls d H' => ∃ v, ErrAt X.K CB cls d H' v ∧ Q v H', fun cls d σ' H' hE hl => ?_, h0 f, hc, h⟩
    obtain ⟨v, ⟨C, dd, fs, rfl, rfl, e1, e2, e3, e4, e5⟩, hQ⟩ := hE
    refine ⟨e1, fun b _ => ⟨?_, C, dd, fs, v, rfl, e2, e3, rfl, e4, e5, hQ⟩⟩
    have : 1 < σ'.length := by
      rw [hl]
      exact (List.getElem?_eq_some_iff.mp hN1).1
    rw [List.getElem?_set_self this]
end Bw
set_option Elab.async false
set_option linter.all false
set_option maxRecDepth 100000
set_option maxHeartbeats 4000000
/-! ### own errors right over a built-in error other than ValueError -/
namespace Bw
open PySem PySem.Spec PyProof.Rows L2
section
open PySem.W PySem.Calls PySem.HandSPX Builtin Builtin.ObjectAttr
variable {prog : Program} {w : World} {A : Around} {R : Result → Shared → Prop} {hp : Heap} {g : Array GenState} {d : Drawn} {t : Nat} {os : OsState}
theorem osaB {K : W.Frag} {B : String} {tl : List Value} {name : Str} {tk : Tok} {v : Value} {x C : Addr} {ox : Obj} {od : Option Obj} {cd : ClassData} (SB : StoreFacts B tl "object.__setattr__" "object") (ob : tl.contains (.type "object") = true)
    (X : K.In hp) (I : W.InstAt hp x ox C od) (hcd : W.clsIn K C = some cd) (hm : cd.mro = .ref C :: tl) (ha : W.findIn K (.ref C) name = some none)
    (hq : wpAny (model prog w) A.in1 (storeInOwnDict (.ref x) (.ref C) (.str name tk) name v false) (fun fin s' => match fin with | .done f => R (.ok f) s' | .again c' => c'.quiet = true ∧ codeAny (model prog w) A c' R s') (fun e s' => R (.error e) s') ⟨hp, g, d, t, os⟩) : codeAny (model prog w) A (.call (.builtin "object.__setattr__") ⟨[.ref x, .str name tk, v], []⟩) R ⟨hp, g, d, t, os⟩ := by
  have has : (Value.ref C :: tl).contains (.type "object") = true := by rw [List.contains_cons, ob, Bool.or_true]
  have mi : W.mroIn K C (.type "object") = some true := by unfold W.mroIn; rw [hcd, Option.bind_some, hm, if_neg (show ¬ (List.isEmpty (Value.ref C :: tl) = true) from Bool.false_ne_true), has]
  refine codeAny_call_builtin PySem.F.store_object.slot.plain PySem.F.store_object.entry (@W.check_slot (model prog w) _ _ ⟨hp, g, d, t, os⟩ "object.__setattr__" "object" "__setattr__" (.ref x) [.str name tk, v] [] _ PySem.F.store_object.kind PySem.F.store_object.split (I.type.andThen (W.looks_mroIn X mi)) (PySem.F.store_object.args (.ref x) (.str name tk) v) ?_)
  have mr : W.Looks (model prog w) hp (mroOf (.ref C)) cd.mro := (W.looks_clsIn X hcd).andThen .now
  have noT : W.Looks (model prog w) hp (storeTaker? none) none := .now
  rw [W.osa_eq, refuse_eq]; refine wpAny_bind (wpAny_bind (I.type.at (wpAny_bind (mr.at ?_)))); rw [hm, refuseLoop_ref, SB.passes]
  exact wpAny_pure (wpAny_bind (I.type.at (wpAny_bind ((W.looks_findIn X ha).at (wpAny_bind (noT.at hq))))))
theorem osaB_new {K : W.Frag} {B : String} {tl : List Value} {name : Str} {tk : Tok} {v : Value} {x C : Addr} {fv : Array Value} {cd : ClassData} (SB : StoreFacts B tl "object.__setattr__" "object") (ob : tl.contains (.type "object") = true) (X : K.In hp) (hx : hp.get? x = some { cls := .ref C, data := .fields fv }) (hcd : W.clsIn K C = some cd) (hm : cd.mro = .ref C :: tl) (hh : cd.hasDict = true) (ha : W.findIn K (.ref C) name = some none)
    (hq : ∀ h' tk' dx, (∀ b o, b ≠ x → hp.get? b = some o → h'.get? b = some o) → hp.objs.size ≤ dx → dx ≠ x → h'.get? x = some { cls := .ref C, dict := some dx, data := .fields fv } → h'.Ns1 dx (fun y => if y = name then some v else none) → R (.ok (.ret .none)) ⟨h', g, d, tk', os⟩) : codeAny (model prog w) A (.call (.builtin "object.__setattr__") ⟨[.ref x, .str name tk, v], []⟩) R ⟨hp, g, d, t, os⟩ := by
  have xs : x ≠ hp.objs.size := Nat.ne_of_lt (Heap.lt_size hx)
  refine osaB SB ob X (ox := { cls := .ref C, data := .fields fv }) (od := none) ⟨hx, rfl, rfl, trivial⟩ hcd hm ha ?_
  have kl : W.Looks (model prog w) hp (classData C) cd := W.looks_clsIn X hcd
  obtain ⟨_, _, _, _, _, hd, _, _, _, _, _⟩ := cd; dsimp only at hh; subst hh; unfold storeInOwnDict ownDictForStores
  repeat (first | with_reducible refine HandSPX.store_in_new ?_ ?_ | with_reducible refine wpAny_loadPart_at hx ?_ | with_reducible refine kl.at ?_ | wp_step)
  · exact ⟨_, #[], _, (Heap.get?_update_ne _ _ _ _ xs.symm).trans (Heap.get?_push_at rfl rfl), rfl, fun e he => absurd he (by simp), fun _ => rfl⟩
  · intro h' tk' hn' hs
    have hx1 : (hp.push { cls := .type "dict", data := .dict #[] }).get? x = some { cls := .ref C, data := .fields fv } := Heap.get?_push_of_some _ hx
    exact hq h' tk' hp.objs.size (fun b o hb ho => (hs.2 b (Nat.ne_of_lt (Heap.lt_size ho))).trans ((Heap.get?_update_ne _ _ _ _ hb).trans (Heap.get?_push_of_some _ ho))) (Nat.le_refl _) xs.symm ((hs.2 x xs).trans (Heap.get?_update_self _ hx1 rfl)) hn'
theorem osaB_old {K : W.Frag} {B : String} {tl : List Value} {name : Str} {tk : Tok} {v : Value} {x C dx : Addr} {fv : Array Value} {cd : ClassData} {m0 : Str → Option Value} {nl : List Str} (SB : StoreFacts B tl "object.__setattr__" "object") (ob : tl.contains (.type "object") = true)
    (X : K.In hp) (hx : hp.get? x = some { cls := .ref C, dict := some dx, data := .fields fv }) (hns : hp.Ns1 dx m0) (hw : Within m0 nl) (hz : nl.length ≤ 1000) (hcd : W.clsIn K C = some cd) (hm : cd.mro = .ref C :: tl) (hh : cd.hasDict = true) (ha : W.findIn K (.ref C) name = some none)
    (hq : ∀ h' tk', (∀ b o, b ≠ dx → hp.get? b = some o → h'.get? b = some o) → h'.Ns1 dx (fun y => if y = name then some v else m0 y) → R (.ok (.ret .none)) ⟨h', g, d, tk', os⟩) : codeAny (model prog w) A (.call (.builtin "object.__setattr__") ⟨[.ref x, .str name tk, v], []⟩) R ⟨hp, g, d, t, os⟩ := by
  obtain ⟨oD, _, _, hoD, _, _⟩ := hns.count hw
  refine osaB SB ob X (ox := { cls := .ref C, dict := some dx, data := .fields fv }) (od := some oD) ⟨hx, rfl, rfl, hoD⟩ hcd hm ha ?_
  have kl : W.Looks (model prog w) hp (classData C) cd := W.looks_clsIn X hcd
  obtain ⟨_, _, _, _, _, hd, _, _, _, _, _⟩ := cd; dsimp only at hh; subst hh; unfold storeInOwnDict ownDictForStores
  repeat (first | with_reducible refine PySem.OEX.store_in_old hns hw hz ?_ | with_reducible refine wpAny_loadPart_at hx ?_ | with_reducible refine kl.at ?_ | wp_step)
  exact fun h' tk' hn' hs => hq h' tk' (fun b o hb ho => (hs.2 b hb).trans ho) hn'
end
/-- what the written part says of such a class -/
structure OexB (K : PySem.W.Frag) (C : Addr) (B nw ini : String) (tl : List Value) : Prop where
  cls : ∃ nm q N bs sn sub ab col dd k0 k1 k2 k3 k5, K.lookup C = some (excClassObj nm q C N bs tl true sn sub ab col dd k0 k1 k2 k3 k5 nw)
  fb : ExcBaseFacts B nw ini tl
  st : PySem.StoreFacts B tl "object.__setattr__" "object"
  ob : tl.contains (.type "object") = true
  sa : PySem.W.findIn K (.ref C) "__setattr__" = some (some (.builtin "object.__setattr__"))
  exC : PySem.W.subIn K (.ref C) (.type "BaseException") = some true
  tyC : PySem.W.typeIn K (.ref C) = some (.type "type")
  kC : PySem.W.keepIn K (.ref C) = true
section
variable {X : Cx} {pins : List (Addr × Obj)} {σ : L2.St} {H : Hp} {s : Shared} {a C dx : Addr} {f : Str} {y : V} {u : Value} {fs : List (Str × V)} {Q : Unit → Shared → Prop} {E : Value → Shared → Prop} {A : Around} {B nw ini : String} {tl : List Value}
theorem ostB_new (T : OexB X.K C B nw ini tl) (I : L2.Inv X pins σ H s) (e : H a = some (exo a C none)) (hno : PySem.W.findIn X.K (.ref C) f = some none) (ry : RelV y u) (h : ∀ dx s', H dx = none → dx ≠ a → L2.Inv X pins σ (upd (upd H dx (exd dx [(f, y)])) a (exo a C (some dx))) s' → Q () s') : wpAny (model X.prog X.w) A (setAttr (.ref a) f u) Q E s := by
  obtain ⟨nm, q, N, bs, sn, sub, ab, col, dd, k0, k1, k2, k3, k5, hC⟩ := T.cls
  have hcl : PySem.W.clsIn X.K C = some { name := nm, bases := bs, mro := .ref C :: tl, ns := N, qualname := q, hasDict := true, slotNames := sn, subclasses := sub, abstract := ab, collection := col, hasDel := false } := by unfold PySem.W.clsIn; rw [hC] <;> rfl
  obtain ⟨t1, ho⟩ := exo_at I.hok e; obtain ⟨hp, g, d, t, os⟩ := s
  refine PySem.W.set_plain I.kIn (ox := { cls := .ref C, dict := none, data := .fields #[.ref t1, .none, .none, .none, .bool false, .none] }) (od := none) ⟨ho, rfl, rfl, trivial⟩ T.sa (osaB_new T.st T.ob I.kIn ho hcl rfl rfl hno fun h' tk' dx k dn dne hx hn => ?_)
  have n0 : H dx = none := I.hok.fresh dn
  have nd : ∀ {b : Addr} {o : Obj}, hp.get? b = some o → b ≠ dx := fun {b o} q => Nat.ne_of_lt (Nat.lt_of_lt_of_le (Heap.lt_size q) dn)
  have na : ∀ {b : Addr}, H b = none → b ≠ a := fun {b} n z => by rw [z, e] at n; cases n
  have U : Un X.fs [] H (upd (upd H dx (exd dx [(f, y)])) a (exo a C (some dx))) hp h' := ⟨fun b o q n _ _ => k b o (na n) q, fun b o q n _ _ => ⟨o.slots, k b o (na n) q⟩, fun b o q n _ => by rw [upd_ne (na n), upd_ne (nd q)]; exact n,
    fun b o q _ => (Classical.em (b = a)).elim (fun hb => ⟨_, hb ▸ hx⟩) (fun hb => ⟨o, k b o hb q⟩), fun b xs q => by rw [upd_ne (at_ne e q exo_tup), upd_ne (ne_of_none q n0)]; exact q, fun b o v q => by rw [upd_ne (at_ne e q exo_frz), upd_ne (ne_of_none q n0)]; exact q, fun b ps q => ⟨#[], by rw [upd_ne (at_ne e q exo_tbl), upd_ne (ne_of_none q n0), q]; simp⟩⟩
  refine h dx _ n0 dne (I.un (t' := tk') U fun b o q => ?_)
  by_cases hb : b = a
  · subst hb; rw [upd_same] at q; cases q; exact exo_ok hx
  · rw [upd_ne hb] at q
    by_cases hd : b = dx
    · subst hd; rw [upd_same] at q; cases q; exact exd_ok hn (relO_put (fs := []) ry fun g => True.intro)
    · rw [upd_ne hd] at q
      exact (I.hok b o q).stay (fun c v hc z => k c v (hc.elim (fun hc => hc ▸ hb) (fun hc => at_ne e hc exo_own)) z) (fun c hc => by rw [upd_ne (at_ne e hc exo_own), upd_ne (ne_of_none hc n0)]; exact hc) (fun c xs hc => by rw [upd_ne (at_ne e hc exo_tup), upd_ne (ne_of_none hc n0)]; exact hc)
theorem ostB_old (T : OexB X.K C B nw ini tl) (I : L2.Inv X pins σ H s) (e : H a = some (exo a C (some dx))) (ed : H dx = some (exd dx fs)) (hl : fs.length ≤ 900) (hno : PySem.W.findIn X.K (.ref C) f = some none) (ry : RelV y u) (h : ∀ s', L2.Inv X pins σ (upd H dx (exd dx ((f, y) :: fs))) s' → Q () s') : wpAny (model X.prog X.w) A (setAttr (.ref a) f u) Q E s := by
  obtain ⟨nm, q, N, bs, sn, sub, ab, col, dd, k0, k1, k2, k3, k5, hC⟩ := T.cls
  have hcl : PySem.W.clsIn X.K C = some { name := nm, bases := bs, mro := .ref C :: tl, ns := N, qualname := q, hasDict := true, slotNames := sn, subclasses := sub, abstract := ab, collection := col, hasDel := false } := by unfold PySem.W.clsIn; rw [hC] <;> rfl
  obtain ⟨t1, ho⟩ := exo_at I.hok e; obtain ⟨mA, hns, rel⟩ := exd_at I.hok ed; have hw := within_of rel; obtain ⟨hp, g, d, t, os⟩ := s; obtain ⟨oD, _, _, hoD, _, _⟩ := hns.count hw
  refine PySem.W.set_plain I.kIn (ox := { cls := .ref C, dict := some dx, data := .fields #[.ref t1, .none, .none, .none, .bool false, .none] }) (od := some oD) ⟨ho, rfl, rfl, hoD⟩ T.sa (osaB_old T.st T.ob I.kIn ho hns hw (by rw [List.length_map]; omega) hcl rfl rfl hno fun h' tk' k hn => ?_)
  exact h _ (I.write (t' := tk') (x := dx) (e := dx) (o := exd dx ((f, y) :: fs)) (by rw [ed]; exact True.intro) (.inl rfl) k (by obtain ⟨o, _, _, e', _⟩ := hn; exact ⟨o, e'⟩) (exd_ok hn (relO_put ry rel)))
theorem oinitB {us : List Value} {Q : Value → Shared → Prop} (T : OexB X.K C B nw ini tl) (I : L2.Inv X pins σ H s) (e : H a = some (exo a C none)) (hl : us.length ≤ sizeLine) (h : ∀ s', L2.Inv X pins σ H s' → Q .none s') : wpAny (model X.prog X.w) A (call (.builtin ini) (.ref a :: us)) Q E s := by
  obtain ⟨nm, q, N, bs, sn, sub, ab, col, dd, k0, k1, k2, k3, k5, hC⟩ := T.cls
  obtain ⟨t1, ho⟩ := exo_at I.hok e; obtain ⟨hp, g, d, t, os⟩ := s
  refine wpAny_call (PySem.HandSPX.init_base T.fb (fun _ => rfl) (I.kIn _ _ hC) ho hl fun h' t2 k hx => ?_)
  have J := I.write (t' := t) (x := a) (e := a) (o := exo a C none) (by rw [e]; exact True.intro) (.inl rfl) k ⟨_, hx⟩ (exo_ok hx)
  have eu : upd H a (exo a C none) = H := funext fun b => if hb : b = a then by rw [hb, upd_same, e] else by rw [upd_ne hb]
  rw [eu] at J; exact h _ J
end
def tBeI (K : PySem.W.Frag) (B nw ini : String) (tl : List Value) (ta : TA) : TE := fun σ H Q => ta σ H fun vs H1 => ∃ (a C : Addr) (ws : List V), vs = .ref a :: ws ∧ ws.length ≤ 1000 ∧ OexB K C B nw ini tl ∧ H1 a = some (exo a C none) ∧ Q .non H1
def tOsB (K : PySem.W.Frag) (B nw ini : String) (tl : List Value) (f : Str) (to te : TE) : TS := fun D σ H => te σ H fun y H1 => to σ H1 fun x H2 => ∃ a C : Addr, x = .ref a ∧ OexB K C B nw ini tl ∧ PySem.W.findIn K (.ref C) f = some none ∧
  ((H2 a = some (exo a C none) ∧ ∀ dx, H2 dx = none → dx ≠ a → D.nx σ (upd (upd H2 dx (exd dx [(f, y)])) a (exo a C (some dx)))) ∨ ∃ (dx : Addr) (fs : List (Str × V)), H2 a = some (exo a C (some dx)) ∧ H2 dx = some (exd dx fs) ∧ fs.length ≤ 900 ∧ D.nx σ (upd H2 dx (exd dx ((f, y) :: fs))))
section
variable {X : Cx} {o e : Expr} {es : List Expr} {to te : TE} {ta : TA} {f : Str} {p p' p1 p2 pos : Pos} {B nw ini : String} {tl : List Value}
theorem pe_beinit {x : Str} {pl : Sem Bool} (hg : Gl X x) (hm : X.mg x = none) (hB : bootBuiltins x = some (.type B)) (ht : typeOf (.type B) = pure (.type "type")) (hs : Manifest.isStub B = false) (vV : PySem.W.findCls X.K (.type B) (.type "type") "__init__" = some (.val (.builtin ini))) (hh : PySem.W.handedIn (.builtin ini) = true) (ha : PA X (e :: es) ta) (hnn : x ≠ "__name__" := by decide) (hdb : (x == ("__debug__" : Str)) = false := by decide)
    (hc : eval (.Call (.Attribute (.Name x p1) "__init__" p2) (e :: es) [] pos) X.env = (do let ov ← eval (.Name x p1) X.env; standAt p2.atName; let (f, first) ← holding [ov] (getMethod ov "__init__" pl); callWith pos f first (backTo pos (starEach (e :: es) X.env)) (backToKw pos (keywordEach [] X.env))) := by rfl)
    (he : starEach (e :: es) X.env = (false, eval e X.env) :: starEach es X.env := by rfl) (hpl : (backTo pos (starEach es X.env)).any (·.1) = false := by rfl) : PE X (.Call (.Attribute (.Name x p1) "__init__" p2) (e :: es) [] pos) (tBeI X.K B nw ini tl ta) := by
  refine ⟨fun pins s σ H Q I h => PySem.W.methodCall_KW (ld_blt I hg hm hB ?_ hnn hdb) hc⟩
  obtain ⟨m, fr⟩ := I.fr
  refine PySem.W.method_type fr I.ok.mod.kin ht hs vV hh ?_
  show wpAny _ _ (callWith pos (Value.builtin ini) [] (backTo pos (starEach (e :: es) X.env)) []) _ _ _
  refine PyProof.Rows.callWith_method1 (thn (ha.run pos pins _ σ H _ (I.tok _) h) fun us s1 ⟨vs, H1, I1, r1, a, C, ws, ev, hl, T, ea, q⟩ => ?_) he hpl
  subst ev
  cases r1 with
  | @cons _ u0 _ ur ra rw' =>
    have eu : u0 = Value.ref a := ra
    subst eu
    exact oinitB T I1 ea (by rw [← Paired.length rw', sizeLine_eq]; omega) fun s' J => ⟨.non, H1, J, rfl, q⟩
theorem ps_osB (ho : PE X o to) (he : PE X e te) (hs : swapsWith e (some (.Attribute o f p')) pos.line X.env = pure false := by rfl) : PS X (.Assign [.Attribute o f p'] e pos) (tOsB X.K B nw ini tl f to te) := by
  refine ⟨fun pins s σ H D I h => plainObj_wpAny_Assign_Attribute (thn (he.run pins s σ H _ I h) fun v s1 ⟨y, H1, I1, r1, q1⟩ => thn (ho.run pins s1 σ H1 _ I1 q1) fun u s2 ⟨x, H2, I2, r2, a, C, ex, T, hno, q⟩ => ?_) hs⟩
  subst ex
  have eu : u = Value.ref a := r2
  subst eu
  rcases q with ⟨ea, q⟩ | ⟨dx, fs, ea, ed, hl, q⟩
  · exact ostB_new T I2 ea hno r1 fun dx s' n ne J => ⟨σ, _, J, q dx n ne⟩
  · exact ostB_old T I2 ea ed hl hno r1 fun s' J => ⟨σ, _, J, q⟩
/-- C(e, ..), C's own __init__ keeping sp -/
theorem pmkB {CX : CXT} {x : Str} {C fI : Addr} {k : Nat} {fd : FuncData} {ps : List Str} {sp : Sp} (T : OexB X.K C B nw ini tl) (iC : PySem.W.findIn X.K (.ref C) "__init__" = some (some (.ref fI))) (tI : PySem.W.typeIn X.K (.ref fI) = some (.type "function")) (F1 : FnOk X.prog X.w X.K X.mg X.base CX k fI fd ps sp) (hr : Room (k + 1) X.A) (hb : Binds X.K fd ps []) (hx : Passes CX X (fun _ _ _ => False)) (hg : Gl X x) (hm : X.mg x = some (.ref C)) (ha : PA X (e :: es) ta)
    (hdb : (x == ("__debug__" : Str)) = false := by decide) (he : starEach (e :: es) X.env = (false, eval e X.env) :: starEach es X.env := by rfl) (hpl : (backTo pos (starEach es X.env)).any (·.1) = false := by rfl) : PMk X (.Call (.Name x p) (e :: es) [] pos) (tMkO C sp [] ta) := by
  intro pins s σ H Q I h
  obtain ⟨nm, q, N, bs, sn, sub, ab, col, dd, k0, k1, k2, k3, k5, hC⟩ := T.cls
  refine wpAny_Call_Name_kw (ld_glob I hg hm (PySem.W.callWith_K (h₀ := X.base) I.ok.mod.kin T.kC (thn (ha.run pos pins s σ H _ I h) fun us s1 ⟨vs, H1, I1, r1, hz, q1⟩ => ⟨I1.kIn, ?_⟩) he hpl) hdb)
  show wpAny _ _ (call (.ref C) us) _ _ _
  obtain ⟨hp, g, dr, tk, os⟩ := s1
  have z : hp.objs.size ≤ hp.objs.size + 1 := Nat.le_succ _
  have hq := q1 (hp.objs.size + 1) (I1.hok.fresh z)
  have kk : ∀ b o, hp.get? b = some o → ((hp.push (PySem.W.kdv_tup us)).push (PySem.HandSPX.excO C hp.objs.size)).get? b = some o := fun b o e1 => Heap.get?_push_of_some _ (Heap.get?_push_of_some _ e1)
  have I2 : L2.Inv X pins σ (upd H1 (hp.objs.size + 1) (exo (hp.objs.size + 1) C none)) ⟨(hp.push (PySem.W.kdv_tup us)).push (PySem.HandSPX.excO C hp.objs.size), g, dr, tk, os⟩ := I1.laid (t' := tk) (a := hp.objs.size + 1) (o := exo (hp.objs.size + 1) C none) (h' := (hp.push (PySem.W.kdv_tup us)).push (PySem.HandSPX.excO C hp.objs.size)) kk z (exo_ok (by heap_get))
  have r2 : Vals (V.ref (hp.objs.size + 1) :: (vs ++ [])) (Value.ref (hp.objs.size + 1) :: (us ++ [])) := .cons rfl (r1.append .nil)
  have hl : (Value.ref (hp.objs.size + 1) :: us ++ []).length = ps.length := by have e1 := r2.length; rw [F1.len _ _ _ _ hq] at e1; exact e1.symm
  have bt := hb _ (Value.ref (hp.objs.size + 1) :: us) I2.kIn hl
  rw [List.cons_append] at bt
  refine wpAny_call (PySem.HandSPX.call_own T.fb (fun _ => rfl) (I1.kIn _ _ hC) (PySem.W.looks_findIn I1.kIn iC) (fun self => PySem.W.bind_fn I1.kIn self tI) (by rw [← Paired.length r1, sizeLine_eq]; omega) (codeAny_mono (F1.run _ X.stack _ _ ⟨Value.ref (hp.objs.size + 1) :: us, []⟩ (Value.ref (hp.objs.size + 1) :: (us ++ [])) _ _ (fun _ _ _ => False) (hr.make C us []) (I2.env0.make C us []) bt r2 hq) fun r s' hq' => ?_))
  cases r with
  | error er => exact hx pins σ _ _ er s' I2 hq'
  | ok fl =>
    cases fl with
    | ret u => obtain ⟨v, H2, os2, bare2, un2, hok2, rv, ev, d, fs, ea, ed, hd1, q2⟩ := hq'; subst ev; obtain ⟨h2, g2, d2, t2, os'⟩ := s'; exact ⟨rv, mk_end (raises_own T.exC T.tyC) I1 z kk un2 hok2 os2 bare2 ea ed hd1 q2⟩
    | next => exact hq'.elim
    | brk => exact hq'.elim
    | cont => exact hq'.elim
/-- C() -/
theorem pmkB0 {CX : CXT} {x : Str} {C fI : Addr} {k : Nat} {fd : FuncData} {ps : List Str} {sp : Sp} (T : OexB X.K C B nw ini tl) (iC : PySem.W.findIn X.K (.ref C) "__init__" = some (some (.ref fI))) (tI : PySem.W.typeIn X.K (.ref fI) = some (.type "function")) (F1 : FnOk X.prog X.w X.K X.mg X.base CX k fI fd ps sp) (hr : Room (k + 1) X.A) (hb : Binds X.K fd ps []) (hx : Passes CX X (fun _ _ _ => False)) (hg : Gl X x) (hm : X.mg x = some (.ref C)) (hdb : (x == ("__debug__" : Str)) = false := by decide) : PMk X (.Call (.Name x p) [] [] pos) (tMkO C sp [] tNil) := by
  intro pins s1 σ H1 Q I1 h
  obtain ⟨hz, q1⟩ := h
  obtain ⟨nm, q, N, bs, sn, sub, ab, col, dd, k0, k1, k2, k3, k5, hC⟩ := T.cls
  refine wpAny_Call_Name_kw (ld_glob I1 hg hm (PySem.W.callWith_K0 I1.kIn T.kC ?_) hdb)
  show wpAny _ _ (call (.ref C) []) _ _ _
  obtain ⟨hp, g, dr, tk, os⟩ := s1
  have z : hp.objs.size ≤ hp.objs.size + 1 := Nat.le_succ _
  have hq := q1 (hp.objs.size + 1) (I1.hok.fresh z)
  have rv0 : Vals [V.ref (hp.objs.size + 1)] [Value.ref (hp.objs.size + 1)] := .cons rfl .nil
  have kk : ∀ b o, hp.get? b = some o → ((hp.push (PySem.W.kdv_tup [])).push (PySem.HandSPX.excO C hp.objs.size)).get? b = some o := fun b o e1 => Heap.get?_push_of_some _ (Heap.get?_push_of_some _ e1)
  have I2 : L2.Inv X pins σ (upd H1 (hp.objs.size + 1) (exo (hp.objs.size + 1) C none)) ⟨(hp.push (PySem.W.kdv_tup [])).push (PySem.HandSPX.excO C hp.objs.size), g, dr, tk, os⟩ := I1.laid (t' := tk) (a := hp.objs.size + 1) (o := exo (hp.objs.size + 1) C none) (h' := (hp.push (PySem.W.kdv_tup [])).push (PySem.HandSPX.excO C hp.objs.size)) kk z (exo_ok (by heap_get))
  refine wpAny_call (PySem.HandSPX.call_own T.fb (fun _ => rfl) (I1.kIn _ _ hC) (PySem.W.looks_findIn I1.kIn iC) (fun self => PySem.W.bind_fn I1.kIn self tI) (Nat.zero_le _) (codeAny_mono (F1.run _ X.stack _ _ ⟨[Value.ref (hp.objs.size + 1)], []⟩ [Value.ref (hp.objs.size + 1)] _ _ (fun _ _ _ => False) (hr.make C [] []) (I2.env0.make C [] []) (hb _ [Value.ref (hp.objs.size + 1)] I2.kIn (F1.len _ _ _ _ hq)) rv0 hq) fun r s' hq' => ?_))
  cases r with
  | error er => exact hx pins σ _ _ er s' I2 hq'
  | ok fl =>
    cases fl with
    | ret u => obtain ⟨v, H2, os2, bare2, un2, hok2, rv, ev, d, fs, ea, ed, hd1, q2⟩ := hq'; subst ev; obtain ⟨h2, g2, d2, t2, os'⟩ := s'; exact ⟨rv, mk_end (raises_own T.exC T.tyC) I1 z kk un2 hok2 os2 bare2 ea ed hd1 q2⟩
    | next => exact hq'.elim
    | brk => exact hq'.elim
    | cont => exact hq'.elim
end
end Bw
set_option Elab.async false
set_option linter.all false
set_option maxRecDepth 100000
set_option maxHeartbeats 4000000
namespace Bw
open PySem PySem.Spec PyProof.Rows L2 LamX
/-! ### try: .. except x as n: .. except (x1, x2, x3, x4) as n: .. -/
abbrev endsAs (i : Nat) (D : Ends) : Ends := { nx := fun σ' H' => D.nx (σ'.set i none) H', rt := D.rt, bk := fun σ' H' => D.bk (σ'.set i none) H', ct := fun σ' H' => D.ct (σ'.set i none) H' }
def wAs2 (K : PySem.W.Frag) (c : Value) (cs : List Value) (i : Nat) (t1 t2 : Addr → Value → Option Addr → TS) (D : Ends) : WX := fun cls d σ H =>
  (PySem.W.exmOne K cls c = some true ∧ ∀ a, H a = none → t1 a cls d (endsAs i D) (σ.set i (some (.ref a))) H) ∨ (PySem.W.exmOne K cls c = some false ∧ PySem.W.exmAny K cls cs = some true ∧ ∀ a, H a = none → t2 a cls d (endsAs i D) (σ.set i (some (.ref a))) H)
theorem fly_push {B : Heap} {l : List Env} {a : Addr} {Z : Obj → Prop} {h h' : Heap} (k : ∀ b o, h.get? b = some o → h'.get? b = some o) (f : HandSPX.FlyingZ B l a Z h) : HandSPX.FlyingZ B l a Z h' := by
  obtain ⟨f1, f2, f3, oe, vs, T, oT, ts, e1, e2, e3, e4, e5, e6, e7, e8⟩ := f
  exact ⟨fun b o e => k _ _ (f1 b o e), f2, Heap.FunFrames.of_keeps (fun b o e _ => ⟨o, k _ _ e, rfl⟩) f3, oe, vs, T, oT, ts, k _ _ e1, e2, e3, e4, e5, e6, k _ _ e7, e8⟩
theorem ps_try_as2 {X : Cx} {x x1 x2 x3 x4 n : Str} {c c1 c2 c3 c4 : Value} {i : Nat} {body suite suite2 : List Stmt} {b₀ b2₀ : Stmt} {np q1 q2 q3 q4 qt pos pos' pos2 : Pos} {tup} {tb : WX → TS} {ts ts2 : Addr → Value → Option Addr → TS} (hs : X.stack = X.env :: X.outer) (hf : X.env.frame = some X.env.locals) (hN : X.N.Nodup) (hi : X.N[i]? = some n) (hln : X.env.kindOf n = some .local)
    (hc : Names X x c) (h1 : Names X x1 c1) (h2 : Names X x2 c2) (h3 : Names X x3 c3) (h4 : Names X x4 c4)
    (hb : ∀ (W : WX) (pn : List (Addr × Obj)) (xe : Value → Shared → Prop), Takes (X.tr pn xe) W → PassesOwn (model X.prog X.w) X.A X.env xe → PSs (X.tr pn xe) body (tb W))
    (hsu : ∀ (a : Addr) (oe : Obj) (cls : Value) (d : Option Addr) (pn : List (Addr × Obj)), Zc cls d oe → (∃ vs, oe.data = .fields vs) → PSs (X.suite a ((a, oe) :: pn)) (b₀ :: suite) (ts a cls d))
    (hs2 : ∀ (a : Addr) (oe : Obj) (cls : Value) (d : Option Addr) (pn : List (Addr × Obj)), Zc cls d oe → (∃ vs, oe.data = .fields vs) → PSs (X.suite a ((a, oe) :: pn)) (b2₀ :: suite2) (ts2 a cls d)) :
    PS X (.Try body [.ExceptHandler (some (.Name x np)) (some n) (b₀ :: suite) pos', .ExceptHandler (some (.Tuple [.Name x1 q1, .Name x2 q2, .Name x3 q3, .Name x4 q4] tup qt)) (some n) (b2₀ :: suite2) pos2] [] [] pos) (fun D σ H => tb (wAs2 X.K c [c1, c2, c3, c4] i ts ts2 D) D σ H) := by
  refine ⟨fun pins s σ H D I h => ?_⟩
  have ok := I.ok
  have hfr : X.A.frames = some (X.env :: X.outer) := by rw [ok.frames, hs]
  have hloc : Loc X.env.scope n := .inl hln
  refine wpAny_Try_except (wpAny_mono ((hb (wAs2 X.K c [c1, c2, c3, c4] i ts ts2 D) (X.pn ++ pins) (fun e s₁ => wpAny (model X.prog X.w) X.A (noteFrame e X.env) (fun _ s₂ => wpAny (model X.prog X.w) X.A (setFlight e none) (fun _ s₃ => wpAny (model X.prog X.w) X.A (handleBy e X.env [.ExceptHandler (some (.Name x np)) (some n) (b₀ :: suite) pos', .ExceptHandler (some (.Tuple [.Name x1 q1, .Name x2 q2, .Name x3 q3, .Name x4 q4] tup qt)) (some n) (b2₀ :: suite2) pos2]) (SP X pins D) X.xe s₃) X.xe s₂) X.xe s₁) (fun u s' xx => ?_) PassesOwn.looking).run [] s σ H D (I.toTry _) h) (fun f s1 hsp => ?_) (fun e s1 he => he))
  · obtain ⟨a, B, sI, pins', σ', H', cls, d, rfl, J', nb, up, sky, na, os, ag, hw⟩ := xx
    have J : L2.Inv X pins σ' H' sI := J'.ofTry ok
    have sky' : Sky B (X.env :: X.outer) a (Zc cls d) X.env.locals s'.heap := by rw [← hs]; exact sky
    show wpAny (model X.prog X.w) X.A (noteFrame (.ref a) X.env) _ _ _
    refine Sky.land Zc.steady hfr hf sky' fun g3 fl3 up3 => ?_
    have J3 : L2.Inv X pins σ' H' { s' with heap := g3 } := J.landed nb fl3.1 (up.trans up3) os ag
    obtain ⟨oe3, vs3, he3, hz3, hd3⟩ := fl3.there
    have nfr : a ∉ frs (X.env :: X.outer) := fun hm => by obtain ⟨_, o', e', hnf⟩ := fl3.2.2.1.mem hm; rw [he3] at e'; cases e'; exact hnf _ hd3
    have nL : a ≠ X.env.locals := fun z => nfr (List.mem_filterMap.mpr ⟨X.env, List.mem_cons_self, by rw [hf, z]⟩)
    have nF : a ∉ X.fs := fun hm => by obtain ⟨e, he, q⟩ := List.mem_filterMap.mp hm; exact nfr (List.mem_filterMap.mpr ⟨e, List.mem_cons_of_mem _ he, q⟩)
    have S3 := J3.suite he3 hd3 na nL nF
    have rd : ∀ {y : Str} {k : Value} {pp : Pos} {Q : Value → Shared → Prop} {E : Value → Shared → Prop}, Names X y k → Q k { s' with heap := g3 } → wpAny (model X.prog X.w) (X.A.mark (some (.ref a))) (eval (.Name y pp) X.env) Q E { s' with heap := g3 } := fun {y k pp Q E} hy q => by
      obtain ⟨hg, hdbg, hm | ⟨hm, hv, hnn⟩⟩ := hy
      · exact ld_glob (X := X.suite a ((a, oe3) :: (X.pn ++ pins))) S3 hg hm q hdbg
      · exact ld_blt (X := X.suite a ((a, oe3) :: (X.pn ++ pins))) S3 hg hm hv q hnn hdbg
    have LT : PySem.W.Looks (model X.prog X.w) g3 (typeOf (.ref a)) cls := fun A Q E s k q => wpAny_typeOf_ref (k _ _ he3) (by rw [hz3.1]; exact q)
    refine wpAny_handleBy_cons (codeAny_handlers_test ?_) (by intro q; cases q)
    rcases hw with ⟨hb1, hyes⟩ | ⟨hb1, hb2, hyes⟩
    · refine rd hc ((PySem.W.exm_one (M := model X.prog X.w) J3.kIn LT hb1).here (codeAny_handlers_suite_as ?_))
      refine HandSPX.lands_againZ fl3 fun g4 fl4 up4 => ?_
      have J4 : L2.Inv X pins σ' H' { s' with heap := g4 } := J.landed nb fl4.1 ((up.trans up3).trans up4) os ag
      obtain ⟨oe4, vs4, he4, hz4, hd4⟩ := fl4.there
      refine store_ok (X := X.suite a ((a, oe4) :: (X.pn ++ pins))) (v := .ref a) (J4.suite he4 hd4 na nL nF) hN hi hloc rfl (fun s5 S5 => ?_) (.inr hln)
      refine wpAny_mono ((hsu a oe4 cls d (X.pn ++ pins) hz4 ⟨_, hd4⟩).run [] s5 _ H' _ S5 (hyes a na)) (fun f s6 hsp => ?_) (fun _ _ z => z.elim)
      have en : ∀ {σ6 : L2.St} {H6 : Hp} {Q : Shared → Prop}, L2.Inv (X.suite a ((a, oe4) :: (X.pn ++ pins))) [] σ6 H6 s6 → (∀ s7, L2.Inv X pins (σ6.set i none) H6 s7 → Q s7) → wpAny (model X.prog X.w) X.A (do bindName X.env n .none; unbindBehindTheSuite X.env n pos') (fun _ s7 => Q s7) X.xe s6 := fun {σ6 H6 Q} S6 hq => gone_ok (S6.unsuite ok) hN hi hln hq
      cases f with
      | next => obtain ⟨σ6, H6, S6, q6⟩ := hsp; exact en S6 fun s7 J7 => ⟨_, _, J7, q6⟩
      | brk => obtain ⟨σ6, H6, S6, q6⟩ := hsp; exact en S6 fun s7 J7 => ⟨_, _, J7, q6⟩
      | cont => obtain ⟨σ6, H6, S6, q6⟩ := hsp; exact en S6 fun s7 J7 => ⟨_, _, J7, q6⟩
      | ret u => obtain ⟨v6, σ6, H6, S6, r6, q6⟩ := hsp; exact en S6 fun s7 J7 => ⟨_, _, _, J7, r6, q6⟩
    · refine rd hc ((PySem.W.exm_one (M := model X.prog X.w) J3.kIn LT hb1).here ?_)
      show wpAny _ X.A (handleBy (.ref a) X.env [.ExceptHandler (some (.Tuple [.Name x1 q1, .Name x2 q2, .Name x3 q3, .Name x4 q4] tup qt)) (some n) (b2₀ :: suite2) pos2]) _ _ _
      refine wpAny_handleBy_cons (codeAny_handlers_test ?_) (by intro q; cases q)
      refine wpAny_Tuple_spliced ?_
      show wpAny _ _ (spliced [(false, eval (.Name x1 q1) X.env), (false, eval (.Name x2 q2) X.env), (false, eval (.Name x3 q3) X.env), (false, eval (.Name x4 q4) X.env)]) _ _ _
      refine Calls.spliced_cons (rd h1 (Calls.spliced_cons (rd h2 (Calls.spliced_cons (rd h3 (Calls.spliced_cons (rd h4 (Calls.spliced_nil ⟨(show 4 ≤ sizeLine by decide), ?_⟩))))))))
      have kp : ∀ b o, g3.get? b = some o → (g3.push { cls := .type "tuple", data := .seq [c1, c2, c3, c4].toArray }).get? b = some o := fun b o e => Heap.get?_push_of_some _ e
      refine (PySem.W.exm_tup4 (M := model X.prog X.w) (tp := g3.objs.size) (fun b o e => kp _ _ (J3.kIn b o e)) (LT.keeps kp) (Heap.get?_push_size _ rfl) hb2).here (codeAny_handlers_suite_as ?_)
      refine HandSPX.lands_againZ (fly_push kp fl3) fun g4 fl4 up4 => ?_
      have J4 : L2.Inv X pins σ' H' { s' with heap := g4 } := J.landed nb fl4.1 (((up.trans up3).trans (Heap.UpToSlots.of_keeps kp)).trans up4) os ag
      obtain ⟨oe4, vs4, he4, hz4, hd4⟩ := fl4.there
      refine store_ok (X := X.suite a ((a, oe4) :: (X.pn ++ pins))) (v := .ref a) (J4.suite he4 hd4 na nL nF) hN hi hloc rfl (fun s5 S5 => ?_) (.inr hln)
      refine wpAny_mono ((hs2 a oe4 cls d (X.pn ++ pins) hz4 ⟨_, hd4⟩).run [] s5 _ H' _ S5 (hyes a na)) (fun f s6 hsp => ?_) (fun _ _ z => z.elim)
      have en : ∀ {σ6 : L2.St} {H6 : Hp} {Q : Shared → Prop}, L2.Inv (X.suite a ((a, oe4) :: (X.pn ++ pins))) [] σ6 H6 s6 → (∀ s7, L2.Inv X pins (σ6.set i none) H6 s7 → Q s7) → wpAny (model X.prog X.w) X.A (do bindName X.env n .none; unbindBehindTheSuite X.env n pos2) (fun _ s7 => Q s7) X.xe s6 := fun {σ6 H6 Q} S6 hq => gone_ok (S6.unsuite ok) hN hi hln hq
      cases f with
      | next => obtain ⟨σ6, H6, S6, q6⟩ := hsp; exact en S6 fun s7 J7 => ⟨_, _, J7, q6⟩
      | brk => obtain ⟨σ6, H6, S6, q6⟩ := hsp; exact en S6 fun s7 J7 => ⟨_, _, J7, q6⟩
      | cont => obtain ⟨σ6, H6, S6, q6⟩ := hsp; exact en S6 fun s7 J7 => ⟨_, _, J7, q6⟩
      | ret u => obtain ⟨v6, σ6, H6, S6, r6, q6⟩ := hsp; exact en S6 fun s7 J7 => ⟨_, _, _, J7, r6, q6⟩
  · cases f with
    | next => exact let ⟨σ', H', J', q⟩ := hsp; wpAny_execs_nil ⟨σ', H', J'.ofTry ok, q⟩
    | brk => exact let ⟨σ', H', J', q⟩ := hsp; ⟨σ', H', J'.ofTry ok, q⟩
    | cont => exact let ⟨σ', H', J', q⟩ := hsp; ⟨σ', H', J'.ofTry ok, q⟩
    | ret u => exact let ⟨v, σ', H', J', r, q⟩ := hsp; ⟨v, σ', H', J'.ofTry ok, r, q⟩
/-! ### the word of a refusal of any kind, or none -/
def ErrAtW (K : PySem.W.Frag) (CB : Addr) (cs : List Value) (cls : Value) (d : Option Addr) (H : Hp) (v : V) : Prop := ∃ (C dd : Addr) (fs : List (Str × V)), cls = .ref C ∧ d = some dd ∧ (PySem.W.exmOne K (.ref C) (.ref CB) = some true ∨ (PySem.W.exmOne K (.ref C) (.ref CB) = some false ∧ PySem.W.exmAny K (.ref C) cs = some true)) ∧ XfC K C ∧ PySem.W.findIn K (.ref C) "word" = some none ∧ H dd = some (.xd fs) ∧ fs.lookup ("word" : Str) = some v
theorem ErrAt.wide {K : PySem.W.Frag} {CB : Addr} {cs : List Value} {cls : Value} {d : Option Addr} {H : Hp} {v : V} (h : ErrAt K CB cls d H v) : ErrAtW K CB cs cls d H v := by
  obtain ⟨C, dd, fs, h1, h2, h3, h4⟩ := h
  exact ⟨C, dd, fs, h1, h2, .inl h3, h4⟩
def TWordW (K : PySem.W.Frag) (CB : Addr) (cs : List Value) : (XK → Hp → VK → Prop) → Hp → VK → Prop := fun tl H Q => tl (fun cls d H' => ∃ v, ErrAtW K CB cs cls d H' v ∧ Q v H') H (fun _ H' => Q (.str "") H')
theorem word_givesW {X : Cx} {Ng : List Str} {x a q : Str} {sg : Scope} {g CB c1 c2 c3 c4 : Addr} {cdg : Value} {j : Nat} {tup} {p1 p2 p3 p4 p5 p6 p7 p8 p9 p10 p11 r1 r2 r3 r4 r5 r6 r7 r8 r9 : Pos} (hge : sg.names.lookup ("BudError" : Str) = some .globalImplicit) (hme : X.mg "BudError" = some (.ref CB))
    (g1 : sg.names.lookup ("NoPart" : Str) = some .globalImplicit) (m1 : X.mg "NoPart" = some (.ref c1)) (g2 : sg.names.lookup ("NoPlace" : Str) = some .globalImplicit) (m2 : X.mg "NoPlace" = some (.ref c2)) (g3 : sg.names.lookup ("Lacking" : Str) = some .globalImplicit) (m3 : X.mg "Lacking" = some (.ref c3)) (g4 : sg.names.lookup ("NothingLeft" : Str) = some .globalImplicit) (m4 : X.mg "NothingLeft" = some (.ref c4))
    (hNd : Ng.Nodup) (hN1 : Ng[1]? = some ("e" : Str)) (hk : sg.names.lookup ("e" : Str) = some .local) (h0 : ∀ f : Addr, (L2.start Ng [V.ref f])[0]? = some (some (V.ref f))) :
    GivesTo X Ng x sg g cdg [.Try [.Expr (.Call (.Name a p1) [] [] p2) p3] [.ExceptHandler (some (.Name "BudError" p4)) (some "e") [.Return (some (.Attribute (.Name "e" p5) "word" p6)) p7] p8, .ExceptHandler (some (.Tuple [.Name "NoPart" r1, .Name "NoPlace" r2, .Name "Lacking" r3, .Name "NothingLeft" r4] tup r5)) (some "e") [.Return (some (.Attribute (.Name "e" r6) "word" r7)) r8] r9] [] [] p9, .Return (some (.Constant (.str "") j p10)) p11] a q (TWordW X.K CB [.ref c1, .ref c2, .ref c3, .ref c4]) := by
  intro f c' s H Q tl act hc h
  have nm : ∀ {y : Str} {k : Addr}, sg.names.lookup y = some .globalImplicit → X.mg y = some (.ref k) → (y == ("__debug__" : Str)) = false → Names (cxOf C8.CX0 X.prog X.w X.K X.mg X.base Ng x sg g cdg X.A X.stack s H C8.E0).nox y (.ref k) := fun hy hm hd => ⟨hy, hd, .inl hm⟩
  refine ⟨_, pss_cons (ps_try_as2 (X := (cxOf C8.CX0 X.prog X.w X.K X.mg X.base Ng x sg g cdg X.A X.stack s H C8.E0).nox) (c := .ref CB) (i := 1)
      (tb := fun W D σ H => ∃ Ech : XK, (∀ cls d σ' H', Ech cls d H' → σ'.length = Ng.length → W cls d σ' H') ∧ σ[0]? = some (some (.ref f)) ∧ H c' = some (CodeO c' q) ∧ tl Ech H fun _ H' => D.nx σ H')
      (ts := fun a cls d => tRet (tXfD X.K a cls d "word" 1)) (ts2 := fun a cls d => tRet (tXfD X.K a cls d "word" 1)) rfl rfl hNd hN1 hk (nm hge hme (by decide)) (nm g1 m1 (by decide)) (nm g2 m2 (by decide)) (nm g3 m3 (by decide)) (nm g4 m4 (by decide)) (fun W pn xe tk _ => ?_) (fun b oe cls d pn hz hf => pss_one (ps_ret (pe_xfD hz hf (pe_var hN1 (.inl hk))))) (fun b oe cls d pn hz hf => pss_one (ps_ret (pe_xfD hz hf (pe_var hN1 (.inl hk)))))) (pss_one (ps_ret pe_str)), ?_⟩
  · refine ⟨fun pins s' σ H' D I h' => ?_⟩
    obtain ⟨Ech, hW, k1, k2, k3⟩ := h'
    exact (pss_one (ps_expr (pos := p3) (act _ pn xe Ech p1 p2 (takes_len tk) hW))).run pins s' σ H' D I ⟨k1, k2, k3⟩
  · refine ⟨fun cls d H' => ∃ v, ErrAtW X.K CB [.ref c1, .ref c2, .ref c3, .ref c4] cls d H' v ∧ Q v H', fun cls d σ' H' hE hl => ?_, h0 f, hc, h⟩
    obtain ⟨v, ⟨C, dd, fs, rfl, rfl, e1, e2, e3, e4, e5⟩, hQ⟩ := hE
    have lt : 1 < σ'.length := by rw [hl]; exact (List.getElem?_eq_some_iff.mp hN1).1
    have sd : ∀ b, H' b = none → tRet (tXfD X.K b (.ref C) (some dd) "word" 1) (endsAs 1 { nx := tRet (tC (.str "")) { nx := fun _ H' => Q .non H', rt := Q }, rt := Q }) (σ'.set 1 (some (.ref b))) H' := fun b _ => ⟨by rw [List.getElem?_set_self lt], C, dd, fs, v, rfl, e2, e3, rfl, e4, e5, hQ⟩
    rcases e1 with e1 | ⟨e1, e1'⟩
    · exact .inl ⟨e1, fun b hb => sd b hb⟩
    · exact .inr ⟨e1, e1', fun b hb => sd b hb⟩
end Bw
set_option Elab.async false
set_option linter.all false
set_option maxRecDepth 100000
set_option maxHeartbeats 4000000
namespace Bw
open PySem PySem.Spec PyProof.Rows L2
/-- what the written part says of an error's class that stands under BudError -/
structure ErrC (K : PySem.W.Frag) (mg : Str → Option Value) (x : Str) (C f CB : Addr) : Prop where
  g : mg x = some (.ref C)
  oex : OexC K C
  iC : PySem.W.findIn K (.ref C) "__init__" = some (some (.ref f))
  tI : PySem.W.typeIn K (.ref f) = some (.type "function")
  nw : PySem.W.findIn K (.ref C) "word" = some none
  xf : XfC K C
  te : PySem.W.exmOne K (.ref C) (.ref CB) = some true
def wordFs (x : Str) : List (Str × V) := [("word", .str x)]
theorem ErrC.at {K : PySem.W.Frag} {mg : Str → Option Value} {x wd : Str} {C f CB d : Addr} {H : Hp} (T : ErrC K mg x C f CB) (h : H d = some (.xd (wordFs wd))) : ErrAt K CB (.ref C) (some d) H (.str wd) := ⟨C, d, _, rfl, rfl, T.te, T.xf, T.nw, h, rfl⟩
/-- an error's own __init__ that wants nothing -/
def spErrInit (K : PySem.W.Frag) (wd : Str) : Sp := fun vs H Q _ => ∃ (a C : Addr), vs = [.ref a] ∧ OexC K C ∧ PySem.W.findIn K (.ref C) "word" = some none ∧ H a = some (exo a C none) ∧
  ∀ (dx : Addr) (H' : Hp), H dx = none → dx ≠ a → H' a = some (exo a C (some dx)) → H' dx = some (exd dx (wordFs wd)) → (∀ b, b ≠ a → b ≠ dx → H' b = H b) → Q .non H'
/-- raise x(): its reading, where what was stays -/
theorem raise_done {K : PySem.W.Frag} {mg : Str → Option Value} {x wd : Str} {C f CB : Addr} {σ : L2.St} {H : Hp} {E : XK} (T : ErrC K mg x C f CB) (q : ∀ (d : Addr) (H' : Hp), Same H H' → H' d = some (.xd (wordFs wd)) → E (.ref C) (some d) H') : tMkO C (spErrInit K wd) [] tNil σ H E := by
  refine ⟨by show 0 ≤ 1000; decide, fun x ex => ?_⟩
  refine ⟨x, C, rfl, T.oex, T.nw, upd_same, fun dx H6 ed nd hx hd hk => ?_⟩
  have ed2 : H dx = none := by
    rw [upd_ne nd] at ed
    exact ed
  refine ⟨rfl, dx, _, hx, hd, ed2, q dx _ (fun c o e2 => ?_) upd_same⟩
  have n1 : c ≠ x := ne_of_none e2 ex
  have n2 : c ≠ dx := ne_of_none e2 ed2
  rw [upd_ne n2, del_ne n1, hk c n1 n2, upd_ne n1]
  exact e2
structure CalX (P : Program) (w : World) (K : PySem.W.Frag) (mg : Str → Option Value) (base : Heap) (k : Nat) (x : Str) (ps : List Str) (sp : Sp) : Prop where
  ex : ∃ (f : Addr) (fd : FuncData), FnOk P w K mg base (L2.CX P w) k f fd ps sp ∧ mg x = some (.ref f) ∧ PySem.W.keepIn K (.ref f) = true ∧ Binds K fd ps []
theorem pe_calX {X : Cx} {x : Str} {ps : List Str} {sp : Sp} {k : Nat} {e : Expr} {es : List Expr} {p pos : Pos} {t : TA} {E : XK} (C : CalX X.prog X.w X.K X.mg X.base k x ps sp) (hr : Room k X.A) (hg : Gl X x) (hx : Passes (L2.CX X.prog X.w) X E) (ha : PA X (e :: es) t) (hdb : (x == ("__debug__" : Str)) = false := by decide) (he : starEach (e :: es) X.env = (false, eval e X.env) :: starEach es X.env := by rfl)
    (hpl : (backTo pos (starEach es X.env)).any (·.1) = false := by rfl) : PE X (.Call (.Name x p) (e :: es) [] pos) (tCall sp [] E t) := by
  obtain ⟨f, fd, F, hm, hk, hb⟩ := C.ex
  exact pe_call F hr hg hm hk hb .nil hx ha hdb he hpl
/-- what of a callee may be let out is let out -/
theorem passE {X : Cx} {E : XK} {E₁ : Value → Shared → Prop} (hs : X.stack = X.env :: X.outer) (hf : X.env.frame = some X.env.locals) (hex : X.ex = []) (hx : X.xe = fun e s' => wpAny (model X.prog X.w) X.A (leaving X.env e) (fun _ s'' => L2.CX X.prog X.w X.outer X.H_0 X.s_0 E e s'') E₁ s') : Passes (L2.CX X.prog X.w) X E := passes_call (takes_of hs hf hex hx) fun _ _ _ _ h => h
def fldFs (fld wd : Str) (x : V) : List (Str × V) := [(fld, x), ("word", .str wd)]
def spErrInit1 (K : PySem.W.Frag) (wd fld : Str) : Sp := fun vs H Q _ => ∃ (a C : Addr) (x : V), vs = [.ref a, x] ∧ OexC K C ∧ PySem.W.findIn K (.ref C) "word" = some none ∧ PySem.W.findIn K (.ref C) fld = some none ∧ H a = some (exo a C none) ∧
  ∀ (dx : Addr) (H' : Hp), H dx = none → dx ≠ a → H' a = some (exo a C (some dx)) → H' dx = some (exd dx (fldFs fld wd x)) → (∀ b, b ≠ a → b ≠ dx → H' b = H b) → Q .non H'
theorem ErrC.at1 {K : PySem.W.Frag} {mg : Str → Option Value} {x wd fld : Str} {C f CB d : Addr} {H : Hp} {v : V} (T : ErrC K mg x C f CB) (hn : (("word" : Str) == fld) = false) (h : H d = some (.xd (fldFs fld wd v))) : ErrAt K CB (.ref C) (some d) H (.str wd) := ⟨C, d, _, rfl, rfl, T.te, T.xf, T.nw, h, by
  unfold fldFs
  rw [List.lookup_cons, hn]
  rfl⟩
theorem mk_done1 {K : PySem.W.Frag} {mg : Str → Option Value} {y wd fld : Str} {C f CB : Addr} {H : Hp} {E : XK} {x : V} (T : ErrC K mg y C f CB) (nf : PySem.W.findIn K (.ref C) fld = some none) (q : ∀ (d : Addr) (H' : Hp), Same H H' → H' d = some (.xd (fldFs fld wd x)) → E (.ref C) (some d) H') :
    [x].length ≤ 1000 ∧ ∀ a, H a = none → spErrInit1 K wd fld (.ref a :: ([x] ++ [])) (upd H a (exo a C none)) (fun v H2 => v = .non ∧ ∃ (d : Addr) (fs : List (Str × V)), H2 a = some (exo a C (some d)) ∧ H2 d = some (exd d fs) ∧ H d = none ∧ E (.ref C) (some d) (upd (del H2 a) d (.xd fs))) (fun _ _ _ => False) := by
  refine ⟨by show 1 ≤ 1000; decide, fun a ea => ?_⟩
  refine ⟨a, C, x, rfl, T.oex, T.nw, nf, upd_same, fun dx H6 ed nd hx hd hk => ?_⟩
  have ed2 : H dx = none := by
    rw [upd_ne nd] at ed
    exact ed
  refine ⟨rfl, dx, _, hx, hd, ed2, q dx _ (fun c o e2 => ?_) upd_same⟩
  have n1 : c ≠ a := ne_of_none e2 ea
  have n2 : c ≠ dx := ne_of_none e2 ed2
  rw [upd_ne n2, del_ne n1, hk c n1 n2, upd_ne n1]
  exact e2
/-! ### errors over other built-in errors -/
structure ErrB (K : PySem.W.Frag) (mg : Str → Option Value) (x : Str) (C f CB : Addr) (cs : List Value) (B nw ini : String) (tl : List Value) : Prop where
  g : mg x = some (.ref C)
  oex : OexB K C B nw ini tl
  iC : PySem.W.findIn K (.ref C) "__init__" = some (some (.ref f))
  tI : PySem.W.typeIn K (.ref f) = some (.type "function")
  nw : PySem.W.findIn K (.ref C) "word" = some none
  xf : XfC K C
  t0 : PySem.W.exmOne K (.ref C) (.ref CB) = some false
  te : PySem.W.exmAny K (.ref C) cs = some true
def spErrInitB1 (K : PySem.W.Frag) (B nw ini : String) (tl : List Value) (wd fld : Str) : Sp := fun vs H Q _ => ∃ (a C : Addr) (x : V), vs = [.ref a, x] ∧ OexB K C B nw ini tl ∧ PySem.W.findIn K (.ref C) "word" = some none ∧ PySem.W.findIn K (.ref C) fld = some none ∧ H a = some (exo a C none) ∧
  ∀ (dx : Addr) (H' : Hp), H dx = none → dx ≠ a → H' a = some (exo a C (some dx)) → H' dx = some (exd dx (fldFs fld wd x)) → (∀ b, b ≠ a → b ≠ dx → H' b = H b) → Q .non H'
def spErrInitB0 (K : PySem.W.Frag) (B nw ini : String) (tl : List Value) (wd : Str) : Sp := fun vs H Q _ => ∃ (a C : Addr), vs = [.ref a] ∧ OexB K C B nw ini tl ∧ PySem.W.findIn K (.ref C) "word" = some none ∧ H a = some (exo a C none) ∧
  ∀ (dx : Addr) (H' : Hp), H dx = none → dx ≠ a → H' a = some (exo a C (some dx)) → H' dx = some (exd dx (wordFs wd)) → (∀ b, b ≠ a → b ≠ dx → H' b = H b) → Q .non H'
section
variable {K : PySem.W.Frag} {mg : Str → Option Value} {y wd fld : Str} {C f CB d : Addr} {cs : List Value} {B nw ini : String} {tl : List Value} {H : Hp} {E : XK} {x v : V} {σ : L2.St}
theorem ErrB.at1 (T : ErrB K mg y C f CB cs B nw ini tl) (hn : (("word" : Str) == fld) = false) (h : H d = some (.xd (fldFs fld wd v))) : ErrAtW K CB cs (.ref C) (some d) H (.str wd) := ⟨C, d, _, rfl, rfl, .inr ⟨T.t0, T.te⟩, T.xf, T.nw, h, by
  unfold fldFs
  rw [List.lookup_cons, hn]
  rfl⟩
theorem ErrB.at (T : ErrB K mg y C f CB cs B nw ini tl) (h : H d = some (.xd (wordFs wd))) : ErrAtW K CB cs (.ref C) (some d) H (.str wd) := ⟨C, d, _, rfl, rfl, .inr ⟨T.t0, T.te⟩, T.xf, T.nw, h, rfl⟩
theorem mk_doneB1 (T : ErrB K mg y C f CB cs B nw ini tl) (nf : PySem.W.findIn K (.ref C) fld = some none) (q : ∀ (d : Addr) (H' : Hp), Same H H' → H' d = some (.xd (fldFs fld wd x)) → E (.ref C) (some d) H') :
    [x].length ≤ 1000 ∧ ∀ a, H a = none → spErrInitB1 K B nw ini tl wd fld (.ref a :: ([x] ++ [])) (upd H a (exo a C none)) (fun v H2 => v = .non ∧ ∃ (d : Addr) (fs : List (Str × V)), H2 a = some (exo a C (some d)) ∧ H2 d = some (exd d fs) ∧ H d = none ∧ E (.ref C) (some d) (upd (del H2 a) d (.xd fs))) (fun _ _ _ => False) := by
  refine ⟨by show 1 ≤ 1000; decide, fun a ea => ?_⟩
  refine ⟨a, C, x, rfl, T.oex, T.nw, nf, upd_same, fun dx H6 ed nd hx hd hk => ?_⟩
  have ed2 : H dx = none := by
    rw [upd_ne nd] at ed
    exact ed
  refine ⟨rfl, dx, _, hx, hd, ed2, q dx _ (fun c o e2 => ?_) upd_same⟩
  have n1 : c ≠ a := ne_of_none e2 ea
  have n2 : c ≠ dx := ne_of_none e2 ed2
  rw [upd_ne n2, del_ne n1, hk c n1 n2, upd_ne n1]
  exact e2
theorem raise_doneB (T : ErrB K mg y C f CB cs B nw ini tl) (q : ∀ (d : Addr) (H' : Hp), Same H H' → H' d = some (.xd (wordFs wd)) → E (.ref C) (some d) H') : tMkO C (spErrInitB0 K B nw ini tl wd) [] tNil σ H E := by
  refine ⟨by show 0 ≤ 1000; decide, fun a ea => ?_⟩
  refine ⟨a, C, rfl, T.oex, T.nw, upd_same, fun dx H6 ed nd hx hd hk => ?_⟩
  have ed2 : H dx = none := by
    rw [upd_ne nd] at ed
    exact ed
  refine ⟨rfl, dx, _, hx, hd, ed2, q dx _ (fun c o e2 => ?_) upd_same⟩
  have n1 : c ≠ a := ne_of_none e2 ea
  have n2 : c ≠ dx := ne_of_none e2 ed2
  rw [upd_ne n2, del_ne n1, hk c n1 n2, upd_ne n1]
  exact e2
end
/-! ### methods that may raise -/
structure MetX (P : Program) (w : World) (K : PySem.W.Frag) (mg : Str → Option Value) (base : Heap) (k : Nat) (C : Addr) (m : Str) (ps : List Str) (sp : Sp) : Prop where
  ex : ∃ (f : Addr) (fd : FuncData), Cls K C ∧ Meth K C m f ∧ FnOk P w K mg base (L2.CX P w) k f fd ps sp ∧ Binds K fd ps []
theorem pe_mtX {X : Cx} {C : Addr} {m : Str} {ps : List Str} {sp : Sp} {k : Nat} {o e : Expr} {es : List Expr} {pos apos : Pos} {t : TA} {ta : TE} {E : XK} {pl : Sem Bool} (M : MetX X.prog X.w X.K X.mg X.base k C m ps sp) (hr : Room k X.A) (hx : Passes (L2.CX X.prog X.w) X E) (ho : PE X o ta) (ha : PA X (e :: es) t) (hst : starEach (e :: es) X.env = (false, eval e X.env) :: starEach es X.env := by rfl)
    (hpl : (backTo pos (starEach es X.env)).any (·.1) = false := by rfl)
    (ht : eval (.Call (.Attribute o m apos) (e :: es) [] pos) X.env = (do
      let ov ← eval o X.env
      standAt apos.atName
      let (f, first) ← holding [ov] (getMethod ov m pl)
      callWith pos f first (backTo pos (starEach (e :: es) X.env)) (backToKw pos (keywordEach [] X.env))) := by rfl) : PE X (.Call (.Attribute o m apos) (e :: es) [] pos) (tMeth C m sp [] E ta t) := by
  obtain ⟨f, fd, c, hm, F, hb⟩ := M.ex
  exact pe_meth (pl := pl) ho c hm F hr hb .nil hx ha hst hpl ht
end Bw
set_option linter.all false
namespace E4
/-! ### four buds: where no ring of three or four bars, weights even the ties -/
def mk (b01 b02 b03 b12 b13 b23 : Bool) (i j : Fin 4) : Bool :=
  match i.val, j.val with
  | 0, 1 => b01 | 1, 0 => b01 | 0, 2 => b02 | 2, 0 => b02 | 0, 3 => b03 | 3, 0 => b03
  | 1, 2 => b12 | 2, 1 => b12 | 1, 3 => b13 | 3, 1 => b13 | 2, 3 => b23 | 3, 2 => b23
  | _, _ => false
def fs : List (Fin 4) := [0, 1, 2, 3]
theorem mem_fs (i : Fin 4) : i ∈ fs := by revert i; decide
def reach (e : Fin 4 → Fin 4 → Bool) (u x : Fin 4) : Bool :=
  decide (u = x) || e u x || fs.any (fun y => e u y && (e y x || fs.any fun z => e y z && e z x))
theorem closed0 : ∀ b01 b02 b03 b12 b13 b23 : Bool, ∀ u x y : Fin 4, (!(reach (mk b01 b02 b03 b12 b13 b23) u x && mk b01 b02 b03 b12 b13 b23 x y) || reach (mk b01 b02 b03 b12 b13 b23) u y) = true := by decide +kernel
theorem mk_of (e : Fin 4 → Fin 4 → Bool) (sy : ∀ i j, e i j = e j i) (ir : ∀ i, e i i = false) : e = mk (e 0 1) (e 0 2) (e 0 3) (e 1 2) (e 1 3) (e 2 3) := by
  funext i j
  match i, j with
  | ⟨0, _⟩, ⟨0, _⟩ => exact ir 0
  | ⟨0, _⟩, ⟨1, _⟩ => rfl
  | ⟨0, _⟩, ⟨2, _⟩ => rfl
  | ⟨0, _⟩, ⟨3, _⟩ => rfl
  | ⟨1, _⟩, ⟨0, _⟩ => exact sy 1 0
  | ⟨1, _⟩, ⟨1, _⟩ => exact ir 1
  | ⟨1, _⟩, ⟨2, _⟩ => rfl
  | ⟨1, _⟩, ⟨3, _⟩ => rfl
  | ⟨2, _⟩, ⟨0, _⟩ => exact sy 2 0
  | ⟨2, _⟩, ⟨1, _⟩ => exact sy 2 1
  | ⟨2, _⟩, ⟨2, _⟩ => exact ir 2
  | ⟨2, _⟩, ⟨3, _⟩ => rfl
  | ⟨3, _⟩, ⟨0, _⟩ => exact sy 3 0
  | ⟨3, _⟩, ⟨1, _⟩ => exact sy 3 1
  | ⟨3, _⟩, ⟨2, _⟩ => exact sy 3 2
  | ⟨3, _⟩, ⟨3, _⟩ => exact ir 3
theorem closed {e : Fin 4 → Fin 4 → Bool} (sy : ∀ i j, e i j = e j i) (ir : ∀ i, e i i = false) {u x y : Fin 4} (h : reach e u x = true) (h2 : e x y = true) : reach e u y = true := by
  have c := closed0 (e 0 1) (e 0 2) (e 0 3) (e 1 2) (e 1 3) (e 2 3) u x y
  rw [← mk_of e sy ir, h, h2] at c
  simpa using c
variable {a : Fin 4 → Fin 4 → Nat}
structure Ax (a : Fin 4 → Fin 4 → Nat) : Prop where
  z : ∀ i j, a i j = 0 → a j i = 0
  r3 : ∀ i j k : Fin 4, i ≠ j → j ≠ k → i ≠ k → a i j * a j k * a k i = a j i * a k j * a i k
  r4 : ∀ i j k l : Fin 4, i ≠ j → i ≠ k → i ≠ l → j ≠ k → j ≠ l → k ≠ l → a i j * a j k * a k l * a l i = a j i * a k j * a l k * a i l
structure St (a : Fin 4 → Fin 4 → Nat) (e : Fin 4 → Fin 4 → Bool) (d : Fin 4 → Nat) : Prop where
  sy : ∀ i j, e i j = e j i
  ir : ∀ i, e i i = false
  nz : ∀ i j, e i j = true → 0 < a i j
  pos : ∀ i, 0 < d i
  ev : ∀ i j, e i j = true → d i * a i j = d j * a j i
theorem St.tri {e d} (A : Ax a) (S : St a e d) {u y v : Fin 4} (n : u ≠ v) (h1 : e u y = true) (h2 : e y v = true) : d u * a u v = d v * a v u := by
  have n1 : u ≠ y := fun z => by rw [z, S.ir] at h1; cases h1
  have n2 : y ≠ v := fun z => by rw [z, S.ir] at h2; cases h2
  have r := A.r3 u y v n1 n2 n
  have e1 := S.ev _ _ h1
  have e2 := S.ev _ _ h2
  have p1 := S.nz _ _ (by rw [S.sy] at h1; exact h1)
  have p2 := S.nz _ _ (by rw [S.sy] at h2; exact h2)
  refine Nat.eq_of_mul_eq_mul_left (Nat.mul_pos p1 p2) ?_
  calc a y u * a v y * (d u * a u v) = d u * (a y u * a v y * a u v) := by ac_rfl
    _ = d u * (a u y * a y v * a v u) := by rw [r]
    _ = (d u * a u y) * (a y v * a v u) := by ac_rfl
    _ = (d y * a y u) * (a y v * a v u) := by rw [e1]
    _ = (d y * a y v) * (a y u * a v u) := by ac_rfl
    _ = (d v * a v y) * (a y u * a v u) := by rw [e2]
    _ = a y u * a v y * (d v * a v u) := by ac_rfl
theorem St.quad {e d} (A : Ax a) (S : St a e d) {u y z v : Fin 4} (n : u ≠ v) (nz : u ≠ z) (ny : y ≠ v) (h1 : e u y = true) (h2 : e y z = true) (h3 : e z v = true) : d u * a u v = d v * a v u := by
  have n1 : u ≠ y := fun z => by rw [z, S.ir] at h1; cases h1
  have n2 : y ≠ z := fun z => by rw [z, S.ir] at h2; cases h2
  have n3 : z ≠ v := fun z => by rw [z, S.ir] at h3; cases h3
  have r := A.r4 u y z v n1 nz n n2 ny n3
  have e1 := S.ev _ _ h1
  have e2 := S.ev _ _ h2
  have e3 := S.ev _ _ h3
  have p1 := S.nz _ _ (by rw [S.sy] at h1; exact h1)
  have p2 := S.nz _ _ (by rw [S.sy] at h2; exact h2)
  have p3 := S.nz _ _ (by rw [S.sy] at h3; exact h3)
  refine Nat.eq_of_mul_eq_mul_left (Nat.mul_pos (Nat.mul_pos p1 p2) p3) ?_
  calc a y u * a z y * a v z * (d u * a u v) = d u * (a y u * a z y * a v z * a u v) := by ac_rfl
    _ = d u * (a u y * a y z * a z v * a v u) := by rw [r]
    _ = (d u * a u y) * (a y z * a z v * a v u) := by ac_rfl
    _ = (d y * a y u) * (a y z * a z v * a v u) := by rw [e1]
    _ = (d y * a y z) * (a y u * a z v * a v u) := by ac_rfl
    _ = (d z * a z y) * (a y u * a z v * a v u) := by rw [e2]
    _ = (d z * a z v) * (a y u * a z y * a v u) := by ac_rfl
    _ = (d v * a v z) * (a y u * a z y * a v u) := by rw [e3]
    _ = a y u * a z y * a v z * (d v * a v u) := by ac_rfl
theorem St.meet {e d} (A : Ax a) (S : St a e d) {u v : Fin 4} (n : u ≠ v) (h : reach e u v = true) : d u * a u v = d v * a v u := by
  unfold reach at h
  rw [Bool.or_eq_true, Bool.or_eq_true] at h
  rcases h with (h | h) | h
  · exact absurd (of_decide_eq_true h) n
  · exact S.ev _ _ h
  · obtain ⟨y, _, h⟩ := List.any_eq_true.mp h
    rw [Bool.and_eq_true, Bool.or_eq_true] at h
    obtain ⟨h1, h2 | h2⟩ := h
    · exact S.tri A n h1 h2
    · obtain ⟨z, _, h⟩ := List.any_eq_true.mp h2
      rw [Bool.and_eq_true] at h
      by_cases c1 : u = z
      · exact S.ev _ _ (by rw [c1]; exact h.2)
      · by_cases c2 : y = v
        · exact S.ev _ _ (by rw [← c2]; exact h1)
        · exact S.quad A n c1 c2 h1 h.1 h.2
def addE (e : Fin 4 → Fin 4 → Bool) (u v i j : Fin 4) : Bool := e i j || (decide (i = u) && decide (j = v)) || (decide (i = v) && decide (j = u))
theorem St.add {e d} (A : Ax a) (S : St a e d) {u v : Fin 4} (n : u ≠ v) : ∃ e' d', St a e' d' ∧ (∀ i j, e i j = true → e' i j = true) ∧ (a u v ≠ 0 → e' u v = true) := by
  by_cases hz : a u v = 0
  · exact ⟨e, d, S, fun _ _ h => h, fun h => absurd hz h⟩
  have hz' : a v u ≠ 0 := fun h => hz (A.z _ _ h)
  have sy' : ∀ i j, addE e u v i j = addE e u v j i := fun i j => by
    unfold addE
    rw [S.sy i j]
    cases e j i <;> cases decide (i = u) <;> cases decide (j = v) <;> cases decide (i = v) <;> cases decide (j = u) <;> rfl
  have ir' : ∀ i, addE e u v i i = false := fun i => by
    unfold addE
    rw [S.ir i]
    by_cases c : i = u
    · subst c
      rw [decide_eq_true (rfl : i = i), decide_eq_false n]
      rfl
    · rw [decide_eq_false c, Bool.and_false]
      rfl
  have spl : ∀ i j, addE e u v i j = true → e i j = true ∨ (i = u ∧ j = v) ∨ (i = v ∧ j = u) := fun i j h => by
    unfold addE at h
    rw [Bool.or_eq_true, Bool.or_eq_true, Bool.and_eq_true, Bool.and_eq_true, decide_eq_true_eq, decide_eq_true_eq, decide_eq_true_eq, decide_eq_true_eq] at h
    rcases h with (h | h) | h
    · exact .inl h
    · exact .inr (.inl h)
    · exact .inr (.inr h)
  have nz' : ∀ i j, addE e u v i j = true → 0 < a i j := fun i j h => by
    rcases spl i j h with h | ⟨rfl, rfl⟩ | ⟨rfl, rfl⟩
    · exact S.nz _ _ h
    · omega
    · omega
  have up : ∀ i j, e i j = true → addE e u v i j = true := fun i j h => by unfold addE; rw [h]; rfl
  have own : addE e u v u v = true := by unfold addE; simp
  by_cases hr : reach e u v = true
  · have key := S.meet A n hr
    exact ⟨addE e u v, d, ⟨sy', ir', nz', S.pos, fun i j h => by
      rcases spl i j h with h | ⟨rfl, rfl⟩ | ⟨rfl, rfl⟩
      · exact S.ev _ _ h
      · exact key
      · exact key.symm⟩, up, fun _ => own⟩
  · refine ⟨addE e u v, fun x => if reach e u x = true then d x * (a v u * d v) else d x * (a u v * d u), ⟨sy', ir', nz', fun i => ?_, fun i j h => ?_⟩, up, fun _ => own⟩
    · show 0 < (if reach e u i = true then d i * (a v u * d v) else d i * (a u v * d u))
      have := S.pos i
      have := S.pos u
      have := S.pos v
      split
      · exact Nat.mul_pos (by assumption) (Nat.mul_pos (by omega) (by assumption))
      · exact Nat.mul_pos (by assumption) (Nat.mul_pos (by omega) (by assumption))
    · show (if reach e u i = true then d i * (a v u * d v) else d i * (a u v * d u)) * a i j = (if reach e u j = true then d j * (a v u * d v) else d j * (a u v * d u)) * a j i
      have ru : reach e u u = true := by unfold reach; simp
      rcases spl i j h with h | ⟨rfl, rfl⟩ | ⟨rfl, rfl⟩
      · have k := S.ev _ _ h
        by_cases c : reach e u i = true
        · rw [if_pos c, if_pos (closed S.sy S.ir c h)]
          calc d i * (a v u * d v) * a i j = d i * a i j * (a v u * d v) := by ac_rfl
            _ = d j * a j i * (a v u * d v) := by rw [k]
            _ = _ := by ac_rfl
        · have c2 : ¬ reach e u j = true := fun z => c (closed S.sy S.ir z (by rw [S.sy]; exact h))
          rw [if_neg c, if_neg c2]
          calc d i * (a u v * d u) * a i j = d i * a i j * (a u v * d u) := by ac_rfl
            _ = d j * a j i * (a u v * d u) := by rw [k]
            _ = _ := by ac_rfl
      · rw [if_pos ru, if_neg hr]
        ac_rfl
      · rw [if_pos ru, if_neg hr]
        ac_rfl
theorem all (A : Ax a) : ∃ d : Fin 4 → Nat, (∀ i, 0 < d i) ∧ ∀ i j, i ≠ j → d i * a i j = d j * a j i := by
  have S0 : St a (fun _ _ => false) (fun _ => 1) := ⟨fun _ _ => rfl, fun _ => rfl, fun _ _ h => (Bool.false_ne_true h).elim, fun _ => Nat.one_pos, fun _ _ h => (Bool.false_ne_true h).elim⟩
  obtain ⟨e1, d1, S1, u1, o1⟩ := S0.add A (u := 0) (v := 1) (by decide)
  obtain ⟨e2, d2, S2, u2, o2⟩ := S1.add A (u := 0) (v := 2) (by decide)
  obtain ⟨e3, d3, S3, u3, o3⟩ := S2.add A (u := 0) (v := 3) (by decide)
  obtain ⟨e4, d4, S4, u4, o4⟩ := S3.add A (u := 1) (v := 2) (by decide)
  obtain ⟨e5, d5, S5, u5, o5⟩ := S4.add A (u := 1) (v := 3) (by decide)
  obtain ⟨e6, d6, S6, u6, o6⟩ := S5.add A (u := 2) (v := 3) (by decide)
  have k : ∀ i j : Fin 4, (a i j ≠ 0 → e6 i j = true) → d6 i * a i j = d6 j * a j i := fun i j h => by
    by_cases c : a i j = 0
    · rw [c, A.z _ _ c]
      rfl
    · exact S6.ev _ _ (h c)
  have k01 := k 0 1 fun h => u6 _ _ (u5 _ _ (u4 _ _ (u3 _ _ (u2 _ _ (o1 h)))))
  have k02 := k 0 2 fun h => u6 _ _ (u5 _ _ (u4 _ _ (u3 _ _ (o2 h))))
  have k03 := k 0 3 fun h => u6 _ _ (u5 _ _ (u4 _ _ (o3 h)))
  have k12 := k 1 2 fun h => u6 _ _ (u5 _ _ (o4 h))
  have k13 := k 1 3 fun h => u6 _ _ (o5 h)
  have k23 := k 2 3 fun h => o6 h
  refine ⟨d6, S6.pos, fun i j h => ?_⟩
  match i, j, h with
  | ⟨0, _⟩, ⟨0, _⟩, h => exact absurd rfl h
  | ⟨0, _⟩, ⟨1, _⟩, _ => exact k01
  | ⟨0, _⟩, ⟨2, _⟩, _ => exact k02
  | ⟨0, _⟩, ⟨3, _⟩, _ => exact k03
  | ⟨1, _⟩, ⟨0, _⟩, _ => exact k01.symm
  | ⟨1, _⟩, ⟨1, _⟩, h => exact absurd rfl h
  | ⟨1, _⟩, ⟨2, _⟩, _ => exact k12
  | ⟨1, _⟩, ⟨3, _⟩, _ => exact k13
  | ⟨2, _⟩, ⟨0, _⟩, _ => exact k02.symm
  | ⟨2, _⟩, ⟨1, _⟩, _ => exact k12.symm
  | ⟨2, _⟩, ⟨2, _⟩, h => exact absurd rfl h
  | ⟨2, _⟩, ⟨3, _⟩, _ => exact k23
  | ⟨3, _⟩, ⟨0, _⟩, _ => exact k03.symm
  | ⟨3, _⟩, ⟨1, _⟩, _ => exact k13.symm
  | ⟨3, _⟩, ⟨2, _⟩, _ => exact k23.symm
  | ⟨3, _⟩, ⟨3, _⟩, h => exact absurd rfl h
end E4
set_option Elab.async false
set_option linter.all false
set_option maxRecDepth 100000
set_option maxHeartbeats 4000000
namespace Bw
open PySem PySem.Spec PyProof.Rows L2
def formOk (rows : List (List Int)) : Bool := match rows with
  | [] => false
  | r0 :: _ => decide (1 ≤ r0.length ∧ r0.length ≤ 4) && decide (r0.length ≤ rows.length ∧ rows.length ≤ r0.length + 4) && rows.all (rowOk r0.length)
end Bw
set_option Elab.async false
set_option linter.all false
set_option maxRecDepth 100000
set_option maxHeartbeats 4000000
namespace Bw
open PySem PySem.Spec PyProof.Rows L2
/-! ### any table of a good form: what bars it -/
structure FmOk (rows : List (List Int)) (n : Nat) : Prop where
  n1 : 1 ≤ n
  n4 : n ≤ 4
  len : n ≤ rows.length
  len4 : rows.length ≤ n + 4
  wide : ∀ r ∈ rows, r.length = n
  tie : ∀ r ∈ rows, ∀ t ∈ r, -50 ≤ t ∧ t ≤ 50
theorem fmOk {rows : List (List Int)} (h : formOk rows = true) : FmOk rows (rows.getD 0 []).length := by
  cases rows with
  | nil => cases h
  | cons r0 rest =>
    have h : (decide (1 ≤ r0.length ∧ r0.length ≤ 4) && decide (r0.length ≤ (r0 :: rest).length ∧ (r0 :: rest).length ≤ r0.length + 4) && (r0 :: rest).all (rowOk r0.length)) = true := h
    rw [Bool.and_eq_true, Bool.and_eq_true] at h
    obtain ⟨⟨h1, h2⟩, h3⟩ := h
    have h1 := of_decide_eq_true h1
    have h2 := of_decide_eq_true h2
    have h3 := List.all_eq_true.mp h3
    have h4 : ∀ r ∈ r0 :: rest, r.length = r0.length ∧ ∀ t ∈ r, -50 ≤ t ∧ t ≤ 50 := fun r hr => by
      have h := h3 r hr
      unfold rowOk at h
      rw [Bool.and_eq_true] at h
      refine ⟨of_decide_eq_true h.1, fun t ht => ?_⟩
      have k := of_decide_eq_true (List.all_eq_true.mp h.2 t ht)
      split at k <;> omega
    exact ⟨h1.1, h1.2, h2.1, h2.2, fun r hr => (h4 r hr).1, fun r hr => (h4 r hr).2⟩
theorem formOk_of {rows : List (List Int)} {n : Nat} (F : FmOk rows n) : formOk rows = true := by
  cases rows with
  | nil =>
    have := F.len
    have := F.n1
    simp at *
    omega
  | cons r0 rest =>
    have e := F.wide r0 (List.mem_cons_self ..)
    show (decide (1 ≤ r0.length ∧ r0.length ≤ 4) && decide (r0.length ≤ (r0 :: rest).length ∧ (r0 :: rest).length ≤ r0.length + 4) && (r0 :: rest).all (rowOk r0.length)) = true
    rw [e, decide_eq_true ⟨F.n1, F.n4⟩, decide_eq_true ⟨F.len, F.len4⟩]
    refine List.all_eq_true.mpr fun r hr => ?_
    unfold rowOk
    rw [decide_eq_true (F.wide r hr)]
    refine List.all_eq_true.mpr fun t ht => decide_eq_true ?_
    have := F.tie r hr t ht
    split <;> omega
theorem TabOk.fm {rows : List (List Int)} {n : Nat} (O : TabOk rows n) : FmOk rows n := ⟨O.n1, O.n4, O.len, O.len4, O.wide, O.tie⟩
theorem FmOk.bd {rows : List (List Int)} {n i j : Nat} (O : FmOk rows n) (hi : i < rows.length) (hj : j < n) : -50 ≤ ent rows i j ∧ ent rows i j ≤ 50 := by
  have h := row_len O.wide hi
  have hj2 : j < (rows.getD i []).length := by omega
  have e : ent rows i j = (rows.getD i [])[j] := by
    unfold ent
    rw [List.getD_eq_getElem?_getD (i := j), List.getElem?_eq_getElem hj2]
    rfl
  rw [e]
  refine O.tie (rows.getD i []) ?_ _ (List.getElem_mem hj2)
  rw [List.getD_eq_getElem?_getD, List.getElem?_eq_getElem hi]
  exact List.getElem_mem hi
def pairB (rows : List (List Int)) (i j : Nat) : Bool := !(decide (ent rows i j = 0) && decide (ent rows j i = 0)) && decide (ent rows i j * ent rows j i ≥ 0)
def ringB (rows : List (List Int)) (g : List Nat) : Bool := !decide ((fl (fun z => ent rows z.1 z.2) (g.zip (rot g))).natAbs = (fl (fun z => ent rows z.2 z.1) (g.zip (rot g))).natAbs)
def unlS (n : Nat) (g : List Nat) : List (List Nat) := ((List.range n).filter fun x => !g.contains x).map fun x => g ++ [x]
def unl (n : Nat) : Nat → List (List Nat)
  | 0 => [[]]
  | k + 1 => (unl n k).flatMap (unlS n)
def evenB (rows : List (List Int)) (n : Nat) : Bool := ((List.range n).all fun i => (List.range (n - i)).all fun j => !pairB rows i (i + j)) && (unl n 3 ++ unl n 4).all fun g => !ringB rows g
theorem pairB_even {rows : List (List Int)} {n i j : Nat} (O : TabOk rows n) (hi : i < n) (hj : j < n) : pairB rows i j = false := by
  obtain ⟨d, d0, dv⟩ := O.even
  have key := pair_math (d0 i hi) (d0 j hj) (dv i j hi hj)
  unfold pairB
  rcases key with ⟨h1, h2⟩ | h
  · rw [h1, h2]
    rfl
  · rw [decide_eq_false (show ¬ (ent rows i j * ent rows j i ≥ 0) by omega), Bool.and_false]
theorem unl_lt {n : Nat} : ∀ (m : Nat) (g : List Nat), g ∈ unl n m → g.length = m ∧ ∀ x ∈ g, x < n
  | 0, g, h => by
    rw [List.mem_singleton.mp h]
    exact ⟨rfl, fun x hx => by cases hx⟩
  | m + 1, g, h => by
    obtain ⟨g', h1, h2⟩ := List.mem_flatMap.mp h
    obtain ⟨x, hx, rfl⟩ := List.mem_map.mp h2
    obtain ⟨a, b⟩ := unl_lt m g' h1
    have hx := List.mem_range.mp (List.mem_filter.mp hx).1
    refine ⟨by rw [List.length_append, a]; rfl, fun y hy => ?_⟩
    rcases List.mem_append.mp hy with hy | hy
    · exact b y hy
    · rw [List.mem_singleton.mp hy]
      exact hx
theorem evenB_of {rows : List (List Int)} {n : Nat} (O : TabOk rows n) : evenB rows n = true := by
  unfold evenB
  rw [Bool.and_eq_true]
  refine ⟨List.all_eq_true.mpr fun i hi => List.all_eq_true.mpr fun j hj => ?_, List.all_eq_true.mpr fun g hg => ?_⟩
  · have hi := List.mem_range.mp hi
    have hj := List.mem_range.mp hj
    rw [pairB_even O hi (by omega)]
    rfl
  · have hb : ∀ x ∈ g, x < n := by
      rcases List.mem_append.mp hg with h | h
      · exact (unl_lt _ _ h).2
      · exact (unl_lt _ _ h).2
    unfold ringB
    rw [decide_eq_true (ring_math O hb)]
    rfl
theorem unl_len (n : Nat) (h : n ≤ 4) : (unl n 3).length ≤ 64 ∧ (unl n 4).length ≤ 256 := by
  have : n = 0 ∨ n = 1 ∨ n = 2 ∨ n = 3 ∨ n = 4 := by omega
  rcases this with rfl | rfl | rfl | rfl | rfl <;> decide +kernel
/-- the tuples of such rows -/
def RgAt (H : Hp) : List Addr → List (List Nat) → Prop
  | [], [] => True
  | t :: ts, g :: gs => H t = some (.tup (ringV g)) ∧ RgAt H ts gs
  | _, _ => False
theorem RgAt.keep {H H' : Hp} (s : ∀ b xs, H b = some (.tup xs) → H' b = some (.tup xs)) : ∀ {ts : List Addr} {gs : List (List Nat)}, RgAt H ts gs → RgAt H' ts gs
  | [], [], _ => trivial
  | _ :: _, _ :: _, h => ⟨s _ _ h.1, RgAt.keep s h.2⟩
  | [], _ :: _, h => h
  | _ :: _, [], h => h
theorem RgAt.same {H H' : Hp} (s : Same H H') {ts : List Addr} {gs : List (List Nat)} (h : RgAt H ts gs) : RgAt H' ts gs := h.keep fun b xs e => s _ _ e
theorem RgAt.put {H : Hp} {D : Addr} {xs : List V} {u : HO} {ts : List Addr} {gs : List (List Nat)} (e : H D = some (.lst xs)) (h : RgAt H ts gs) : RgAt (upd H D u) ts gs := h.keep fun b ys k => by
  rw [upd_ne (ne_of k e (by intro z; cases z))]
  exact k
theorem RgAt.snoc {H : Hp} {t : Addr} {g : List Nat} (k : H t = some (.tup (ringV g))) : ∀ {ts : List Addr} {gs : List (List Nat)}, RgAt H ts gs → RgAt H (ts ++ [t]) (gs ++ [g])
  | [], [], _ => ⟨k, trivial⟩
  | _ :: _, _ :: _, h => ⟨h.1, RgAt.snoc k h.2⟩
  | [], _ :: _, h => h.elim
  | _ :: _, [], h => h.elim
theorem RgAt.append {H : Hp} {us : List Addr} {fs : List (List Nat)} (k : RgAt H us fs) : ∀ {ts : List Addr} {gs : List (List Nat)}, RgAt H ts gs → RgAt H (ts ++ us) (gs ++ fs)
  | [], [], _ => k
  | _ :: _, _ :: _, h => ⟨h.1, RgAt.append k h.2⟩
  | [], _ :: _, h => h.elim
  | _ :: _, [], h => h.elim
theorem RgAt.len {H : Hp} : ∀ {ts : List Addr} {gs : List (List Nat)}, RgAt H ts gs → ts.length = gs.length
  | [], [], _ => rfl
  | _ :: _, _ :: _, h => congrArg (· + 1) (RgAt.len h.2)
  | [], _ :: _, h => h.elim
  | _ :: _, [], h => h.elim
theorem RgAt.at {H : Hp} : ∀ {ts : List Addr} {gs : List (List Nat)}, RgAt H ts gs → ∀ {i : Nat} {t : Addr}, ts[i]? = some t → ∃ g, gs[i]? = some g ∧ H t = some (.tup (ringV g))
  | [], [], _, i, t, e => by simp at e
  | t' :: _, g :: _, h, 0, t, e => ⟨g, rfl, by cases (Option.some.inj e); exact h.1⟩
  | _ :: _, _ :: _, h, i + 1, t, e => RgAt.at h.2 (i := i) e
  | [], _ :: _, h, _, _, _ => h.elim
  | _ :: _, [], h, _, _, _ => h.elim
theorem inV_ring (x : Nat) : ∀ g : List Nat, inV (.int x) (ringV g) = g.contains x
  | [] => rfl
  | y :: g => by
    show (eqV (.int y) (.int x) || inV (.int x) (ringV g)) = (x == y || g.contains x)
    rw [inV_ring x g]
    congr 1
    show decide (((y : Nat) : Int) = ((x : Nat) : Int)) = _
    by_cases e : x = y
    · subst e
      simp
    · rw [decide_eq_false (by omega)]
      simp [e]
section
variable {P : Program} {w : World} {K : PySem.W.Frag} {mg : Str → Option Value} {base : Heap}
def spPairG : Sp := fun vs H Q _ => ∃ (a : Addr) (rows : List (List Int)) (n i j : Nat), vs = [.ref a, .int i, .int j] ∧ TabAt H a rows ∧ FmOk rows n ∧ i < n ∧ j < n ∧ Q (.bl (pairB rows i j)) H
theorem ok_pairG {f : Addr} {fd : FuncData} {k : Nat} (F : Fun K "pair_bars" "pair_bars" s_pair_bars f fd) (T : Tx mg) : FnOk P w K mg base CX0 (k + 1) f fd ["table", "i", "j"] spPairG := by
  refine F.ok sc_pair_bars (fun vs H Q E h => ?_) (fun cdv A outer s H vs Q E hr h => ?_)
  · obtain ⟨a, rows, n, i, j, rfl, _⟩ := h
    rfl
  · obtain ⟨a, rows, n, i, j, rfl, hT, O, hi, hj, q⟩ := h
    refine ⟨_, (pss_cons (ps_set (i := 3) sc_pair_bars.nd rfl (.inl rfl) (pe_ix (i_tup (K := K)) (pe_ix (i_tup (K := K)) (pv 0) (pv 1) (fun _ _ => rfl)) (pv 2) (fun _ _ => rfl)))
  (pss_cons (ps_set (i := 4) sc_pair_bars.nd rfl (.inl rfl) (pe_ix (i_tup (K := K)) (pe_ix (i_tup (K := K)) (pv 0) (pv 2) (fun _ _ => rfl)) (pv 1) (fun _ _ => rfl)))
  (pss_one (ps_ret (pe_and (pe_not (pe_and (pe_cmpR op_eq (pv 3) pe_int (nomark _)) (pe_one (pe_cmpR op_eq (pv 4) pe_int (nomark _))))) (pe_one (pe_cmpR op_ge (pe_op op_mul (pv 3) (pv 4)) pe_int (nomark _)))))))), ?_⟩
    have hl := O.len
    have hi2 : i < rows.length := by omega
    have hj2 : j < rows.length := by omega
    obtain ⟨as, bi, e1, e2, e3⟩ := hT.row hi2
    obtain ⟨as', bj, e1', e2', e3'⟩ := hT.row hj2
    have bd := O.bd hi2 hj
    refine ⟨.ref a, rfl, .int i, rfl, a, _, i, .ref bi, rfl, rfl, SqT.of e1, atI_nat e2, .int j, rfl, bi, _, j, _, rfl, rfl, SqT.of e3, atI_nat (ent_get O.wide hi2 hj), ?_⟩
    refine ⟨.ref a, rfl, .int j, rfl, a, _, j, .ref bj, rfl, rfl, SqT.of e1', atI_nat e2', .int i, rfl, bj, _, i, _, rfl, rfl, SqT.of e3', atI_nat (ent_get O.wide hj2 hi), ?_⟩
    unfold pairB at q
    generalize ent rows i j = x at bd q
    generalize ent rows j i = y at q
    refine ⟨.int x, rfl, rfl, _, rfl, ite2 (fun e => ?_) (fun e => ?_)⟩
    · have ex : x = 0 := V.int.inj (of_decide_eq_true e)
      subst ex
      refine ⟨.int y, rfl, rfl, _, rfl, ?_⟩
      by_cases hy : y = 0
      · subst hy
        exact ⟨false, rfl, q⟩
      · have e1 : decide (V.int y = V.int 0) = false := decide_eq_false fun z => hy (V.int.inj z)
        rw [e1]
        refine ⟨true, rfl, .int 0, rfl, .int y, rfl, 0, y, rfl, rfl, .inl ⟨by omega, by omega⟩, _, _, rfl, rfl, ?_⟩
        rw [decide_eq_false hy] at q
        exact q
    · have ex : ¬ x = 0 := fun z => e (decide_eq_true (congrArg V.int z))
      refine ⟨false, rfl, true, rfl, .int x, rfl, .int y, rfl, x, y, rfl, rfl, .inl ⟨by omega, by omega⟩, _, _, rfl, rfl, ?_⟩
      rw [decide_eq_false ex] at q
      exact q
def spRingG : Sp := fun vs H Q _ => ∃ (a t : Addr) (rows : List (List Int)) (n : Nat) (g : List Nat), vs = [.ref a, .ref t] ∧ TabAt H a rows ∧ FmOk rows n ∧ H t = some (.tup (ringV g)) ∧ 2 ≤ g.length ∧ g.length ≤ 4 ∧ (∀ x ∈ g, x < n) ∧ ∀ H', Same H H' → Q (.bl (ringB rows g)) H'
theorem ok_ringG {f : Addr} {fd : FuncData} {k : Nat} (F : Fun K "ring_bars" "ring_bars" s_ring_bars f fd) (T : Tx mg) : FnOk P w K mg base CX0 (k + 1) f fd ["table", "ring"] spRingG := by
  refine F.ok sc_ring_bars (fun vs H Q E h => ?_) (fun cdv A outer s H vs Q E hr h => ?_)
  · obtain ⟨a, t, rows, n, g, rfl, _⟩ := h
    rfl
  · obtain ⟨a, t, rows, n, g, rfl, hT, O, ht, g2, g4, hg, q⟩ := h
    refine ⟨_, (pss_cons (ps_set (i := 2) sc_ring_bars.nd rfl (.inl rfl) pe_int)
  (pss_cons (ps_set (i := 3) sc_ring_bars.nd rfl (.inl rfl) pe_int)
  (pss_cons (ps_for PassesOwn.never rfl (RZ.pi_zipA (by rfl) T.zip (pa_cons (pv 1) (pa_cons (pe_op (o_cat (K := K)) (pe_slice (l_tup (K := K)) (pv 1) (po_some pe_int) po_none) (pe_slice (l_tup (K := K)) (pv 1) po_none (po_some pe_int))) pa_nil))) (pg_tup rfl (pgs_cons (pg_name (i := 4) sc_ring_bars.nd rfl (.inl rfl)) (pgs_cons (pg_name (i := 5) sc_ring_bars.nd rfl (.inl rfl)) pgs_nil)))
    (pss_cons (ps_aug (i := 2) sc_ring_bars.nd rfl (.inl rfl) (pe_ix (i_tup (K := K)) (pe_ix (i_tup (K := K)) (pv 0) (pv 4) (fun _ _ => rfl)) (pv 5) (fun _ _ => rfl)) ip_mul)
    (pss_one (ps_aug (i := 3) sc_ring_bars.nd rfl (.inl rfl) (pe_ix (i_tup (K := K)) (pe_ix (i_tup (K := K)) (pv 0) (pv 5) (fun _ _ => rfl)) (pv 4) (fun _ _ => rfl)) ip_mul))))
  (pss_one (ps_ret (pe_cmpR op_ne (pe_callB call_abs (by rfl) T.abs (by decide +kernel) (pa_cons (pv 2) pa_nil)) (pe_callB call_abs (by rfl) T.abs (by decide +kernel) (pa_cons (pv 3) pa_nil)) (nomark _))))))), ?_⟩
    -- zip(ring, ring[1:] + ring[:1])
    refine ⟨.ref t, rfl, .ref t, rfl, 1, rfl, t, _, rfl, SqT.of ht, fun z => ?_, fun _ c ec => ?_⟩
    · have z1 := z.1
      rw [show HT.sIx (ringV g).length 0 (some 1) = min 1 (ringV g).length from HT.sIx_nat _ 0 1, ringV_len] at z1
      omega
    have s1 := same_upd (o := .tup (cutV (ringV g) (some 1) none)) ec
    refine ⟨.ref t, rfl, 1, rfl, t, _, rfl, SqT.of (s1 _ _ ht), fun z => ?_, fun _ e ee => ?_⟩
    · have z1 := z.2
      rw [show HT.sIx (ringV g).length (ringV g).length (some 1) = min 1 (ringV g).length from HT.sIx_nat _ _ 1, ringV_len] at z1
      omega
    have s2 := same_upd (o := .tup (cutV (ringV g) none (some 1))) ee
    have hc := s2 _ _ (upd_same (H := H) (a := c) (o := .tup (cutV (ringV g) (some 1) none)))
    have hlc : (cutV (ringV g) (some 1) none).length = g.length - 1 := by rw [cut_ring1 g2, ringV_len, List.length_drop]
    have hle : (cutV (ringV g) none (some 1)).length = 1 := by
      rw [cut_ring2 g2, ringV_len, List.length_take]
      omega
    refine ⟨c, e, _, _, rfl, rfl, SqT.of hc, SqT.of upd_same, ?_, fun z => ?_, fun _ z => ?_, fun _ _ p ep => ?_⟩
    · rw [hlc, hle]
      exact Nat.le_of_lt (small1000 (by omega))
    · rw [z] at hlc
      have : 0 = g.length - 1 := hlc
      omega
    · rw [z] at hle
      cases hle
    have s3 := same_upd (o := .tup (cutV (ringV g) (some 1) none ++ cutV (ringV g) none (some 1))) ep
    have hp : (upd (upd (upd H c (.tup (cutV (ringV g) (some 1) none))) e (.tup (cutV (ringV g) none (some 1)))) p (.tup (cutV (ringV g) (some 1) none ++ cutV (ringV g) none (some 1)))) p = some (.tup (ringV (rot g))) := by
      rw [upd_same, cut_ring1 g2, cut_ring2 g2]
      unfold rot ringV
      rw [List.map_append]
    have s13 := s1.trans (s2.trans s3)
    generalize (upd (upd (upd H c (.tup (cutV (ringV g) (some 1) none))) e (.tup (cutV (ringV g) none (some 1)))) p (.tup (cutV (ringV g) (some 1) none ++ cutV (ringV g) none (some 1)))) = H3 at hp s13
    have ht3 := s13 _ _ ht
    have hT3 := hT.same s13
    refine ⟨t, p, ringV g, ringV (rot g), rfl, .inr ⟨SqT.of ht3, SqT.of hp, RZ.for_zipT (by rw [ringV_len, ringV_len, rot_len]) (fun i σ H' => ∃ y4 y5 : Option V, σ = [some (.ref a), some (.ref t), some (.int (fl (fun z => ent rows z.1 z.2) ((g.zip (rot g)).take i))), some (.int (fl (fun z => ent rows z.2 z.1) ((g.zip (rot g)).take i))), y4, y5] ∧ Same H3 H') ⟨none, none, rfl, .refl _⟩ (fun i σ H' ⟨_, _, _, s⟩ => ⟨SqT.of (s _ _ ht3), SqT.of (s _ _ hp)⟩) ?_ ?_⟩⟩
    · rintro i vx vy Tt σ H4 hx hy ⟨y4, y5, rfl, s4⟩ nT
      obtain ⟨x, ex, rfl⟩ := ringV_at hx
      obtain ⟨y, ey, rfl⟩ := ringV_at hy
      have hxn := hg x (List.mem_of_getElem? ex)
      have hyn := hg y (rot_mem (List.mem_of_getElem? ey))
      have hl := O.len
      have hz : (g.zip (rot g))[i]? = some (x, y) := by
        rw [List.getElem?_zip_eq_some]
        exact ⟨ex, ey⟩
      have s5 := s4.trans (same_upd (o := .tup [.int x, .int y]) nT)
      have hT5 := hT3.same s5
      obtain ⟨as, bx, e1, e2, e3⟩ := hT5.row (show x < rows.length by omega)
      obtain ⟨as', by', e1', e2', e3'⟩ := hT5.row (show y < rows.length by omega)
      have bd1 := O.bd (show x < rows.length by omega) hyn
      have bd2 := O.bd (show y < rows.length by omega) hxn
      refine ⟨Tt, [.int x, .int y], rfl, SqT.of upd_same, rfl, .int x, [.int y], rfl, .int y, [], rfl, rfl, ?_⟩
      refine ⟨_, rfl, .ref a, rfl, .int x, rfl, a, _, x, .ref bx, rfl, rfl, SqT.of e1, atI_nat e2, .int y, rfl, bx, _, y, _, rfl, rfl, SqT.of e3, atI_nat (ent_get O.wide (by omega) hyn), _, _, rfl, rfl, .inr ⟨by omega, by omega⟩, ?_⟩
      refine ⟨_, rfl, .ref a, rfl, .int y, rfl, a, _, y, .ref by', rfl, rfl, SqT.of e1', atI_nat e2', .int x, rfl, by', _, x, _, rfl, rfl, SqT.of e3', atI_nat (ent_get O.wide (by omega) hxn), _, _, rfl, rfl, .inr ⟨by omega, by omega⟩, ?_⟩
      refine ⟨some (.int x), some (.int y), ?_, s5⟩
      rw [fl_take hz, fl_take hz]
      rfl
    · rintro σ H4 ⟨y4, y5, rfl, s4⟩
      have et : (g.zip (rot g)).take (ringV g).length = g.zip (rot g) := List.take_of_length_le (by rw [ringV_len, List.length_zip]; omega)
      rw [et]
      refine ⟨_, rfl, _, rfl, _, rfl, _, rfl, rfl, ?_⟩
      rw [abs_if, abs_if]
      have q := q _ (s13.trans s4)
      unfold ringB at q
      have ed : ∀ a b : Nat, (!decide (V.int (a : Int) = V.int (b : Int))) = (!decide (a = b)) := fun a b => by
        by_cases e : a = b
        · subst e
          rw [decide_eq_true rfl, decide_eq_true rfl]
        · rw [decide_eq_false e, decide_eq_false fun z => e (by have := V.int.inj z; omega)]
      rw [ed]
      exact q
theorem unlS_len {n : Nat} (h : n ≤ 4) (g : List Nat) : (unlS n g).length ≤ 4 := by
  unfold unlS
  rw [List.length_map]
  have := List.length_filter_le (fun x => !g.contains x) (List.range n)
  rw [List.length_range] at this
  omega
theorem flat_len {n : Nat} (h : n ≤ 4) : ∀ gs : List (List Nat), (gs.flatMap (unlS n)).length ≤ 4 * gs.length
  | [] => Nat.le_refl _
  | g :: gs => by
    have h1 := flat_len h gs
    have h2 := unlS_len h g
    rw [List.flatMap_cons, List.length_append, List.length_cons]
    omega
theorem unl_len4 {n : Nat} (h : n ≤ 4) : ∀ m, (unl n m).length ≤ 4 ^ m
  | 0 => Nat.le_refl _
  | m + 1 => by
    have h1 := unl_len4 h m
    have h2 := flat_len h (unl n m)
    rw [Nat.pow_succ]
    show ((unl n m).flatMap (unlS n)).length ≤ _
    omega
/-- what is made of g by the first x places -/
def unlP (g : List Nat) (x : Nat) : List (List Nat) := ((List.range x).filter fun x => !g.contains x).map fun x => g ++ [x]
theorem unlP_len (g : List Nat) (x : Nat) : (unlP g x).length ≤ x := by
  unfold unlP
  rw [List.length_map]
  have := List.length_filter_le (fun x => !g.contains x) (List.range x)
  rw [List.length_range] at this
  exact this
theorem unlP_yes {g : List Nat} {x : Nat} (h : g.contains x = false) : unlP g (x + 1) = unlP g x ++ [g ++ [x]] := by
  unfold unlP
  rw [List.range_succ, List.filter_append, List.map_append]
  congr 1
  rw [List.filter_cons, h]
  rfl
theorem unlP_no {g : List Nat} {x : Nat} (h : g.contains x = true) : unlP g (x + 1) = unlP g x := by
  unfold unlP
  rw [List.range_succ, List.filter_append, List.map_append]
  rw [List.filter_cons, h]
  exact List.append_nil _
def spUnlikeG : Sp := fun vs H Q _ => ∃ (n m : Nat), vs = [.int n, .int m] ∧ n ≤ 4 ∧ m ≤ 4 ∧ ∀ (p : Addr) (ts : List Addr) (H' : Hp), Same H H' → H' p = some (.lst (ts.map V.ref)) → RgAt H' ts (unl n m) → Q (.ref p) H'
theorem ok_unlikeG {f : Addr} {fd : FuncData} {k : Nat} (F : Fun K "unlike_rows" "unlike_rows" s_unlike_rows f fd) (T : Tx mg) : FnOk P w K mg base CX0 (k + 1) f fd ["many", "length"] spUnlikeG := by
  refine F.ok sc_unlike_rows (fun vs H Q E h => ?_) (fun cdv A outer s H vs Q E hr h => ?_)
  · obtain ⟨n, m, rfl, _⟩ := h
    rfl
  · obtain ⟨n, m, rfl, n4, m4, q⟩ := h
    refine ⟨_, (pss_cons (ps_set (i := 2) sc_unlike_rows.nd rfl (.inl rfl) (pe_lst (pa_cons (pe_tup pa_nil) pa_nil)))
      (pss_cons (ps_for PassesOwn.never rfl (pi_range1 (by rfl) T.range (pa_cons (pv 1) pa_nil)) (pg_name (i := 3) sc_unlike_rows.nd rfl (.inl rfl))
        (pss_one (ps_setLc2 (i := 2) (own := [("row", 4), ("number", 5)]) (vs1 := [5]) (by rfl) sc_unlike_rows.nd rfl rfl (sw_true rfl rfl rfl (by decide +kernel)) (p_list (K := K) (pv 2)) (blkOk_by (own := [("row", 4), ("number", 5)]) (N := n_unlike_rows) (sc := defScope s_unlike_rows) (by decide +kernel)) (by decide)
          (fun _ _ _ _ _ => (pg_name (i := 4) sc_unlike_rows.nd rfl (.inl rfl))) (fun _ _ _ _ _ => pts_nil) (fun _ _ _ _ _ => (pi_range1 (by rfl) T.range (pa_cons (pv 0) pa_nil))) (fun _ _ _ _ _ => (pg_name (i := 5) sc_unlike_rows.nd rfl (.inl rfl))) (fun _ _ _ _ _ => pts_one (pt_cmpR (o_notin (K := K)) (pv 5) (pv 4) (by rfl)))
          (fun _ _ _ _ _ => (pe_op (o_cat (K := K)) (pv 4) (pe_tup (pa_cons (pv 5) pa_nil)))))))
      (pss_one (ps_ret (pv 2))))), ?_⟩
    refine ⟨Nat.zero_le _, fun e he => ⟨by show 1 ≤ sizeLine; decide, fun R eR => ?_⟩⟩
    have s1 := same_upd (o := .tup []) he
    have s2 := same_upd (o := .lst [.ref e]) eR
    refine ⟨.int m, rfl, m, rfl, by omega, by omega, for_range (fun i σ H' => ∃ (y3 : Option V) (R : Addr) (ts : List Addr), σ = [some (.int n), some (.int m), some (.ref R), y3, none, none] ∧ Same H H' ∧ H' R = some (.lst (ts.map V.ref)) ∧ RgAt H' ts (unl n i))
      ⟨none, R, [e], rfl, s1.trans s2, upd_same, s2 _ _ upd_same, trivial⟩ ?_ ?_⟩
    · rintro i σ H1 hi ⟨y3, R, ts, rfl, sm, eR1, hts⟩
      have hi : i < m := hi
      have lts := hts.len
      have l4 := unl_len4 n4 i
      have l256 : ts.length ≤ 256 := Nat.le_trans (by omega) (pow4 (show i ≤ 4 by omega))
      refine ⟨.ref R, rfl, R, rfl, ⟨_, SqL.of eR1⟩, fun D eD => ?_⟩
      have nRD : R ≠ D := ne_of_none eR1 eD
      refine it_list (K := K) (a := R) (xs := ts.map V.ref) (fun j H' => ∃ us : List Addr, H' D = some (.lst (us.map V.ref)) ∧ RgAt H' us (((unl n i).take j).flatMap (unlS n)) ∧ ∀ b o, b ≠ D → H1 b = some o → H' b = some o)
        ⟨[], upd_same, trivial, fun b o n e => by rw [upd_ne n]; exact e⟩ (fun j H' _ ⟨us, _, _, k⟩ => SqL.of (k _ _ nRD eR1)) ?_ ?_
      · rintro j v H2 hv ⟨us, eD2, hus, k2⟩
        obtain ⟨t, ej, rfl⟩ := ref_at hv
        have hjl := (List.getElem?_eq_some_iff.mp ej).1
        obtain ⟨g, eg, hg⟩ := hts.at ej
        have lg := (unl_lt i g (List.mem_of_getElem? eg)).1
        have lj := flat_len n4 ((unl n i).take j)
        rw [List.length_take] at lj
        refine ⟨rfl, .int n, rfl, n, rfl, by omega, by omega, it_range (fun x H' => ∃ us : List Addr, H' D = some (.lst (us.map V.ref)) ∧ RgAt H' us (((unl n i).take j).flatMap (unlS n) ++ unlP g x) ∧ ∀ b o, b ≠ D → H1 b = some o → H' b = some o) ⟨us, eD2, by rw [show unlP g 0 = [] from rfl, List.append_nil]; exact hus, k2⟩ ?_ ?_⟩
        · rintro x H3 hx ⟨us, eD3, hus, k3⟩
          have hx : x < n := hx
          have e0 : (0 : Int) + (x : Int) = ((x : Nat) : Int) := by omega
          rw [e0]
          have ht3 := k3 _ _ (ne_of_none hg eD) hg
          have lu := hus.len
          have lp := unlP_len g x
          rw [List.length_append] at lu
          refine ⟨rfl, .int x, rfl, .ref t, rfl, t, _, rfl, .inr (SqT.of ht3), rfl, flat_ring g, _, rfl, ite2 (fun hin => ?_) (fun hin => ?_)⟩
          · have hin : (!inV (.int x) (ringV g)) = true := hin
            rw [inV_ring] at hin
            have hc : g.contains x = false := by
              cases h : g.contains x
              · rfl
              · rw [h] at hin
                cases hin
            refine ⟨.ref t, rfl, .int x, rfl, by show 1 ≤ sizeLine; decide, fun c ec => ?_⟩
            have sc := same_upd (o := .tup [.int x]) ec
            have done : ∀ (z : Addr) (H4 : Hp), Same H3 H4 → H4 z = some (.tup (ringV (g ++ [x]))) → ∃ acc, H4 D = some (.lst acc) ∧ acc.length < sizeLine ∧ ∃ us : List Addr, (upd H4 D (.lst (acc ++ [.ref z]))) D = some (.lst (us.map V.ref)) ∧ RgAt (upd H4 D (.lst (acc ++ [.ref z]))) us (((unl n i).take j).flatMap (unlS n) ++ unlP g (x + 1)) ∧ ∀ b o, b ≠ D → H1 b = some o → (upd H4 D (.lst (acc ++ [.ref z]))) b = some o := by
              intro z H4 s4 hz
              have eD4 := s4 _ _ eD3
              refine ⟨_, eD4, by rw [List.length_map]; exact Nat.lt_of_le_of_lt (show us.length ≤ 5000 by omega) (by decide), us ++ [z], by rw [upd_same, List.map_append]; rfl, ?_, fun b o nb e => by rw [upd_ne nb]; exact s4 _ _ (k3 _ _ nb e)⟩
              rw [unlP_yes hc, ← List.append_assoc]
              exact (RgAt.snoc hz (hus.same s4)).put eD4
            refine ⟨t, c, ringV g, [.int x], rfl, rfl, SqT.of (sc _ _ ht3), SqT.of upd_same, ?_, fun z => ?_, fun _ z => (by cases z), fun _ _ p ep => ?_⟩
            · unfold ringV
              rw [List.length_map]
              show g.length + 1 ≤ sizeLine
              exact Nat.le_of_lt (small1000 (by omega))
            · refine done c _ sc ?_
              rw [upd_same]
              unfold ringV at z ⊢
              rw [List.map_append, z]
              rfl
            · refine done p _ (sc.trans (same_upd ep)) ?_
              rw [upd_same]
              unfold ringV
              rw [List.map_append]
              rfl
          · have hin : ¬ (!inV (.int x) (ringV g)) = true := hin
            rw [inV_ring] at hin
            have hc : g.contains x = true := by
              cases h : g.contains x
              · rw [h] at hin
                exact absurd rfl hin
              · rfl
            refine ⟨us, eD3, ?_, k3⟩
            rw [unlP_no hc]
            exact hus
        · rintro H3 ⟨us, eD3, hus, k3⟩
          refine ⟨us, eD3, ?_, k3⟩
          rw [List.take_succ, eg, List.flatMap_append]
          show RgAt H3 us (_ ++ List.flatMap (unlS n) [g])
          rw [List.flatMap_cons, List.flatMap_nil, List.append_nil]
          exact hus
      · rintro H2 ⟨us, eD2, hus, k2⟩
        rw [List.length_map, lts, List.take_length] at hus
        exact ⟨_, D, us, rfl, fun b o e => k2 _ _ (ne_of_none (sm _ _ e) eD) (sm _ _ e), eD2, hus⟩
    · rintro σ H1 ⟨y3, R, ts, rfl, sm, eR1, hts⟩
      exact ⟨.ref R, rfl, q R ts _ sm eR1 hts⟩
end
end Bw
set_option Elab.async false
set_option linter.all false
set_option maxRecDepth 100000
set_option maxHeartbeats 4000000
namespace Bw
open PySem PySem.Spec PyProof.Rows L2
/-! ### what bars, and that nothing else does -/
def isBar (rows : List (List Int)) (n : Nat) (g : List Nat) : Prop := (∃ i j, g = [i, j] ∧ i ≤ j ∧ j < n ∧ pairB rows i j = true) ∨ (g ∈ unl n 3 ++ unl n 4 ∧ ringB rows g = true)
theorem evenB_pair {rows : List (List Int)} {n i j : Nat} (hi : i < n) (hj : j < n - i) (h : pairB rows i (i + j) = true) : evenB rows n = false := by
  cases e : evenB rows n with
  | false => rfl
  | true =>
    unfold evenB at e
    rw [Bool.and_eq_true] at e
    have := List.all_eq_true.mp (List.all_eq_true.mp e.1 i (List.mem_range.mpr hi)) j (List.mem_range.mpr hj)
    rw [h] at this
    cases this
theorem evenB_ring {rows : List (List Int)} {n : Nat} {g : List Nat} (hg : g ∈ unl n 3 ++ unl n 4) (h : ringB rows g = true) : evenB rows n = false := by
  cases e : evenB rows n with
  | false => rfl
  | true =>
    unfold evenB at e
    rw [Bool.and_eq_true] at e
    have := List.all_eq_true.mp e.2 g hg
    rw [h] at this
    cases this
theorem evenB_yes {rows : List (List Int)} {n : Nat} (h1 : ∀ i, i < n → ∀ j, j < n - i → pairB rows i (i + j) = false) (h2 : ∀ (i : Nat) (g : List Nat), (unl n 3 ++ unl n 4)[i]? = some g → ringB rows g = false) : evenB rows n = true := by
  unfold evenB
  rw [Bool.and_eq_true]
  refine ⟨List.all_eq_true.mpr fun i hi => List.all_eq_true.mpr fun j hj => ?_, List.all_eq_true.mpr fun g hg => ?_⟩
  · rw [h1 i (List.mem_range.mp hi) j (List.mem_range.mp hj)]
    rfl
  · obtain ⟨i, e⟩ := List.getElem?_of_mem hg
    rw [h2 i g e]
    rfl
theorem isBar.no {rows : List (List Int)} {n : Nat} {g : List Nat} (h : isBar rows n g) : evenB rows n = false := by
  rcases h with ⟨i, j, rfl, h1, h2, h3⟩ | ⟨h1, h2⟩
  · obtain ⟨k, rfl⟩ : ∃ k, j = i + k := ⟨j - i, by omega⟩
    exact evenB_pair (by omega) (by omega) h3
  · exact evenB_ring h1 h2
section
variable {P : Program} {w : World} {K : PySem.W.Frag} {mg : Str → Option Value} {base : Heap} {CU fU CB : Addr} {R0 : List (List Int)}
def spFm : Sp := fun vs H Q _ => ∃ (a : Addr) (rows : List (List Int)) (n : Nat), vs = [.ref a] ∧ TabAt H a rows ∧ FmOk rows n ∧ ∀ H', Same H H' → Q .non H'
theorem ok_formF {f : Addr} {fd : FuncData} (F : Fun K "check_form" "check_form" s_check_form f fd) (T : Tx mg) (c_is_row : Cal P w K mg base CX0 2 "is_row" ["row", "many"] spIsRow) : FnOk P w K mg base CX0 3 f fd ["table"] spFm := by
  refine F.ok sc_check_form (fun vs H Q E h => ?_) (fun cdv A outer s H vs Q E hr h => ?_)
  · obtain ⟨a, rows, n, rfl, _⟩ := h
    rfl
  · obtain ⟨a, rows, n, rfl, hT, O, q⟩ := h
    refine ⟨_, (pss_cons (ps_if (PW.pt (pw_or (pt_not (pt_val (pe_callB (c_isi (K := K)) (by rfl) T.isinstance (by decide +kernel) (pa_cons (pv 0) (pa_cons (pe_bltn (v := .ty "tuple") (by rfl) T.tuple (by decide +kernel) rfl) pa_nil))))) (pw_or (pt_cmpR op_eq (pe_callB (c_len (K := K)) (by rfl) T.len PySem.boot_len (pa_cons (pv 0) pa_nil)) pe_int (nomark _)) (pw_or1 (pt_not (pt_val (pe_callB (c_isi (K := K)) (by rfl) T.isinstance (by decide +kernel) (pa_cons (pe_ix (i_tup (K := K)) (pv 0) pe_int (fun _ _ => rfl)) (pa_cons (pe_bltn (v := .ty "tuple") (by rfl) T.tuple (by decide +kernel) rfl) pa_nil)))))))))
    (pss_one ps_never)
    pss_nil)
  (pss_cons (ps_set (i := 1) sc_check_form.nd rfl (.inr rfl) (pe_callB (c_len (K := K)) (by rfl) T.len PySem.boot_len (pa_cons (pe_ix (i_tup (K := K)) (pv 0) pe_int (fun _ _ => rfl)) pa_nil)))
  (pss_cons (ps_if (PW.pt (pw_or (pt_not (pt_chain op_le op_le pe_int (pv 1) (pe_gint (by rfl) T.MOST_BUDS))) (pw_or1 (pt_not (pt_chain op_le op_le (pv 1) (pe_callB (c_len (K := K)) (by rfl) T.len PySem.boot_len (pa_cons (pv 0) pa_nil)) (pe_op op_add (pv 1) (pe_gint (by rfl) T.MOST_ROOTS)))))))
    (pss_one ps_never)
    pss_nil)
  (pss_one (ps_if (pt_not (pt_val (pe_callB (c_all (K := K) rfl) (by rfl) T.all (by decide +kernel) (pa_cons (pe_lc (own := [("row", 2)]) (by rfl) sc_check_form.nd (p_tup (K := K) (pv 0)) (blkOk_by (own := [("row", 2)]) (N := n_check_form) (sc := defScope s_check_form) (by decide +kernel)) (fun _ _ _ _ _ => (pg_name (i := 2) sc_check_form.nd rfl (.inl rfl))) (fun _ _ _ _ _ => pts_nil) (fun _ _ _ _ _ => (pe_cal c_is_row hr (by rfl) (pa_cons (pv 2) (pa_cons (pv 1) pa_nil))))) pa_nil))))
    (pss_one ps_never)
    pss_nil))))), ?_⟩
    have h1 := O.n1
    have h2 := O.n4
    have h3 := O.len
    have h4 := O.len4
    have l0 : 0 < rows.length := by omega
    obtain ⟨as, ha, hal, has⟩ := id hT
    obtain ⟨b, hb1, hb⟩ := has 0 _ (List.getElem?_eq_getElem l0)
    have hb0 : (as.map V.ref)[0]? = some (.ref b) := by rw [List.getElem?_map, hb1]; rfl
    have hw0 := O.wide _ (List.getElem_mem l0)
    -- the form
    refine ⟨.ref a, rfl, _, _, _, _, true, rfl, .ty "tuple", .base (.tup ha), kit_ty (by decide +kernel), true, rfl, ?_⟩
    refine iteF ⟨.ref a, rfl, a, _, rfl, .inr (SqT.of ha), rfl, _, rfl, ite2 (fun e => ?_) (fun _ => ?_)⟩
    · have := V.int.inj (of_decide_eq_true e)
      rw [List.length_map] at this
      omega
    refine ⟨.ref a, rfl, a, _, 0, .ref b, rfl, rfl, SqT.of ha, atI_nat (j := 0) hb0, _, _, _, _, true, rfl, .ty "tuple", .base (.tup hb), kit_ty (by decide +kernel), true, rfl, iteF ?_⟩
    -- many
    refine ⟨.ref a, rfl, a, _, 0, .ref b, rfl, rfl, SqT.of ha, atI_nat (j := 0) hb0, b, _, rfl, .inr (SqT.of hb), ?_⟩
    rw [List.length_map, hw0]
    refine ⟨.int n, rfl, _, _, rfl, rfl, _, rfl, ite2 (fun _ => ⟨_, _, rfl, rfl, _, rfl, iteNS (show (n : Int) ≤ 4 by omega) ?_⟩) (fun e => absurd (decide_eq_true (show (1 : Int) ≤ n by omega)) e)⟩
    refine ⟨.int n, rfl, .ref a, rfl, a, _, rfl, .inr (SqT.of ha), _, _, rfl, rfl, _, rfl, ?_⟩
    rw [List.length_map, hal]
    refine ite2 (fun _ => ⟨.int n, rfl, _, _, rfl, rfl, _, _, rfl, rfl, _, rfl, iteNS (show (rows.length : Int) ≤ n + 4 by omega) ?_⟩) (fun e => absurd (decide_eq_true (show (n : Int) ≤ rows.length by omega)) e)
    -- all rows
    refine ⟨.ref a, rfl, a, rfl, ⟨_, SqT.of ha⟩, fun D eD => ?_⟩
    have naD : a ≠ D := ne_of_none ha eD
    refine lc_tup (K := K) (a := a) (xs := as.map V.ref) (fun j H' => H' D = some (.lst ((List.replicate j true).map V.bl)) ∧ ∀ b o, b ≠ D → H b = some o → H' b = some o) ⟨upd_same, fun b o n e => by rw [upd_ne n]; exact e⟩ (fun j H' _ ⟨_, k⟩ => SqT.of (k _ _ naD ha)) ?_ ?_
    · rintro j v H1 hv ⟨e1, k1⟩
      rw [List.getElem?_map] at hv
      cases ej : as[j]? with
      | none =>
        rw [ej] at hv
        cases hv
      | some c =>
        rw [ej] at hv
        cases hv
        have hj : j < rows.length := by
          have := (List.getElem?_eq_some_iff.mp ej).1
          omega
        obtain ⟨c', e2, hc⟩ := has j _ (List.getElem?_eq_getElem hj)
        cases (Option.some.inj (ej.symm.trans e2))
        have hw := O.wide _ (List.getElem_mem hj)
        have ht := O.tie _ (List.getElem_mem hj)
        generalize rows[j] = r at hc hw ht
        refine ⟨rfl, .ref c, rfl, .int n, rfl, c, r, by rw [hw]; rfl, k1 _ _ (ne_of_none hc eD) hc, by omega, ht, fun H2 s2 => ?_⟩
        refine ⟨_, s2 _ _ e1, by rw [List.length_map, List.length_replicate]; exact small1000 (by omega), ?_, fun b o n e => ?_⟩
        · rw [upd_same, List.replicate_succ', List.map_append]
          rfl
        · rw [upd_ne n]
          exact s2 _ _ (k1 _ _ n e)
    · rintro H1 ⟨e1, k1⟩
      refine ⟨D, _, rfl, SqL.of e1, true, ?_, iteF (q _ fun b o e => k1 _ _ (ne_of_none e eD) e)⟩
      rw [all_rep]
def spBarX : Sp := fun vs H Q _ => ∃ (a : Addr) (rows : List (List Int)) (n : Nat), vs = [.ref a] ∧ TabAt H a rows ∧ FmOk rows n ∧ (evenB rows n = true → ∀ H', Same H H' → Q .non H') ∧
  ∀ (t : Addr) (g : List Nat) (H' : Hp), Same H H' → H' t = some (.tup (ringV g)) → isBar rows n g → Q (.ref t) H'
theorem ok_barX {f : Addr} {fd : FuncData} (F : Fun K "barred" "barred" s_barred f fd) (T : Tx mg) (c_check_form : Cal P w K mg base CX0 3 "check_form" ["table"] spFm) (c_bud_count : Cal P w K mg base CX0 1 "bud_count" ["table"] spBuds)
    (c_pair_bars : Cal P w K mg base CX0 1 "pair_bars" ["table", "i", "j"] spPairG) (c_unlike_rows : Cal P w K mg base CX0 1 "unlike_rows" ["many", "length"] spUnlikeG) (c_ring_bars : Cal P w K mg base CX0 1 "ring_bars" ["table", "ring"] spRingG) : FnOk P w K mg base CX0 4 f fd ["table"] spBarX := by
  refine F.ok sc_barred (fun vs H Q E h => ?_) (fun cdv A outer s H vs Q E hr h => ?_)
  · obtain ⟨a, rows, n, rfl, _⟩ := h
    rfl
  · obtain ⟨a, rows, n, rfl, hT, O, q1, q2⟩ := h
    have hr1 := hr.mono (show 1 ≤ 3 by decide)
    refine ⟨_, (pss_cons (ps_expr (pe_cal c_check_form hr (by rfl) (pa_cons (pv 0) pa_nil)))
  (pss_cons (ps_set (i := 1) sc_barred.nd rfl (.inl rfl) (pe_cal c_bud_count hr1 (by rfl) (pa_cons (pv 0) pa_nil)))
  (pss_cons (ps_for PassesOwn.never rfl (pi_range1 (by rfl) T.range (pa_cons (pv 1) pa_nil)) (pg_name (i := 2) sc_barred.nd rfl (.inl rfl))
    (pss_one (ps_for PassesOwn.never rfl (pi_range2 (by rfl) T.range (pa_cons (pv 2) (pa_cons (pv 1) pa_nil))) (pg_name (i := 3) sc_barred.nd rfl (.inl rfl))
      (pss_one (ps_if (pt_val (pe_cal c_pair_bars hr1 (by rfl) (pa_cons (pv 0) (pa_cons (pv 2) (pa_cons (pv 3) pa_nil)))))
        (pss_one (ps_ret (pe_tup (pa_cons (pv 2) (pa_cons (pv 3) pa_nil)))))
        pss_nil)))))
  (pss_cons (ps_for PassesOwn.never rfl (p_list (K := K) (pe_op op_cat (pe_cal c_unlike_rows hr1 (by rfl) (pa_cons (pv 1) (pa_cons pe_int pa_nil))) (pe_cal c_unlike_rows hr1 (by rfl) (pa_cons (pv 1) (pa_cons pe_int pa_nil))))) (pg_name (i := 4) sc_barred.nd rfl (.inl rfl))
    (pss_one (ps_if (pt_val (pe_cal c_ring_bars hr1 (by rfl) (pa_cons (pv 0) (pa_cons (pv 4) pa_nil))))
      (pss_one (ps_ret (pv 4)))
      pss_nil)))
  (pss_one (ps_ret pe_non)))))), ?_⟩
    refine ⟨.ref a, rfl, a, rows, n, rfl, hT, O, fun H1 s1 => ?_⟩
    have h1 := O.n1
    have h2 := O.n4
    have h3 := O.len
    refine ⟨.ref a, rfl, a, rows, n, rfl, hT.same s1, by omega, O.wide, ?_⟩
    refine ⟨.int n, rfl, n, rfl, by omega, by omega, for_range (fun i σ H' => ∃ y2 y3 : Option V, σ = [some (.ref a), some (.int n), y2, y3, none] ∧ Same H H' ∧ ∀ i', i' < i → ∀ j, j < n - i' → pairB rows i' (i' + j) = false) ⟨none, none, rfl, s1, fun i' z => by omega⟩ ?_ ?_⟩
    · rintro i σ H2 hi ⟨y2, y3, rfl, s2, hp⟩
      have hi : i < n := hi
      have e0 : (0 : Int) + (i : Int) = (i : Int) := by omega
      rw [e0]
      refine ⟨_, rfl, _, rfl, i, n, rfl, ⟨by omega, by omega, by omega, by omega⟩, for_range (fun j σ H' => ∃ y3 : Option V, σ = [some (.ref a), some (.int n), some (.int i), y3, none] ∧ Same H H' ∧ ∀ j', j' < j → pairB rows i (i + j') = false) ⟨y3, rfl, s2, fun j' z => by omega⟩ ?_ ?_⟩
      · rintro j σ H3 hj ⟨y3, rfl, s3, hpj⟩
        have hj : j < ((n : Int) - (i : Int)).toNat := hj
        have hJ : (i : Int) + (j : Int) = ((i + j : Nat) : Int) := by omega
        rw [hJ]
        refine ⟨_, rfl, _, rfl, _, rfl, a, rows, n, i, i + j, rfl, hT.same s3, O, hi, by omega, _, rfl, ite2 (fun e => ?_) (fun e => ⟨_, rfl, s3, fun j' hj' => ?_⟩)⟩
        · exact ⟨_, rfl, _, rfl, by show 2 ≤ sizeLine; decide, fun p ep => q2 p [i, i + j] _ (s3.trans (same_upd ep)) upd_same (.inl ⟨i, i + j, rfl, by omega, by omega, e⟩)⟩
        · by_cases z : j' < j
          · exact hpj j' z
          · have : j' = j := by omega
            subst this
            cases h : pairB rows i (i + j') with
            | false => rfl
            | true => exact absurd h e
      · rintro σ H3 ⟨y3, rfl, s3, hpj⟩
        have hpj : ∀ j', j' < ((n : Int) - (i : Int)).toNat → pairB rows i (i + j') = false := hpj
        refine ⟨_, y3, rfl, s3, fun i' hi' j hj => ?_⟩
        by_cases z : i' < i
        · exact hp i' z j hj
        · have : i' = i := by omega
          subst this
          exact hpj j (by omega)
    · rintro σ H2 ⟨y2, y3, rfl, s2, hp⟩
      have hp : ∀ i', i' < n → ∀ j, j < n - i' → pairB rows i' (i' + j) = false := hp
      have lu := unl_len n h2
      refine ⟨.int n, rfl, n, 3, rfl, h2, by decide, fun p ts H3 s3 hp3 hts => ?_⟩
      refine ⟨.int n, rfl, n, 4, rfl, h2, by decide, fun p' ts' H4 s4 hp' hts' => ?_⟩
      have l3 := hts.len
      have l4 := hts'.len
      refine ⟨p, p', _, _, rfl, rfl, s4 _ _ hp3, hp', ?_, fun R eR => ?_⟩
      · rw [List.length_map, List.length_map]
        exact Nat.le_trans (show ts.length + ts'.length ≤ 1000 by omega) (by decide)
      have sR := same_upd (o := .lst (ts.map V.ref ++ ts'.map V.ref)) eR
      have hA : RgAt (upd H4 R (.lst (ts.map V.ref ++ ts'.map V.ref))) (ts ++ ts') (unl n 3 ++ unl n 4) := (RgAt.append hts' (hts.same s4)).same sR
      have eRR : (upd H4 R (.lst (ts.map V.ref ++ ts'.map V.ref))) R = some (.lst ((ts ++ ts').map V.ref)) := by
        rw [upd_same, List.map_append]
      have sAll := s2.trans (s3.trans (s4.trans sR))
      generalize (upd H4 R (.lst (ts.map V.ref ++ ts'.map V.ref))) = H5 at hA eRR sAll
      have lA := hA.len
      refine ⟨R, rfl, ⟨_, SqL.of eRR⟩, for_list (K := K) (a := R) (xs := (ts ++ ts').map V.ref) (fun i σ H' => ∃ y4 : Option V, σ = [some (.ref a), some (.int n), y2, y3, y4] ∧ Same H5 H' ∧ ∀ (i' : Nat) (g : List Nat), i' < i → (unl n 3 ++ unl n 4)[i']? = some g → ringB rows g = false) ⟨none, rfl, .refl _, fun i' g z => by omega⟩ (fun i σ H' _ ⟨_, _, s, _⟩ => SqL.of (s _ _ eRR)) ?_ ?_⟩
      · rintro i v σ H6 hv ⟨y4, rfl, s6, hg0⟩
        obtain ⟨t, et, rfl⟩ := ref_at hv
        obtain ⟨g, eg, hg⟩ := hA.at et
        have hm := List.mem_of_getElem? eg
        have lg : (g.length = 3 ∨ g.length = 4) ∧ ∀ x ∈ g, x < n := by
          rcases List.mem_append.mp hm with h | h
          · exact ⟨.inl (unl_lt _ _ h).1, (unl_lt _ _ h).2⟩
          · exact ⟨.inr (unl_lt _ _ h).1, (unl_lt _ _ h).2⟩
        refine ⟨_, rfl, _, rfl, a, t, rows, n, g, rfl, hT.same (sAll.trans s6), O, s6 _ _ hg, by omega, by omega, lg.2, fun H7 s7 => ⟨_, rfl, ite2 (fun e => ?_) (fun e => ⟨_, rfl, s6.trans s7, fun i' g' hi' eg' => ?_⟩)⟩⟩
        · exact ⟨_, rfl, q2 t g _ (sAll.trans (s6.trans s7)) (s7 _ _ (s6 _ _ hg)) (.inr ⟨hm, e⟩)⟩
        · by_cases z : i' < i
          · exact hg0 i' g' z eg'
          · have : i' = i := by omega
            subst this
            have eq := Option.some.inj (eg'.symm.trans eg)
            subst eq
            cases h : ringB rows g' with
            | false => rfl
            | true => exact absurd h e
      · rintro σ H6 ⟨y4, rfl, s6, hg0⟩
        refine q1 (evenB_yes hp fun i g e => hg0 i g ?_ e) _ (sAll.trans s6)
        rw [List.length_map, lA]
        exact (List.getElem?_eq_some_iff.mp e).1
def UnD (R0 : List (List Int)) (H : Hp) (d : Addr) : Prop := ∃ (t : Addr) (g : List Nat), H d = some (.xd (fldFs "ring" "uneven" (.ref t))) ∧ H t = some (.tup (ringV g)) ∧ isBar R0 (R0.getD 0 []).length g
/-- refused as uneven -/
def BadE (CT : Addr) (R0 : List (List Int)) (H : Hp) (E : XK) : Prop := ∀ (d : Addr) (H' : Hp), Same H H' → UnD R0 H' d → E (.ref CT) (some d) H'
theorem BadE.same {CT : Addr} {R0 : List (List Int)} {H H' : Hp} {E : XK} (s : Same H H') (h : BadE CT R0 H E) : BadE CT R0 H' E := fun d H2 s2 hd => h d H2 (s.trans s2) hd
/-- a table that is none -/
def BdT (R0 : List (List Int)) (H : Hp) (v : V) : Prop := ∃ (a : Addr) (n : Nat), v = .ref a ∧ TabAt H a R0 ∧ FmOk R0 n ∧ evenB R0 n = false
theorem BdT.same {R0 : List (List Int)} {H H' : Hp} {v : V} (s : Same H H') (h : BdT R0 H v) : BdT R0 H' v := by
  obtain ⟨a, n, e, h, f⟩ := h
  exact ⟨a, n, e, h.same s, f⟩
theorem FmOk.wid {rows : List (List Int)} {n : Nat} (O : FmOk rows n) : (rows.getD 0 []).length = n := by
  have h1 := O.n1
  have h2 := O.len
  have h3 : 0 < rows.length := by omega
  rw [List.getD_eq_getElem?_getD, List.getElem?_eq_getElem h3]
  exact O.wide _ (List.getElem_mem h3)
theorem UnD.at {K : PySem.W.Frag} {mg : Str → Option Value} {x : Str} {C f CB d : Addr} {H : Hp} (T : ErrC K mg x C f CB) (h : UnD R0 H d) : ErrAt K CB (.ref C) (some d) H (.str "uneven") := by
  obtain ⟨t, g, h, _⟩ := h
  exact T.at1 (by decide) h
def spBad (CT : Addr) (R0 : List (List Int)) : Sp := fun vs H Q E => ∃ v : V, vs = [v] ∧ BdT R0 H v ∧ BadE CT R0 H E
theorem ok_chkD {f : Addr} {fd fdU : FuncData} (F : Fun K "check_table" "check_table" s_check_table f fd) (TU : ErrC K mg "Uneven" CU fU CB) (nU : PySem.W.findIn K (.ref CU) "ring" = some none) (FU : FnOk P w K mg base CX0 2 fU fdU ["self", "ring"] (spErrInit1 K "uneven" "ring")) (bU : Binds K fdU ["self", "ring"] []) (c_barred : Cal P w K mg base CX0 4 "barred" ["table"] spBarX) : FnOk P w K mg base (L2.CX P w) 6 f fd ["table"] (spBad CU R0) := by
  refine F.okX sc_check_table (fun vs H Q E h => ?_) (fun cdv A outer s H vs Q E hr h => ?_)
  · obtain ⟨v, rfl, _⟩ := h
    rfl
  · obtain ⟨v, rfl, hv, qE⟩ := h
    have hr3 := hr.mono (show 3 ≤ 5 by decide)
    have hr4 := hr.mono (show 4 ≤ 5 by decide)
    refine ⟨_, (pss_cons (ps_set (i := 1) sc_check_table.nd rfl (.inl rfl) (pe_cal c_barred hr4 (by rfl) (pa_cons (pv 0) pa_nil)))
  (pss_one (ps_if (pt_cmpR op_notN (pv 1) pe_non (nomark _))
    (pss_one (ps_raise rfl (takes_of rfl rfl rfl rfl) (pmk_oex TU.oex TU.iC TU.tI FU hr3 bU .nil pass0 (by rfl) TU.g (pa_cons (pv 1) pa_nil))))
    pss_nil))), ?_⟩
    obtain ⟨a, n, rfl, hT, O, ev⟩ := hv
    refine ⟨.ref a, rfl, a, R0, n, rfl, hT, O, fun z => absurd (ev.symm.trans z) (by decide), fun t g H1 s1 ht hb => ?_⟩
    refine ⟨.ref t, rfl, rfl, _, rfl, iteT ⟨.ref t, rfl, mk_done1 TU nU fun d H2 s2 hd => qE _ H2 (s1.trans s2) ⟨t, g, hd, s2 _ _ ht, by rw [O.wid]; exact hb⟩⟩⟩
end
end Bw
set_option Elab.async false
set_option linter.all false
set_option maxRecDepth 100000
set_option maxHeartbeats 4000000
namespace Bw
open PySem PySem.Spec PyProof.Rows L2
/-! ### doors: each judges the table first -/
def spBad2 (CT : Addr) (R0 : List (List Int)) : Sp := fun vs H Q E => ∃ (v x1 : V), vs = [v, x1] ∧ BdT R0 H v ∧ BadE CT R0 H E
def spBad3 (CT : Addr) (R0 : List (List Int)) : Sp := fun vs H Q E => ∃ (v x1 x2 : V), vs = [v, x1, x2] ∧ BdT R0 H v ∧ BadE CT R0 H E
def spBad4 (CT : Addr) (R0 : List (List Int)) : Sp := fun vs H Q E => ∃ (v x1 x2 x3 : V), vs = [v, x1, x2, x3] ∧ BdT R0 H v ∧ BadE CT R0 H E
/-- a function with default values -/
structure CalDX (P : Program) (w : World) (K : PySem.W.Frag) (mg : Str → Option Value) (base : Heap) (k : Nat) (x : Str) (ps : List Str) (d : V) (sp : Sp) : Prop where
  ex : ∃ (f : Addr) (fd : FuncData) (ds : List Value), FnOk P w K mg base (L2.CX P w) k f fd ps sp ∧ mg x = some (.ref f) ∧ PySem.W.keepIn K (.ref f) = true ∧ Vals [d] ds ∧ Binds K fd ps ds
theorem pe_calDX {X : Cx} {x : Str} {ps : List Str} {sp : Sp} {k : Nat} {d : V} {e : Expr} {es : List Expr} {p pos : Pos} {t : TA} {E : XK} (C : CalDX X.prog X.w X.K X.mg X.base k x ps d sp) (hr : Room k X.A) (hg : Gl X x) (hx : Passes (L2.CX X.prog X.w) X E) (ha : PA X (e :: es) t) (hdb : (x == ("__debug__" : Str)) = false := by decide) (he : starEach (e :: es) X.env = (false, eval e X.env) :: starEach es X.env := by rfl)
    (hpl : (backTo pos (starEach es X.env)).any (·.1) = false := by rfl) : PE X (.Call (.Name x p) (e :: es) [] pos) (tCall sp [d] E t) := by
  obtain ⟨f, fd, ds, F, hm, hk, vd, hb⟩ := C.ex
  exact pe_call F hr hg hm hk hb vd hx ha hdb he hpl
/-- an own class whose making may be refused -/
structure MakN (P : Program) (w : World) (K : PySem.W.Frag) (mg : Str → Option Value) (base : Heap) (k : Nat) (y : Str) (C : Addr) (ps : List Str) (sp : Sp) : Prop where
  ex : ∃ (f : Addr) (fd : FuncData), Mk K C f ∧ FnOk P w K mg base (L2.CX P w) k f fd ps sp ∧ mg y = some (.ref C) ∧ Binds K fd ps []
theorem pe_mkN {X : Cx} {y : Str} {ps : List Str} {sp : Sp} {k : Nat} {C : Addr} {e : Expr} {es : List Expr} {p pos : Pos} {t : TA} {E : XK} (M : MakN X.prog X.w X.K X.mg X.base k y C ps sp) (hr : Room (k + 1) X.A) (hg : Gl X y) (hx : Passes (L2.CX X.prog X.w) X E) (ha : PA X (e :: es) t) (hdb : (y == ("__debug__" : Str)) = false := by decide) (he : starEach (e :: es) X.env = (false, eval e X.env) :: starEach es X.env := by rfl)
    (hpl : (backTo pos (starEach es X.env)).any (·.1) = false := by rfl) : PE X (.Call (.Name y p) (e :: es) [] pos) (tMake C sp [] E t) := by
  obtain ⟨f, fd, mk, F, hm, hb⟩ := M.ex
  exact pe_make mk F hr hg hm hb .nil hx ha hdb he hpl
def spBadI (CT : Addr) (R0 : List (List Int)) : Sp := fun vs H Q E => ∃ (x : Addr) (v : V), vs = [.ref x, v] ∧ BdT R0 H v ∧ BadE CT R0 H E
section
variable {P : Program} {w : World} {K : PySem.W.Frag} {mg : Str → Option Value} {base : Heap} {CT : Addr} {R0 : List (List Int)}
abbrev s_weights : Stmt := topS 42
abbrev n_weights : List Str := ["table", "found", "bud"]
theorem sc_weights : FnScope n_weights ["table"] (defScope s_weights) := ⟨rfl, rfl, rfl, by decide +kernel, rfl, by decide +kernel, by decide +kernel⟩
theorem d_weights {f : Addr} {fd : FuncData} (F : Fun K "weights" "weights" s_weights f fd) (c_check_table : CalX P w K mg base 6 "check_table" ["table"] (spBad CT R0)) : FnOk P w K mg base (L2.CX P w) 7 f fd ["table"] (spBad CT R0) := by
  refine F.okX sc_weights (fun vs H Q E h => ?_) (fun cdv A outer s H vs Q E hr h => ?_)
  · obtain ⟨v, rfl, _⟩ := h
    rfl
  · obtain ⟨v, rfl, hv, qE⟩ := h
    exact ⟨_, (pss_cons (ps_expr (pe_calX c_check_table hr (by rfl) (passE rfl rfl rfl rfl) (pa_cons (pv 0) pa_nil))) pss_never), v, rfl, v, rfl, hv, qE⟩
abbrev s_turned : Stmt := topS 46
abbrev n_turned : List Str := ["table", "place"]
theorem sc_turned : FnScope n_turned ["table", "place"] (defScope s_turned) := ⟨rfl, rfl, rfl, by decide +kernel, rfl, by decide +kernel, by decide +kernel⟩
theorem d_turned {f : Addr} {fd : FuncData} (F : Fun K "turned" "turned" s_turned f fd) (c_check_table : CalX P w K mg base 6 "check_table" ["table"] (spBad CT R0)) : FnOk P w K mg base (L2.CX P w) 7 f fd ["table", "place"] (spBad2 CT R0) := by
  refine F.okX sc_turned (fun vs H Q E h => ?_) (fun cdv A outer s H vs Q E hr h => ?_)
  · obtain ⟨v, x1, rfl, _⟩ := h
    rfl
  · obtain ⟨v, x1, rfl, hv, qE⟩ := h
    exact ⟨_, (pss_cons (ps_expr (pe_calX c_check_table hr (by rfl) (passE rfl rfl rfl rfl) (pa_cons (pv 0) pa_nil))) pss_never), v, rfl, v, rfl, hv, qE⟩
abbrev s_reordered : Stmt := topS 47
abbrev n_reordered : List Str := ["table", "order", "places", "place", "bud"]
theorem sc_reordered : FnScope n_reordered ["table", "order"] (defScope s_reordered) := ⟨rfl, rfl, rfl, by decide +kernel, rfl, by decide +kernel, by decide +kernel⟩
theorem d_reordered {f : Addr} {fd : FuncData} (F : Fun K "reordered" "reordered" s_reordered f fd) (c_check_table : CalX P w K mg base 6 "check_table" ["table"] (spBad CT R0)) : FnOk P w K mg base (L2.CX P w) 7 f fd ["table", "order"] (spBad2 CT R0) := by
  refine F.okX sc_reordered (fun vs H Q E h => ?_) (fun cdv A outer s H vs Q E hr h => ?_)
  · obtain ⟨v, x1, rfl, _⟩ := h
    rfl
  · obtain ⟨v, x1, rfl, hv, qE⟩ := h
    exact ⟨_, (pss_cons (ps_expr (pe_calX c_check_table hr (by rfl) (passE rfl rfl rfl rfl) (pa_cons (pv 0) pa_nil))) pss_never), v, rfl, v, rfl, hv, qE⟩
abbrev s_principal : Stmt := topS 50
abbrev n_principal : List Str := ["table", "many"]
theorem sc_principal : FnScope n_principal ["table"] (defScope s_principal) := ⟨rfl, rfl, rfl, by decide +kernel, rfl, by decide +kernel, by decide +kernel⟩
theorem d_principal {f : Addr} {fd : FuncData} (F : Fun K "principal" "principal" s_principal f fd) (c_check_table : CalX P w K mg base 6 "check_table" ["table"] (spBad CT R0)) : FnOk P w K mg base (L2.CX P w) 7 f fd ["table"] (spBad CT R0) := by
  refine F.okX sc_principal (fun vs H Q E h => ?_) (fun cdv A outer s H vs Q E hr h => ?_)
  · obtain ⟨v, rfl, _⟩ := h
    rfl
  · obtain ⟨v, rfl, hv, qE⟩ := h
    exact ⟨_, (pss_cons (ps_expr (pe_calX c_check_table hr (by rfl) (passE rfl rfl rfl rfl) (pa_cons (pv 0) pa_nil))) pss_never), v, rfl, v, rfl, hv, qE⟩
abbrev s_opposite : Stmt := topS 51
abbrev n_opposite : List Str := ["table", "row", "tie"]
theorem sc_opposite : FnScope n_opposite ["table"] (defScope s_opposite) := ⟨rfl, rfl, rfl, by decide +kernel, rfl, by decide +kernel, by decide +kernel⟩
theorem d_opposite {f : Addr} {fd : FuncData} (F : Fun K "opposite" "opposite" s_opposite f fd) (c_check_table : CalX P w K mg base 6 "check_table" ["table"] (spBad CT R0)) : FnOk P w K mg base (L2.CX P w) 7 f fd ["table"] (spBad CT R0) := by
  refine F.okX sc_opposite (fun vs H Q E h => ?_) (fun cdv A outer s H vs Q E hr h => ?_)
  · obtain ⟨v, rfl, _⟩ := h
    rfl
  · obtain ⟨v, rfl, hv, qE⟩ := h
    exact ⟨_, (pss_cons (ps_expr (pe_calX c_check_table hr (by rfl) (passE rfl rfl rfl rfl) (pa_cons (pv 0) pa_nil))) pss_never), v, rfl, v, rfl, hv, qE⟩
abbrev s_table_text : Stmt := topS 52
abbrev n_table_text : List Str := ["table"]
theorem sc_table_text : FnScope n_table_text ["table"] (defScope s_table_text) := ⟨rfl, rfl, rfl, by decide +kernel, rfl, by decide +kernel, by decide +kernel⟩
theorem d_table_text {f : Addr} {fd : FuncData} (F : Fun K "table_text" "table_text" s_table_text f fd) (c_check_table : CalX P w K mg base 6 "check_table" ["table"] (spBad CT R0)) : FnOk P w K mg base (L2.CX P w) 7 f fd ["table"] (spBad CT R0) := by
  refine F.okX sc_table_text (fun vs H Q E h => ?_) (fun cdv A outer s H vs Q E hr h => ?_)
  · obtain ⟨v, rfl, _⟩ := h
    rfl
  · obtain ⟨v, rfl, hv, qE⟩ := h
    exact ⟨_, (pss_cons (ps_expr (pe_calX c_check_table hr (by rfl) (passE rfl rfl rfl rfl) (pa_cons (pv 0) pa_nil))) pss_never), v, rfl, v, rfl, hv, qE⟩
abbrev s_kind : Stmt := topS 64
abbrev n_kind : List Str := ["table", "rows", "parted", "walks", "waiting", "at", "now", "pair", "letters", "lot"]
theorem sc_kind : FnScope n_kind ["table"] (defScope s_kind) := ⟨rfl, rfl, rfl, by decide +kernel, rfl, by decide +kernel, by decide +kernel⟩
theorem d_kind {f : Addr} {fd : FuncData} (F : Fun K "kind" "kind" s_kind f fd) (c_check_table : CalX P w K mg base 6 "check_table" ["table"] (spBad CT R0)) : FnOk P w K mg base (L2.CX P w) 7 f fd ["table"] (spBad CT R0) := by
  refine F.okX sc_kind (fun vs H Q E h => ?_) (fun cdv A outer s H vs Q E hr h => ?_)
  · obtain ⟨v, rfl, _⟩ := h
    rfl
  · obtain ⟨v, rfl, hv, qE⟩ := h
    exact ⟨_, (pss_cons (ps_expr (pe_calX c_check_table hr (by rfl) (passE rfl rfl rfl rfl) (pa_cons (pv 0) pa_nil))) pss_never), v, rfl, v, rfl, hv, qE⟩
abbrev s_belt : Stmt := topS 131
abbrev n_belt : List Str := ["table", "most", "rows", "places", "begun", "seed", "number", "place"]
theorem sc_belt : FnScope n_belt ["table", "most"] (defScope s_belt) := ⟨rfl, rfl, rfl, by decide +kernel, rfl, by decide +kernel, by decide +kernel⟩
theorem d_belt {f : Addr} {fd : FuncData} {kws : List (Str × V)} (F : FunD K "belt" "belt" (defArgs s_belt) (defBody s_belt) (defScope s_belt) [] kws f fd) (c_check_table : CalX P w K mg base 6 "check_table" ["table"] (spBad CT R0)) : FnOk P w K mg base (L2.CX P w) 7 f fd ["table", "most"] (spBad2 CT R0) := by
  refine F.ok sc_belt (fun vs H Q E h => ?_) (fun cdv A outer s H vs Q E hr h => ?_)
  · obtain ⟨v, x1, rfl, _⟩ := h
    rfl
  · obtain ⟨v, x1, rfl, hv, qE⟩ := h
    exact ⟨_, (pss_cons (ps_expr (pe_calX c_check_table hr (by rfl) (passE rfl rfl rfl rfl) (pa_cons (pv 0) pa_nil))) pss_never), v, rfl, v, rfl, hv, qE⟩
abbrev s_walked : Stmt := topS 126
abbrev n_walked : List Str := ["table", "walk", "parts", "ties", "worths", "place"]
theorem sc_walked : FnScope n_walked ["table", "walk", "parts"] (defScope s_walked) := ⟨rfl, rfl, rfl, by decide +kernel, rfl, by decide +kernel, by decide +kernel⟩
theorem d_walked {f : Addr} {fd : FuncData} (F : Fun K "walked" "walked" s_walked f fd) (c_check_table : CalX P w K mg base 6 "check_table" ["table"] (spBad CT R0)) : FnOk P w K mg base (L2.CX P w) 7 f fd ["table", "walk", "parts"] (spBad3 CT R0) := by
  refine F.okX sc_walked (fun vs H Q E h => ?_) (fun cdv A outer s H vs Q E hr h => ?_)
  · obtain ⟨v, x1, x2, rfl, _⟩ := h
    rfl
  · obtain ⟨v, x1, x2, rfl, hv, qE⟩ := h
    exact ⟨_, (pss_cons (ps_expr (pe_calX c_check_table hr (by rfl) (passE rfl rfl rfl rfl) (pa_cons (pv 0) pa_nil))) pss_never), v, rfl, v, rfl, hv, qE⟩
abbrev s_frieze : Stmt := topS 129
abbrev n_frieze : List Str := ["table", "rounds", "many", "ties", "worths", "lines", "number", "place", "top", "under"]
theorem sc_frieze : FnScope n_frieze ["table", "rounds"] (defScope s_frieze) := ⟨rfl, rfl, rfl, by decide +kernel, rfl, by decide +kernel, by decide +kernel⟩
theorem d_frieze {f : Addr} {fd : FuncData} (F : Fun K "frieze" "frieze" s_frieze f fd) (c_check_table : CalX P w K mg base 6 "check_table" ["table"] (spBad CT R0)) : FnOk P w K mg base (L2.CX P w) 7 f fd ["table", "rounds"] (spBad2 CT R0) := by
  refine F.okX sc_frieze (fun vs H Q E h => ?_) (fun cdv A outer s H vs Q E hr h => ?_)
  · obtain ⟨v, x1, rfl, _⟩ := h
    rfl
  · obtain ⟨v, x1, rfl, hv, qE⟩ := h
    exact ⟨_, (pss_cons (ps_expr (pe_calX c_check_table hr (by rfl) (passE rfl rfl rfl rfl) (pa_cons (pv 0) pa_nil))) pss_never), v, rfl, v, rfl, hv, qE⟩
abbrev s_parted : Stmt := topS 122
abbrev n_parted : List Str := ["table", "lean", "inner", "roots", "ahead", "whole", "off", "powers", "count"]
theorem sc_parted : FnScope n_parted ["table", "lean", "inner"] (defScope s_parted) := ⟨rfl, rfl, rfl, by decide +kernel, rfl, by decide +kernel, by decide +kernel⟩
theorem d_parted {f : Addr} {fd : FuncData} (F : Fun K "parted" "parted" s_parted f fd) (c_check_table : CalX P w K mg base 6 "check_table" ["table"] (spBad CT R0)) : FnOk P w K mg base (L2.CX P w) 7 f fd ["table", "lean", "inner"] (spBad3 CT R0) := by
  refine F.okX sc_parted (fun vs H Q E h => ?_) (fun cdv A outer s H vs Q E hr h => ?_)
  · obtain ⟨v, x1, x2, rfl, _⟩ := h
    rfl
  · obtain ⟨v, x1, x2, rfl, hv, qE⟩ := h
    exact ⟨_, (pss_cons (ps_expr (pe_calX c_check_table hr (by rfl) (passE rfl rfl rfl rfl) (pa_cons (pv 0) pa_nil))) pss_never), v, rfl, v, rfl, hv, qE⟩
abbrev s_leaned : Stmt := topS 128
abbrev n_leaned : List Str := ["table", "walk", "numbers", "greatest", "ties", "left", "place", "column", "one", "other", "row", "tie"]
theorem sc_leaned : FnScope n_leaned ["table", "walk", "numbers", "greatest"] (defScope s_leaned) := ⟨rfl, rfl, rfl, by decide +kernel, rfl, by decide +kernel, by decide +kernel⟩
theorem d_leaned {f : Addr} {fd : FuncData} {kws : List (Str × V)} (F : FunD K "leaned" "leaned" (defArgs s_leaned) (defBody s_leaned) (defScope s_leaned) [] kws f fd) (c_check_table : CalX P w K mg base 6 "check_table" ["table"] (spBad CT R0)) : FnOk P w K mg base (L2.CX P w) 7 f fd ["table", "walk", "numbers", "greatest"] (spBad4 CT R0) := by
  refine F.ok sc_leaned (fun vs H Q E h => ?_) (fun cdv A outer s H vs Q E hr h => ?_)
  · obtain ⟨v, x1, x2, x3, rfl, _⟩ := h
    rfl
  · obtain ⟨v, x1, x2, x3, rfl, hv, qE⟩ := h
    exact ⟨_, (pss_cons (ps_expr (pe_calX c_check_table hr (by rfl) (passE rfl rfl rfl rfl) (pa_cons (pv 0) pa_nil))) pss_never), v, rfl, v, rfl, hv, qE⟩
abbrev s_ring_length : Stmt := topS 132
abbrev n_ring_length : List Str := ["table", "one", "other"]
theorem sc_ring_length : FnScope n_ring_length ["table", "one", "other"] (defScope s_ring_length) := ⟨rfl, rfl, rfl, by decide +kernel, rfl, by decide +kernel, by decide +kernel⟩
theorem d_ring_length {f : Addr} {fd : FuncData} (F : Fun K "ring_length" "ring_length" s_ring_length f fd) (c_check_table : CalX P w K mg base 6 "check_table" ["table"] (spBad CT R0)) : FnOk P w K mg base (L2.CX P w) 7 f fd ["table", "one", "other"] (spBad3 CT R0) := by
  refine F.okX sc_ring_length (fun vs H Q E h => ?_) (fun cdv A outer s H vs Q E hr h => ?_)
  · obtain ⟨v, x1, x2, rfl, _⟩ := h
    rfl
  · obtain ⟨v, x1, x2, rfl, hv, qE⟩ := h
    exact ⟨_, (pss_cons (ps_expr (pe_calX c_check_table hr (by rfl) (passE rfl rfl rfl rfl) (pa_cons (pv 0) pa_nil))) pss_never), v, rfl, v, rfl, hv, qE⟩
abbrev s_endless_holds : Stmt := topS 67
abbrev n_endless_holds : List Str := ["table", "walk", "one", "other", "rows"]
theorem sc_endless_holds : FnScope n_endless_holds ["table", "walk", "one", "other"] (defScope s_endless_holds) := ⟨rfl, rfl, rfl, by decide +kernel, rfl, by decide +kernel, by decide +kernel⟩
theorem d_endless_holds {f : Addr} {fd : FuncData} (F : Fun K "endless_holds" "endless_holds" s_endless_holds f fd) (c_check_table : CalX P w K mg base 6 "check_table" ["table"] (spBad CT R0)) : FnOk P w K mg base (L2.CX P w) 7 f fd ["table", "walk", "one", "other"] (spBad4 CT R0) := by
  refine F.okX sc_endless_holds (fun vs H Q E h => ?_) (fun cdv A outer s H vs Q E hr h => ?_)
  · obtain ⟨v, x1, x2, x3, rfl, _⟩ := h
    rfl
  · obtain ⟨v, x1, x2, x3, rfl, hv, qE⟩ := h
    exact ⟨_, (pss_cons (ps_expr (pe_calX c_check_table hr (by rfl) (passE rfl rfl rfl rfl) (pa_cons (pv 0) pa_nil))) pss_never), v, rfl, v, rfl, hv, qE⟩
abbrev s_beside : Stmt := topS 48
abbrev n_beside : List Str := ["one", "other", "left", "right", "ones", "others", "row"]
theorem sc_beside : FnScope n_beside ["one", "other"] (defScope s_beside) := ⟨rfl, rfl, rfl, by decide +kernel, rfl, by decide +kernel, by decide +kernel⟩
theorem d_beside {f : Addr} {fd : FuncData} (F : Fun K "beside" "beside" s_beside f fd) (c_check_table : CalX P w K mg base 6 "check_table" ["table"] (spBad CT R0)) : FnOk P w K mg base (L2.CX P w) 7 f fd ["one", "other"] (spBad2 CT R0) := by
  refine F.okX sc_beside (fun vs H Q E h => ?_) (fun cdv A outer s H vs Q E hr h => ?_)
  · obtain ⟨v, x1, rfl, _⟩ := h
    rfl
  · obtain ⟨v, x1, rfl, hv, qE⟩ := h
    exact ⟨_, (pss_cons (ps_expr (pe_calX c_check_table hr (by rfl) (passE rfl rfl rfl rfl) (pa_cons (pv 0) pa_nil))) pss_never), v, rfl, v, rfl, hv, qE⟩
abbrev s_inner : Stmt := topS 120
abbrev n_inner : List Str := ["table", "walk", "ties", "sums", "place", "after", "many", "bud"]
theorem sc_inner : FnScope n_inner ["table", "walk"] (defScope s_inner) := ⟨rfl, rfl, rfl, by decide +kernel, rfl, by decide +kernel, by decide +kernel⟩
theorem d_inner {f : Addr} {fd : FuncData} (F : Fun K "inner" "inner" s_inner f fd) (c_principal : CalX P w K mg base 7 "principal" ["table"] (spBad CT R0)) : FnOk P w K mg base (L2.CX P w) 8 f fd ["table", "walk"] (spBad2 CT R0) := by
  refine F.okX sc_inner (fun vs H Q E h => ?_) (fun cdv A outer s H vs Q E hr h => ?_)
  · obtain ⟨v, x1, rfl, _⟩ := h
    rfl
  · obtain ⟨v, x1, rfl, hv, qE⟩ := h
    exact ⟨_, (pss_cons (ps_set (i := 2) sc_inner.nd rfl (.inl rfl) (pe_calX c_principal hr (by rfl) (passE rfl rfl rfl rfl) (pa_cons (pv 0) pa_nil))) pss_never), v, rfl, v, rfl, hv, qE⟩
abbrev s_map_holds : Stmt := topS 84
abbrev n_map_holds : List Str := ["table", "rows", "told", "spots", "number", "leans", "hues", "ties", "ends", "row", "end", "led"]
theorem sc_map_holds : FnScope n_map_holds ["table", "rows"] (defScope s_map_holds) := ⟨rfl, rfl, rfl, by decide +kernel, rfl, by decide +kernel, by decide +kernel⟩
theorem d_map_holds {f : Addr} {fd : FuncData} (F : Fun K "map_holds" "map_holds" s_map_holds f fd) (c_kind : CalX P w K mg base 7 "kind" ["table"] (spBad CT R0)) : FnOk P w K mg base (L2.CX P w) 8 f fd ["table", "rows"] (spBad2 CT R0) := by
  refine F.okX sc_map_holds (fun vs H Q E h => ?_) (fun cdv A outer s H vs Q E hr h => ?_)
  · obtain ⟨v, x1, rfl, _⟩ := h
    rfl
  · obtain ⟨v, x1, rfl, hv, qE⟩ := h
    exact ⟨_, (pss_cons (ps_set (i := 2) sc_map_holds.nd rfl (.inl rfl) (pe_calX c_kind hr (by rfl) (passE rfl rfl rfl rfl) (pa_cons (pv 0) pa_nil))) pss_never), v, rfl, v, rfl, hv, qE⟩
abbrev s_web_init : Stmt := inClass (topS 115) 0
abbrev n_web_init : List Str := ["self", "table"]
theorem sc_web_init : FnScope n_web_init ["self", "table"] (defScope s_web_init) := ⟨rfl, rfl, rfl, by decide +kernel, rfl, by decide +kernel, by decide +kernel⟩
theorem d_web_init {f : Addr} {fd : FuncData} (F : Fun K "__init__" "Web.__init__" s_web_init f fd) (c_check_table : CalX P w K mg base 6 "check_table" ["table"] (spBad CT R0)) : FnOk P w K mg base (L2.CX P w) 7 f fd ["self", "table"] (spBadI CT R0) := by
  refine F.okX sc_web_init (fun vs H Q E h => ?_) (fun cdv A outer s H vs Q E hr h => ?_)
  · obtain ⟨x, v, rfl, _⟩ := h
    rfl
  · obtain ⟨x, v, rfl, hv, qE⟩ := h
    exact ⟨_, (pss_cons (ps_expr (pe_calX c_check_table hr (by rfl) (passE rfl rfl rfl rfl) (pa_cons (pv 1) pa_nil))) pss_never), v, rfl, v, rfl, hv, qE⟩
abbrev s_webmap_init : Stmt := inClass (topS 83) 0
abbrev n_webmap_init : List Str := ["self", "table", "told"]
theorem sc_webmap_init : FnScope n_webmap_init ["self", "table"] (defScope s_webmap_init) := ⟨rfl, rfl, rfl, by decide +kernel, rfl, by decide +kernel, by decide +kernel⟩
theorem d_webmap_init {f : Addr} {fd : FuncData} (F : Fun K "__init__" "WebMap.__init__" s_webmap_init f fd) (c_kind : CalX P w K mg base 7 "kind" ["table"] (spBad CT R0)) : FnOk P w K mg base (L2.CX P w) 8 f fd ["self", "table"] (spBadI CT R0) := by
  refine F.okX sc_webmap_init (fun vs H Q E h => ?_) (fun cdv A outer s H vs Q E hr h => ?_)
  · obtain ⟨x, v, rfl, _⟩ := h
    rfl
  · obtain ⟨x, v, rfl, hv, qE⟩ := h
    exact ⟨_, (pss_cons (ps_set (i := 2) sc_webmap_init.nd rfl (.inl rfl) (pe_calX c_kind hr (by rfl) (passE rfl rfl rfl rfl) (pa_cons (pv 1) pa_nil))) pss_never), v, rfl, v, rfl, hv, qE⟩
/-- the second table is judged too -/
def spBes (CT : Addr) (R0 : List (List Int)) : Sp := fun vs H Q E => ∃ (a : Addr) (rows : List (List Int)) (n : Nat) (v : V), vs = [.ref a, v] ∧ TabAt H a rows ∧ TabOk rows n ∧ BdT R0 H v ∧ BadE CT R0 H E
theorem d_beside2 {f : Addr} {fd : FuncData} (F : Fun K "beside" "beside" s_beside f fd) (g_check_table : Cal P w K mg base CX0 5 "check_table" ["table"] spGood) (c_check_table : CalX P w K mg base 6 "check_table" ["table"] (spBad CT R0)) : FnOk P w K mg base (L2.CX P w) 7 f fd ["one", "other"] (spBes CT R0) := by
  refine F.okX sc_beside (fun vs H Q E h => ?_) (fun cdv A outer s H vs Q E hr h => ?_)
  · obtain ⟨a, rows, n, v, rfl, _⟩ := h
    rfl
  · obtain ⟨a, rows, n, v, rfl, hT, O, hv, qE⟩ := h
    exact ⟨_, (pss_cons (ps_expr (pe_cal g_check_table (hr.mono (by decide)) (by rfl) (pa_cons (pv 0) pa_nil))) (pss_cons (ps_expr (pe_calX c_check_table hr (by rfl) (passE rfl rfl rfl rfl) (pa_cons (pv 1) pa_nil))) pss_never)), .ref a, rfl, a, rows, n, rfl, hT, O, fun H1 s1 => ⟨v, rfl, v, rfl, hv.same s1, qE.same s1⟩⟩
end
end Bw
set_option Elab.async false
set_option linter.all false
set_option maxRecDepth 100000
set_option maxHeartbeats 4000000
namespace Bw
open PySem PySem.Spec PyProof.Rows L2 LamX
/-! ### _law_word(lambda: ..), refusals of all kinds, the tables of several defs -/
theorem pe_wordW {X : Cx} {T : List (Addr × Str)} {st : Stmt} {g CB c P : Addr} {cs : List Value} {fd : FuncData} {k : Nat} {params : Arguments} {body : Expr} {scope : Scope} {t : XK → TE} {p lpos pos : Pos}
    (F : Fun X.K "_law_word" "_law_word" st g fd) (gg : X.mg "_law_word" = some (.ref g)) (bb : L2.Binds X.K fd ["_law_asked"] []) (Sg : FnScope ["_law_asked", "e"] ["_law_asked"] (defScope st)) (hva : Vis (defScope st) "_law_asked") (hG : ∀ cdv, GivesTo X ["_law_asked", "e"] "_law_word" (defScope st) g cdv (defBody st) "_law_asked" (X.env.qual ++ "<lambda>") (TWordW X.K CB cs))
    (TB : TabB X.base X.mg c P) (hcode : X.env.code = .ref c) (hmT : (P, X.env.qual ++ "<lambda>") ∈ T) (hu : ∀ p ∈ T, p.1 = P → p.2 = X.env.qual ++ "<lambda>") (hr : Room (k + 2) X.A) (hg : Gl X "_law_word") (L : LamS X.env.scope scope)
    (hbody : ∀ (A : Around) (outer : List Env) (s : Shared) (H : Hp) (E : XK) (f c' : Addr), Room k (A.deeper (lamEnv X scope s.heap.objs.size f c')) → PE (lamCx X A outer s H E scope f c') body (t E)) (hdef : defaultsOf params X.env = ([], []))
    (hbind : ∀ (q : Str) (cl : List (Str × Addr)) (pm cv ctv : Value), bindArgs (PySem.W.kla_fn "<lambda>" q params body scope cl pm cv ctv) ⟨[], []⟩ = pure []) :
    PE X (.Call (.Name "_law_word" p) [.Lambda params body scope lpos] [] pos) (tLam T (TWordW X.K CB cs) t) := by
  obtain ⟨oc, od, kV, doc, pm, an, cdv, ct, osl, rfl, lk, hcd⟩ := F.ex
  exact pe_lamcall hg gg F.kp lk hcd bb Sg rfl hva (hG cdv) TB hcode hmT hu hr L hdef hbind hbody
def qL (x : Str) : Str := (x ++ (".<locals>." : Str)) ++ ("<lambda>" : Str)
theorem FeedAt.neO {H : Hp} {f l b : Addr} {o : HO} (h : FeedAt H f l) (e : H b = some o) (n : ∀ xs, o ≠ .lst xs) : b ≠ f := by
  obtain ⟨_, _, _, _, _, _, b', _⟩ := h
  intro z
  subst z
  rw [e] at b'
  exact n _ (Option.some.inj b')
theorem FeedAt.ext {H H' : Hp} {f l : Addr} (s : ExtN H H') (h : FeedAt H f l) : FeedAt H' f l := by
  obtain ⟨ns, i, n, m, c, a, b, d, r⟩ := h
  exact ⟨ns, i, n, m, c, a, s _ _ b (fun ps z => by cases z), s _ _ d (fun ps z => by cases z), r⟩
/-- the tables stay where only what is no table and no code changes -/
theorem Tabs.butO {T : List (Addr × Str)} {H H' : Hp} {a : Addr} {o : HO} (s : SameBut a H H') (e : H a = some o) (n1 : ∀ ps, o ≠ .tbl ps) (n2 : ∀ c q, o ≠ CodeO c q) (t : Tabs T H) : Tabs T H' := fun p hp => by
  obtain ⟨ps, h1, h2, h3⟩ := t p hp
  refine ⟨ps, s _ _ (fun z => by rw [z, e] at h1; exact n1 _ (Option.some.inj h1)) h1, h2, fun pos cv hc => ?_⟩
  obtain ⟨c, e1, e2⟩ := h3 pos cv hc
  exact ⟨c, e1, s _ _ (fun z => by rw [z, e] at e2; exact n2 _ _ (Option.some.inj e2)) e2⟩
theorem Tabs.put {T : List (Addr × Str)} {H : Hp} {a : Addr} {xs : List V} {o : HO} (t : Tabs T H) (e : H a = some (.lst xs)) : Tabs T (upd H a o) := Tabs.butO (SameBut.upd (SameBut.refl _ _)) e (fun ps z => by cases z) (fun c q z => by cases z) t
theorem Tabs.but {T : List (Addr × Str)} {H H' : Hp} {f l : Addr} (s : SameBut f H H') (hf : FeedAt H f l) (h : Tabs T H) : Tabs T H' := by
  obtain ⟨_, _, _, _, _, _, b', _⟩ := hf
  exact Tabs.butO s b' (fun ps z => by cases z) (fun c q z => by cases z) h
end Bw
set_option Elab.async false
set_option linter.all false
set_option maxRecDepth 100000
set_option maxHeartbeats 4000000
namespace Bw
open PySem PySem.Spec PyProof.Rows L2
/-! ### rows of numbers and products as data -/
theorem ints_lay : ∀ p : List Int, PyData.canLayAll0 (p.map PyData.int) = true
  | [] => by simp [PyData.canLayAll0]
  | a :: p => by
    have ih := ints_lay p
    simp only [List.map_cons, PyData.canLayAll0, PyData.canLay0, ih, Bool.and_self]
theorem ints_depth : ∀ p : List Int, PyData.depthAll (p.map PyData.int) ≤ 1
  | [] => by simp [PyData.depthAll]
  | a :: p => by
    have ih := ints_depth p
    simp only [List.map_cons, PyData.depthAll, PyData.depth]
    omega
theorem ints_eqv : ∀ p q : List Int, PyData.eqvAll (p.map PyData.int) (q.map PyData.int) = decide (p = q)
  | [], [] => by simp [PyData.eqvAll]
  | [], b :: q => by simp [PyData.eqvAll]
  | a :: p, [] => by simp [PyData.eqvAll]
  | a :: p, b :: q => by
    have ih := ints_eqv p q
    simp only [List.map_cons, PyData.eqvAll, PyData.eqv, ih]
    by_cases e : a = b
    · subst e
      by_cases z : p = q
      · subst z
        simp
      · simp [z]
    · simp [e]
def rowD (p : List Int) : PyData := .tuple (p.map .int)
theorem rowD_lay (p : List Int) : (rowD p).canLay0 = true := by
  simp only [rowD, PyData.canLay0]
  exact ints_lay p
theorem rowD_depth (p : List Int) : (rowD p).depth ≤ 2 := by
  have := ints_depth p
  simp only [rowD, PyData.depth]
  omega
theorem rowD_eqv (p q : List Int) : PyData.eqv (rowD p) (rowD q) = decide (p = q) := by
  simp only [rowD, PyData.eqv]
  exact ints_eqv p q
theorem all_lay {α : Type} {d : α → PyData} (h : ∀ a, (d a).canLay0 = true) : ∀ r : List α, PyData.canLayAll0 (r.map d) = true
  | [] => by simp [PyData.canLayAll0]
  | a :: r => by
    have ih := all_lay h r
    simp only [List.map_cons, PyData.canLayAll0, h a, ih, Bool.and_self]
theorem all_depth {α : Type} {d : α → PyData} {n : Nat} (h : ∀ a, (d a).depth ≤ n) : ∀ r : List α, PyData.depthAll (r.map d) ≤ n
  | [] => by simp [PyData.depthAll]
  | a :: r => by
    have ih := all_depth h r
    have := h a
    simp only [List.map_cons, PyData.depthAll]
    omega
theorem all_eqv {α : Type} [DecidableEq α] {d : α → PyData} (h : ∀ a b, PyData.eqv (d a) (d b) = decide (a = b)) : ∀ r r' : List α, PyData.eqvAll (r.map d) (r'.map d) = decide (r = r')
  | [], [] => by simp [PyData.eqvAll]
  | [], b :: q => by simp [PyData.eqvAll]
  | a :: p, [] => by simp [PyData.eqvAll]
  | a :: p, b :: q => by
    have ih := all_eqv h p q
    simp only [List.map_cons, PyData.eqvAll, h a b, ih]
    by_cases e : a = b
    · subst e
      by_cases z : p = q
      · subst z
        simp
      · simp [z]
    · simp [e]
def tmD (a : Tm) : PyData := .tuple [rowD a.1, .int a.2]
theorem tmD_lay (a : Tm) : (tmD a).canLay0 = true := by
  have := rowD_lay a.1
  simp only [tmD, PyData.canLay0, PyData.canLayAll0, this, Bool.and_self]
theorem tmD_depth (a : Tm) : (tmD a).depth ≤ 3 := by
  have := rowD_depth a.1
  simp only [tmD, PyData.depth, PyData.depthAll]
  omega
theorem tmD_eqv (a b : Tm) : PyData.eqv (tmD a) (tmD b) = decide (a = b) := by
  obtain ⟨p, c⟩ := a
  obtain ⟨q, d⟩ := b
  have := rowD_eqv p q
  simp only [tmD, PyData.eqv, PyData.eqvAll, this]
  by_cases e : p = q
  · subst e
    by_cases z : c = d
    · subst z
      simp
    · simp [z]
  · simp [e]
theorem shaped_tup {ds : List PyData} (h1 : PyData.canLayAll0 ds = true) (h2 : PyData.depthAll ds ≤ 50) : SeqAt.shaped (.tuple ds) = true := by
  have h3 : PyData.depth (.tuple ds) ≤ 64 := by
    simp only [PyData.depth]
    omega
  show (PyData.canLay0 (.tuple ds) && decide (PyData.depth (.tuple ds) ≤ 64)) = true
  rw [Bool.and_eq_true]
  exact ⟨by simp only [PyData.canLay0]; exact h1, decide_eq_true h3⟩
theorem shaped_lst {ds : List PyData} (h1 : PyData.canLayAll0 ds = true) (h2 : PyData.depthAll ds ≤ 50) : SeqAt.shaped (.list ds) = true := by
  have h3 : PyData.depth (.list ds) ≤ 64 := by
    simp only [PyData.depth]
    omega
  show (PyData.canLay0 (.list ds) && decide (PyData.depth (.list ds) ≤ 64)) = true
  rw [Bool.and_eq_true]
  exact ⟨by simp only [PyData.canLay0]; exact h1, decide_eq_true h3⟩
theorem dp_ints {K : PySem.W.Frag} {H : Hp} : ∀ p : List Int, DpAll K H (p.map V.int) (p.map PyData.int)
  | [] => .nil
  | a :: p => .cons (.int a) (dp_ints p)
theorem o_eqD {X : Cx} {K : PySem.W.Frag} (hu : X.A.units + 64 < cLine) (hK : X.K = K := by rfl) : OpR X (compareOp .Eq) (rEqD K) := by
  subst hK
  exact op_eqD hu
theorem o_neD {X : Cx} {K : PySem.W.Frag} (hu : X.A.units + 64 < cLine) (hK : X.K = K := by rfl) : OpR X (compareOp .NotEq) (rNeD K) := by
  subst hK
  exact op_neD hu
end Bw
set_option Elab.async false
set_option linter.all false
set_option maxRecDepth 100000
set_option maxHeartbeats 4000000
namespace Bw
open PySem PySem.Spec PyProof.Rows L2 LamX
section
variable {P : Program} {w : World} {K : PySem.W.Frag} {mg : Str → Option Value} {base : Heap} {C : Addr}
abbrev s_bud_init : Stmt := inClass (topS 2) 0
theorem sc_bud_init : FnScope ["self", "word"] ["self", "word"] (defScope s_bud_init) := ⟨rfl, rfl, rfl, by decide +kernel, rfl, by decide +kernel, by decide +kernel⟩
def vV (K : PySem.W.Frag) : Prop := PySem.W.findCls K (.type "ValueError") (.type "type") "__init__" = some (.val (.builtin "ValueError.__init__"))
def spBudInit (K : PySem.W.Frag) : Sp := fun vs H Q _ => ∃ (a C : Addr) (x : V), vs = [.ref a, x] ∧ OexC K C ∧ PySem.W.findIn K (.ref C) "word" = some none ∧ H a = some (exo a C none) ∧ ∀ dx, H dx = none → dx ≠ a → Q .non (upd (upd H dx (exd dx [("word", x)])) a (exo a C (some dx)))
theorem ok_budinit {f : Addr} {fd : FuncData} {k : Nat} (F : Fun K "__init__" "BudError.__init__" s_bud_init f fd) (T : Tx mg) (v : vV K) : FnOk P w K mg base CX0 (k + 1) f fd ["self", "word"] (spBudInit K) := by
  refine F.ok sc_bud_init (fun vs H Q E h => ?_) (fun cdv A outer s H vs Q E hr h => ?_)
  · obtain ⟨a, C, x, rfl, _⟩ := h
    rfl
  · obtain ⟨a, C, x, rfl, O, nw, ha, q⟩ := h
    refine ⟨_, pss_cons (ps_expr (pe_veinit (by rfl) T.ValueError v (pa_cons (pv 0) (pa_cons (pv 1) pa_nil)))) (pss_one (ps_ost (pv 0) (pv 1))), ?_⟩
    refine ⟨.ref a, rfl, x, rfl, a, C, [x], rfl, by show 1 ≤ 1000; decide, O, ha, ?_⟩
    exact ⟨x, rfl, .ref a, rfl, a, C, rfl, O, nw, .inl ⟨ha, q⟩⟩
abbrev s_uneven_init : Stmt := inClass (topS 5) 0
theorem sc_uneven_init : FnScope ["self", "ring"] ["self", "ring"] (defScope s_uneven_init) := ⟨rfl, rfl, rfl, by decide +kernel, rfl, by decide +kernel, by decide +kernel⟩
theorem ok_unevinit {f fB CB : Addr} {fd fdB : FuncData} {k : Nat} (F : Fun K "__init__" "Uneven.__init__" s_uneven_init f fd) (T : Tx mg) (TB : ClsFn K mg "BudError" "__init__" CB fB) (FB : FnOk P w K mg base CX0 k fB fdB ["self", "word"] (spBudInit K)) (bB : Binds K fdB ["self", "word"] []) : FnOk P w K mg base CX0 (k + 1) f fd ["self", "ring"] (spErrInit1 K "uneven" "ring") := by
  refine F.ok sc_uneven_init (fun vs H Q E h => ?_) (fun cdv A outer s H vs Q E hr h => ?_)
  · obtain ⟨a, C, x, rfl, _⟩ := h
    rfl
  · obtain ⟨a, C, x, rfl, O, nw, nm, ha, q⟩ := h
    refine ⟨_, pss_cons (ps_expr (pe_cfun TB FB hr (by rfl) bB pass0 (pa_cons (pv 0) (pa_cons pe_str pa_nil)))) (pss_one (ps_ost (pv 0) (pv 1))), ?_⟩
    refine ⟨.ref a, rfl, a, C, _, rfl, O, nw, ha, fun dx ed nd => ?_⟩
    refine ⟨x, rfl, .ref a, rfl, a, C, rfl, O, nm, .inr ⟨dx, [("word", .str "uneven")], upd_same, ?_, by show 1 ≤ 900; decide, ?_⟩⟩
    · rw [upd_ne nd, upd_same]
    · refine q dx _ ed nd ?_ upd_same fun b n1 n2 => ?_
      · rw [upd_ne (Ne.symm nd), upd_same]
      · rw [upd_ne n2, upd_ne n1, upd_ne n2]
theorem made_same {H : Hp} {C x dx : Addr} (x0 : H x = none) (dx0 : H dx = none) (n : dx ≠ x) : Same H (upd (upd H dx (.own x)) x (.ins C dx [])) := (same_upd dx0).trans (same_upd (by rw [upd_ne (Ne.symm n)]; exact x0))
theorem lt_one {H : Hp} {t q : Addr} {p : List Int} {c : Int} (h1 : H t = some (.tup [.ref q, .int c])) (h2 : H q = some (.tup (p.map V.int))) : TermsAt H [t] [(p, c)] := by
  refine ⟨rfl, fun i a e => ?_⟩
  match i, e with
  | 0, e =>
    cases (Option.some.inj e)
    exact ⟨t, rfl, q, h1, h2⟩
  | i + 1, e => simp at e
theorem zeros_flat (n : Nat) : (List.replicate n [V.int 0]).flatten = (List.replicate n (0 : Int)).map V.int := by
  induction n with
  | zero => rfl
  | succ n ih =>
    rw [List.replicate_succ, List.replicate_succ, List.flatten_cons, ih, List.map_cons]
    rfl
theorem rep_zeros {K : PySem.W.Frag} {H : Hp} {l : Addr} {n : Nat} {Q : VK} (hl : H l = some (.tup [.int 0])) (n8 : n ≤ 8) (q : ∀ (p : Addr) (H' : Hp), Same H H' → H' p = some (.tup ((List.replicate n (0 : Int)).map V.int)) → Q (.ref p) H') : rRepZ K (.ref l) (.int n) H Q := by
  refine ⟨l, n, _, rfl, rfl, SqT.of hl, by simp, by omega, by omega, by decide, fun e p ep => ?_, fun e => ?_, fun e p ep => ?_⟩
  · have : n = 0 := by omega
    subst this
    exact q p _ (same_upd ep) upd_same
  · have : n = 1 := by omega
    subst this
    exact q l _ (.refl _) hl
  · refine q p _ (same_upd ep) ?_
    rw [upd_same, Int.toNat_natCast, zeros_flat]
abbrev s_constant : Stmt := topS 107
abbrev n_constant : List Str := ["width", "many"]
theorem sc_constant : FnScope n_constant ["width", "many"] (defScope s_constant) := ⟨rfl, rfl, rfl, by decide +kernel, rfl, by decide +kernel, by decide +kernel⟩
def spConst (C : Addr) : Sp := fun vs H Q _ => ∃ (n : Nat) (c : Int), vs = [.int n, .int c] ∧ n ≤ 8 ∧ ∀ (x : Addr) (r : List Tm) (H' : Hp), Same H H' → SumAt C H' x n r → Cn (Lf [(List.replicate n 0, c)]) r → Q (.ref x) H'
theorem ok_const {f : Addr} {fd : FuncData} (F : Fun K "constant" "constant" s_constant f fd) (T : Tx mg) (S : SumC K mg C) (M : MakS P w K mg base 2 C ["self", "width", "terms"] (spInit K C)) : FnOk P w K mg base CX0 4 f fd ["width", "many"] (spConst C) := by
  refine F.ok sc_constant (fun vs H Q E h => ?_) (fun cdv A outer s H vs Q E hr h => ?_)
  · obtain ⟨n, c, rfl, _⟩ := h
    rfl
  · obtain ⟨n, c, rfl, n8, q⟩ := h
    refine ⟨_, (pss_one (ps_ret (pe_mkS M hr (by rfl) (pa_cons (pv 0) (pa_cons (pe_lst (pa_cons (pe_tup (pa_cons (pe_op (o_repZ (K := K)) (pe_tup (pa_cons pe_int pa_nil)) (pv 0)) (pa_cons (pv 1) pa_nil))) pa_nil)) pa_nil))))), ?_⟩
    refine ⟨.int n, rfl, by show 1 ≤ sizeLine; decide, fun l el => ⟨.int n, rfl, rep_zeros upd_same n8 fun p H1 s1 e1 => ?_⟩⟩
    have s1 := (same_upd (o := .tup [.int 0]) el).trans s1
    refine ⟨.int c, rfl, by show 2 ≤ sizeLine; decide, fun t et => ?_⟩
    have st := same_upd (o := .tup [.ref p, .int c]) et
    refine ⟨by show 1 ≤ sizeLine; decide, fun L eL => ?_⟩
    have sL := same_upd (o := .lst [.ref t]) eL
    intro x dx x0 dx0 nxd
    have s2 := made_same (C := C) x0 dx0 nxd
    refine ⟨x, dx, L, [t], [(List.replicate n 0, c)], n, c.natAbs, true, rfl, upd_same, SqS.of (s2 _ _ upd_same), ((lt_one upd_same (st _ _ e1)).same sL).same s2, by show 1 ≤ 400; decide, fun a ha => ?_, fun r H2 sb hS cn z hl => ⟨rfl, ?_⟩⟩
    · rw [List.mem_singleton.mp ha]
      exact ⟨List.length_replicate, Nat.le_refl _⟩
    · exact q x r H2 (((s1.trans st).trans sL).trans (sb.same x0 s2)) hS cn
end
abbrev s_law_word : Stmt := topS 137
theorem sc_law_word : FnScope ["_law_asked", "e"] ["_law_asked"] (defScope s_law_word) := ⟨rfl, rfl, rfl, by decide +kernel, rfl, by decide +kernel, by decide +kernel⟩
structure WordW (K : PySem.W.Frag) (mg : Str → Option Value) (base : Heap) (T : List (Addr × Str)) (g CB c1 c2 c3 c4 c P : Addr) (q : Str) (fd : FuncData) : Prop where
  F : Fun K "_law_word" "_law_word" s_law_word g fd
  gg : mg "_law_word" = some (.ref g)
  bb : L2.Binds K fd ["_law_asked"] []
  gB : mg "BudError" = some (.ref CB)
  m1 : mg "NoPart" = some (.ref c1)
  m2 : mg "NoPlace" = some (.ref c2)
  m3 : mg "Lacking" = some (.ref c3)
  m4 : mg "NothingLeft" = some (.ref c4)
  TB : TabB base mg c P
  mem : (P, q) ∈ T
  un : ∀ p ∈ T, p.1 = P → p.2 = q
theorem pe_wd {X : Cx} {T : List (Addr × Str)} {g CB c1 c2 c3 c4 c P : Addr} {q : Str} {fd : FuncData} {k : Nat} {params : Arguments} {body : Expr} {scope : Scope} {t : XK → TE} {p lpos pos : Pos} (W : WordW X.K X.mg X.base T g CB c1 c2 c3 c4 c P q fd) (hcode : X.env.code = .ref c) (hr : Room (k + 2) X.A) (hg : Gl X "_law_word") (L : LamS X.env.scope scope)
    (hbody : ∀ (A : Around) (outer : List Env) (s : Shared) (H : Hp) (E : XK) (f c' : Addr), Room k (A.deeper (lamEnv X scope s.heap.objs.size f c')) → PE (lamCx X A outer s H E scope f c') body (t E)) (hq : X.env.qual ++ "<lambda>" = q := by rfl) (hdef : defaultsOf params X.env = ([], []) := by rfl)
    (hbind : ∀ (q : Str) (cl : List (Str × Addr)) (pm cv ctv : Value), bindArgs (PySem.W.kla_fn "<lambda>" q params body scope cl pm cv ctv) ⟨[], []⟩ = pure [] := by intros; rfl) :
    PE X (.Call (.Name "_law_word" p) [.Lambda params body scope lpos] [] pos) (tLam T (TWordW X.K CB [.ref c1, .ref c2, .ref c3, .ref c4]) t) := by
  have hm := W.mem
  have hun := W.un
  rw [← hq] at hm hun
  exact pe_wordW W.F W.gg W.bb sc_law_word (.inl rfl) (fun cdv => word_givesW rfl W.gB rfl W.m1 rfl W.m2 rfl W.m3 rfl W.m4 (by decide) rfl rfl (fun f => rfl)) W.TB hcode hm hun hr hg L hbody hdef hbind
end Bw
set_option Elab.async false
set_option linter.all false
set_option maxRecDepth 100000
set_option maxHeartbeats 4000000
namespace Bw
open PySem PySem.Spec PyProof.Rows L2 LamX
theorem _root_.LamX.ExtN.same {H0 H H' : Hp} (s : ExtN H0 H) (k : Same H H') : ExtN H0 H' := fun c u e n => k _ _ (s _ _ e n)
/-- nothing stands there that must stay -/
def NewIn (H : Hp) (L : Addr) : Prop := ∀ u, H L = some u → ∃ ps, u = .tbl ps
theorem _root_.LamX.ExtN.updN {H0 H : Hp} {L : Addr} {o : HO} (s : ExtN H0 H) (h : NewIn H0 L) : ExtN H0 (upd H L o) := fun c u e n => by
  rw [upd_ne (fun z => by
    obtain ⟨ps, k⟩ := h u (z ▸ e)
    exact n ps k)]
  exact s _ _ e n
theorem TabAt.ext {H H' : Hp} {a : Addr} {rows : List (List Int)} (s : ExtN H H') (h : TabAt H a rows) : TabAt H' a rows := by
  obtain ⟨as, ha, hal, has⟩ := h
  refine ⟨as, s _ _ ha (fun ps z => by cases z), hal, fun i r e => ?_⟩
  obtain ⟨c, e1, e2⟩ := has i r e
  exact ⟨c, e1, s _ _ e2 (fun ps z => by cases z)⟩
theorem BdT.ext {R0 : List (List Int)} {H H' : Hp} {v : V} (s : ExtN H H') (h : BdT R0 H v) : BdT R0 H' v := by
  obtain ⟨a, n, e, h, f⟩ := h
  exact ⟨a, n, e, h.ext s, f⟩
/-- what was stays, but the tables of codes -/
structure Ow (H0 : Hp) (Ts : List (Addr × Str)) (H : Hp) : Prop where
  ext : ExtN H0 H
  tb : Tabs Ts H
theorem Ow.same {H0 H H' : Hp} {Ts : List (Addr × Str)} (h : Ow H0 Ts H) (s : Same H H') : Ow H0 Ts H' := ⟨h.ext.same s, h.tb.ext s⟩
theorem tabs_put {H : Hp} {Ts : List (Addr × Str)} {L : Addr} {o : HO} (t : Tabs Ts H) (h : ∀ ps, H L ≠ some (.tbl ps)) (hc : ∀ c q, H L ≠ some (CodeO c q)) : Tabs Ts (upd H L o) := fun p hp => by
  obtain ⟨ps, h1, h2, h3⟩ := t p hp
  refine ⟨ps, by rw [upd_ne (fun z => h _ (z ▸ h1))]; exact h1, h2, fun pos cv hc' => ?_⟩
  obtain ⟨c, e1, e2⟩ := h3 pos cv hc'
  exact ⟨c, e1, by rw [upd_ne (fun z => hc _ _ (z ▸ e2))]; exact e2⟩
theorem Ow.put {H0 H : Hp} {Ts : List (Addr × Str)} {L : Addr} {o : HO} (h : Ow H0 Ts H) (n : NewIn H0 L) (e : H L = none ∨ ∃ ws, H L = some (.lst ws)) : Ow H0 Ts (upd H L o) := ⟨h.ext.updN n, tabs_put h.tb (fun ps z => by
    rcases e with k | ⟨ws, k⟩ <;> rw [k] at z <;> cases z) (fun c q z => by
    rcases e with k | ⟨ws, k⟩ <;> rw [k] at z <;> cases z)⟩
theorem Ow.new {H0 H : Hp} {Ts : List (Addr × Str)} {L : Addr} (h : Ow H0 Ts H) (e : H L = none) : NewIn H0 L := fun u k => Classical.byContradiction fun n => by
  have := h.ext _ _ k (fun ps z => n ⟨ps, z⟩)
  rw [e] at this
  cases this
section
variable {P : Program} {w : World} {K : PySem.W.Frag} {mg : Str → Option Value} {base : Heap} {C CT fT CB c1 c2 c3 c4 : Addr} {R0 : List (List Int)}
abbrev s_law_other_doors : Stmt := topS 142
abbrev n_law_other_doors : List Str := ["_law_ties", "_law_words"]
theorem sc_law_other_doors : FnScope n_law_other_doors ["_law_ties"] (defScope s_law_other_doors) := ⟨rfl, rfl, rfl, by decide +kernel, rfl, by decide +kernel, by decide +kernel⟩
def spOther (CT : Addr) (R0 : List (List Int)) (Ts : List (Addr × Str)) : Sp := fun vs H Q _ => ∃ v : V, vs = [v] ∧ BdT R0 H v ∧ Tabs Ts H ∧ ∀ (L : Addr) (H' : Hp), ExtN H H' → Tabs Ts H' → NewIn H L → H' L = some (.lst [.str "uneven", .str "uneven", .str "uneven", .str "uneven", .str "uneven", .str "uneven"]) → Q (.ref L) H'
theorem ok_other {f gW cc Pt : Addr} {fdW : FuncData} {oc kV doc pm ct : Value} {od an : Option Addr} {osl : Array (Option Value)} {Ts : List (Addr × Str)} (lk : K.lookup f = some ⟨oc, od, .func (PySem.W.fnOf "_law_other_doors" "_law_other_doors" (defArgs s_law_other_doors) (defBody s_law_other_doors) (defScope s_law_other_doors) .none kV doc pm an (.ref cc) ct), osl⟩) (hcd : PySem.W.codeIn K (.ref cc) "_law_other_doors" = true) (T : Tx mg) (TT : ErrC K mg "Uneven" CT fT CB)
    (c_inner : CalX P w K mg base 8 "inner" ["table", "walk"] (spBad2 CT R0)) (c_parted : CalX P w K mg base 7 "parted" ["table", "lean", "inner"] (spBad3 CT R0)) (c_leaned : CalDX P w K mg base 7 "leaned" ["table", "walk", "numbers", "greatest"] (.bl false) (spBad4 CT R0)) (c_ring_length : CalX P w K mg base 7 "ring_length" ["table", "one", "other"] (spBad3 CT R0)) (c_endless_holds : CalX P w K mg base 7 "endless_holds" ["table", "walk", "one", "other"] (spBad4 CT R0)) (c_map_holds : CalX P w K mg base 8 "map_holds" ["table", "rows"] (spBad2 CT R0)) (c_constant : Cal P w K mg base CX0 4 "constant" ["width", "many"] (spConst C))
    (WB : WordW K mg base Ts gW CB c1 c2 c3 c4 cc Pt (qL "_law_other_doors") fdW) : FnOk P w K mg base CX0 11 f (PySem.W.fnOf "_law_other_doors" "_law_other_doors" (defArgs s_law_other_doors) (defBody s_law_other_doors) (defScope s_law_other_doors) .none kV doc pm an (.ref cc) ct) ["_law_ties"] (spOther CT R0 Ts) := by
  refine fn_of lk hcd sc_law_other_doors (fun vs H Q E h => ?_) (fun A outer s H vs Q E hr h => ?_)
  · obtain ⟨v, rfl, _⟩ := h
    rfl
  · obtain ⟨v, rfl, hv, tb, q⟩ := h
    suffices hh : ∃ t, PSs (cxOf CX0 P w K mg base n_law_other_doors "_law_other_doors" (defScope s_law_other_doors) f (.ref cc) A outer s H E).nox (defBody s_law_other_doors) t ∧ t { nx := fun _ H' => Q .non H', rt := Q } (L2.start n_law_other_doors [v]) H by
      obtain ⟨t, h1, h2⟩ := hh
      exact ⟨t, h1.nox, h2⟩
    refine ⟨_, (pss_cons (ps_set (i := 1) sc_law_other_doors.nd rfl (.inl rfl) (pe_lst (pa_cons (pe_wd (k := 8) WB rfl hr (by rfl) (lamS_by (sc := defScope s_law_other_doors) (by decide +kernel)) (fun A outer s H E f c' hr' => pe_calX c_inner hr' (by rfl) (passE rfl rfl rfl rfl) (pa_cons (pv 0) (pa_cons (pe_lst (pa_cons pe_int pa_nil)) pa_nil)))) pa_nil)))
  (pss_cons (ps_expr (pe_bm PySem.F.plainAttrs_list PySem.F.slot_list_append PySem.F.type_list_append mt_append (pv 1) (pa_cons (pe_wd (k := 8) WB rfl hr (by rfl) (lamS_by (sc := defScope s_law_other_doors) (by decide +kernel)) (fun A outer s H E f c' hr' => pe_calX c_parted (hr'.mono (by decide)) (by rfl) (passE rfl rfl rfl rfl) (pa_cons (pv 0) (pa_cons (pe_tup pa_nil) (pa_cons (pe_cal c_constant (hr'.mono (by decide)) (by rfl) (pa_cons pe_int (pa_cons pe_int pa_nil))) pa_nil))))) pa_nil)))
  (pss_cons (ps_expr (pe_bm PySem.F.plainAttrs_list PySem.F.slot_list_append PySem.F.type_list_append mt_append (pv 1) (pa_cons (pe_wd (k := 8) WB rfl hr (by rfl) (lamS_by (sc := defScope s_law_other_doors) (by decide +kernel)) (fun A outer s H E f c' hr' => pe_calDX c_leaned (hr'.mono (by decide)) (by rfl) (passE rfl rfl rfl rfl) (pa_cons (pv 0) (pa_cons (pe_lst (pa_cons pe_int pa_nil)) (pa_cons (pe_lst pa_nil) pa_nil))))) pa_nil)))
  (pss_cons (ps_expr (pe_bm PySem.F.plainAttrs_list PySem.F.slot_list_append PySem.F.type_list_append mt_append (pv 1) (pa_cons (pe_wd (k := 8) WB rfl hr (by rfl) (lamS_by (sc := defScope s_law_other_doors) (by decide +kernel)) (fun A outer s H E f c' hr' => pe_calX c_ring_length (hr'.mono (by decide)) (by rfl) (passE rfl rfl rfl rfl) (pa_cons (pv 0) (pa_cons pe_int (pa_cons pe_int pa_nil))))) pa_nil)))
  (pss_cons (ps_expr (pe_bm PySem.F.plainAttrs_list PySem.F.slot_list_append PySem.F.type_list_append mt_append (pv 1) (pa_cons (pe_wd (k := 8) WB rfl hr (by rfl) (lamS_by (sc := defScope s_law_other_doors) (by decide +kernel)) (fun A outer s H E f c' hr' => pe_calX c_endless_holds (hr'.mono (by decide)) (by rfl) (passE rfl rfl rfl rfl) (pa_cons (pv 0) (pa_cons (pe_tup (pa_cons pe_int pa_nil)) (pa_cons pe_int (pa_cons pe_int pa_nil)))))) pa_nil)))
  (pss_cons (ps_expr (pe_bm PySem.F.plainAttrs_list PySem.F.slot_list_append PySem.F.type_list_append mt_append (pv 1) (pa_cons (pe_wd (k := 8) WB rfl hr (by rfl) (lamS_by (sc := defScope s_law_other_doors) (by decide +kernel)) (fun A outer s H E f c' hr' => pe_calX c_map_holds hr' (by rfl) (passE rfl rfl rfl rfl) (pa_cons (pv 0) (pa_cons (pe_lst pa_nil) pa_nil)))) pa_nil)))
  (pss_one (ps_ret (pv 1))))))))), ?_⟩
    refine ⟨tb, fun H2 x2 tb2 => ?_⟩
    refine ⟨v, rfl, by show 1 ≤ sizeLine; decide, fun l el => ⟨v, .ref l, rfl, hv.ext (x2.same (same_upd el)), fun d H3 s3 hd => ⟨.str "uneven", (UnD.at TT hd).wide, ?_⟩⟩⟩
    have D3 : Ow H Ts H3 := (⟨x2, tb2⟩ : Ow H Ts H2).same ((same_upd el).trans s3)
    clear x2 tb2 s3 hd
    refine ⟨by show 1 ≤ sizeLine; decide, fun L eL => ?_⟩
    have eL0 := D3.new eL
    have D4 := D3.put (o := .lst [.str "uneven"]) eL0 (.inl eL)
    have l4 : (upd H3 L (.lst [.str "uneven"])) L = some (.lst [.str "uneven"]) := upd_same
    generalize upd H3 L (.lst [.str "uneven"]) = H4 at D4 l4
    clear D3 eL
    refine ⟨.ref L, rfl, .inl ⟨rfl, _, SqL.of l4⟩, D4.tb, fun H5 x5 tb5 => ?_⟩
    have x5a : ExtN H H5 := D4.ext.trans x5
    refine ⟨v, rfl, by show 0 ≤ sizeLine; decide, fun p ep => ⟨1, 1, rfl, by decide, fun c r H9 s9 _ _ => ⟨v, .ref p, .ref c, rfl, hv.ext (x5a.same ((same_upd ep).trans s9)), fun d H3 s3 hd => ⟨.str "uneven", (UnD.at TT hd).wide, ?_⟩⟩⟩⟩
    have D6 : Ow H Ts H3 := (⟨x5a, tb5⟩ : Ow H Ts H5).same (((same_upd ep).trans s9).trans s3)
    have l6 : H3 L = some (.lst [.str "uneven"]) := (((same_upd ep).trans s9).trans s3) _ _ (x5 _ _ l4 (fun ps z => by cases z))
    refine ⟨L, _, _, rfl, rfl, l6, by show 1 < sizeLine; decide, ?_⟩
    have D4_2 := D6.put (o := .lst [.str "uneven", .str "uneven"]) eL0 (.inr ⟨_, l6⟩)
    have l4_2 : (upd H3 L (.lst [.str "uneven", .str "uneven"])) L = some (.lst [.str "uneven", .str "uneven"]) := upd_same
    show tSeq _ _ _ _ (upd H3 L (.lst [.str "uneven", .str "uneven"]))
    generalize upd H3 L (.lst [.str "uneven", .str "uneven"]) = H4_2 at D4_2 l4_2
    clear D4 l4 x5 x5a tb5 D6 l6 s3 hd
    refine ⟨.ref L, rfl, .inl ⟨rfl, _, SqL.of l4_2⟩, D4_2.tb, fun H5 x5 tb5 => ?_⟩
    have x5a : ExtN H H5 := D4_2.ext.trans x5
    refine ⟨v, rfl, by show 1 ≤ sizeLine; decide, fun l el => ⟨by show 0 ≤ sizeLine; decide, fun m em => ⟨v, .ref l, .ref m, .bl false, rfl, hv.ext (x5a.same ((same_upd el).trans (same_upd em))), fun d H3 s3 hd => ⟨.str "uneven", (UnD.at TT hd).wide, ?_⟩⟩⟩⟩
    have D6 : Ow H Ts H3 := (⟨x5a, tb5⟩ : Ow H Ts H5).same (((same_upd el).trans (same_upd em)).trans s3)
    have l6 : H3 L = some (.lst [.str "uneven", .str "uneven"]) := (((same_upd el).trans (same_upd em)).trans s3) _ _ (x5 _ _ l4_2 (fun ps z => by cases z))
    refine ⟨L, _, _, rfl, rfl, l6, by show 2 < sizeLine; decide, ?_⟩
    have D4_3 := D6.put (o := .lst [.str "uneven", .str "uneven", .str "uneven"]) eL0 (.inr ⟨_, l6⟩)
    have l4_3 : (upd H3 L (.lst [.str "uneven", .str "uneven", .str "uneven"])) L = some (.lst [.str "uneven", .str "uneven", .str "uneven"]) := upd_same
    show tSeq _ _ _ _ (upd H3 L (.lst [.str "uneven", .str "uneven", .str "uneven"]))
    generalize upd H3 L (.lst [.str "uneven", .str "uneven", .str "uneven"]) = H4_3 at D4_3 l4_3
    clear D4_2 l4_2 x5 x5a tb5 D6 l6 s3 hd
    refine ⟨.ref L, rfl, .inl ⟨rfl, _, SqL.of l4_3⟩, D4_3.tb, fun H5 x5 tb5 => ?_⟩
    have x5a : ExtN H H5 := D4_3.ext.trans x5
    refine ⟨v, rfl, v, .int 7, .int 7, rfl, hv.ext x5a, fun d H3 s3 hd => ⟨.str "uneven", (UnD.at TT hd).wide, ?_⟩⟩
    have D6 : Ow H Ts H3 := (⟨x5a, tb5⟩ : Ow H Ts H5).same s3
    have l6 : H3 L = some (.lst [.str "uneven", .str "uneven", .str "uneven"]) := s3 _ _ (x5 _ _ l4_3 (fun ps z => by cases z))
    refine ⟨L, _, _, rfl, rfl, l6, by show 3 < sizeLine; decide, ?_⟩
    have D4_4 := D6.put (o := .lst [.str "uneven", .str "uneven", .str "uneven", .str "uneven"]) eL0 (.inr ⟨_, l6⟩)
    have l4_4 : (upd H3 L (.lst [.str "uneven", .str "uneven", .str "uneven", .str "uneven"])) L = some (.lst [.str "uneven", .str "uneven", .str "uneven", .str "uneven"]) := upd_same
    show tSeq _ _ _ _ (upd H3 L (.lst [.str "uneven", .str "uneven", .str "uneven", .str "uneven"]))
    generalize upd H3 L (.lst [.str "uneven", .str "uneven", .str "uneven", .str "uneven"]) = H4_4 at D4_4 l4_4
    clear D4_3 l4_3 x5 x5a tb5 D6 l6 s3 hd
    refine ⟨.ref L, rfl, .inl ⟨rfl, _, SqL.of l4_4⟩, D4_4.tb, fun H5 x5 tb5 => ?_⟩
    have x5a : ExtN H H5 := D4_4.ext.trans x5
    refine ⟨v, rfl, by show 1 ≤ sizeLine; decide, fun p ep => ⟨v, .ref p, .int 9, .int 9, rfl, hv.ext (x5a.same (same_upd ep)), fun d H3 s3 hd => ⟨.str "uneven", (UnD.at TT hd).wide, ?_⟩⟩⟩
    have D6 : Ow H Ts H3 := (⟨x5a, tb5⟩ : Ow H Ts H5).same ((same_upd ep).trans s3)
    have l6 : H3 L = some (.lst [.str "uneven", .str "uneven", .str "uneven", .str "uneven"]) := ((same_upd ep).trans s3) _ _ (x5 _ _ l4_4 (fun ps z => by cases z))
    refine ⟨L, _, _, rfl, rfl, l6, by show 4 < sizeLine; decide, ?_⟩
    have D4_5 := D6.put (o := .lst [.str "uneven", .str "uneven", .str "uneven", .str "uneven", .str "uneven"]) eL0 (.inr ⟨_, l6⟩)
    have l4_5 : (upd H3 L (.lst [.str "uneven", .str "uneven", .str "uneven", .str "uneven", .str "uneven"])) L = some (.lst [.str "uneven", .str "uneven", .str "uneven", .str "uneven", .str "uneven"]) := upd_same
    show tSeq _ _ _ _ (upd H3 L (.lst [.str "uneven", .str "uneven", .str "uneven", .str "uneven", .str "uneven"]))
    generalize upd H3 L (.lst [.str "uneven", .str "uneven", .str "uneven", .str "uneven", .str "uneven"]) = H4_5 at D4_5 l4_5
    clear D4_4 l4_4 x5 x5a tb5 D6 l6 s3 hd
    refine ⟨.ref L, rfl, .inl ⟨rfl, _, SqL.of l4_5⟩, D4_5.tb, fun H5 x5 tb5 => ?_⟩
    have x5a : ExtN H H5 := D4_5.ext.trans x5
    refine ⟨v, rfl, by show 0 ≤ sizeLine; decide, fun l el => ⟨v, .ref l, rfl, hv.ext (x5a.same (same_upd el)), fun d H3 s3 hd => ⟨.str "uneven", (UnD.at TT hd).wide, ?_⟩⟩⟩
    have D6 : Ow H Ts H3 := (⟨x5a, tb5⟩ : Ow H Ts H5).same ((same_upd el).trans s3)
    have l6 : H3 L = some (.lst [.str "uneven", .str "uneven", .str "uneven", .str "uneven", .str "uneven"]) := ((same_upd el).trans s3) _ _ (x5 _ _ l4_5 (fun ps z => by cases z))
    refine ⟨L, _, _, rfl, rfl, l6, by show 5 < sizeLine; decide, ?_⟩
    have D4_6 := D6.put (o := .lst [.str "uneven", .str "uneven", .str "uneven", .str "uneven", .str "uneven", .str "uneven"]) eL0 (.inr ⟨_, l6⟩)
    have l4_6 : (upd H3 L (.lst [.str "uneven", .str "uneven", .str "uneven", .str "uneven", .str "uneven", .str "uneven"])) L = some (.lst [.str "uneven", .str "uneven", .str "uneven", .str "uneven", .str "uneven", .str "uneven"]) := upd_same
    show tRet (tVar 1) _ _ (upd H3 L (.lst [.str "uneven", .str "uneven", .str "uneven", .str "uneven", .str "uneven", .str "uneven"]))
    generalize upd H3 L (.lst [.str "uneven", .str "uneven", .str "uneven", .str "uneven", .str "uneven", .str "uneven"]) = H4_6 at D4_6 l4_6
    clear D4_5 l4_5 x5 x5a tb5 D6 l6 s3 hd
    exact ⟨.ref L, rfl, q L H4_6 D4_6.ext D4_6.tb eL0 l4_6⟩
end
end Bw
set_option Elab.async false
set_option linter.all false
set_option maxRecDepth 100000
set_option maxHeartbeats 2000000
/-! ### d.update(d2), keys that are ints or texts -/
namespace L2
open PySem PySem.Spec PyProof.Rows
def rDUpd : V → List V → Hp → VK → Prop := fun x vs H Q => ∃ (a o : Addr) (kvs more : List (Key × V)), x = .ref a ∧ vs = [.ref o] ∧ a ≠ o ∧ H a = some (.dK kvs) ∧ H o = some (.dK more) ∧ kvs.length + more.length ≤ sizeLine ∧ Q .non (upd H a (.dK (mergeK kvs more)))
theorem mergeK_len : ∀ (more kvs : List (Key × V)), (mergeK kvs more).length ≤ kvs.length + more.length
  | [], kvs => Nat.le_refl _
  | q :: more, kvs => by
    have h := mergeK_len more (putK kvs q.1 q.2)
    have l := length_putK kvs q.1 q.2
    show (mergeK (putK kvs q.1 q.2) more).length ≤ kvs.length + (more.length + 1)
    omega
theorem mtd_update {X : Cx} : MtR X "dict.update" rDUpd := by
  intro pins s σ H x vs v us Q I rx rv h
  obtain ⟨a, o, kvs, more, ex, ev, ne, e, eo, sz, q⟩ := h
  subst ex
  subst ev
  obtain rfl : v = Value.ref a := rx
  obtain ⟨u, rfl, ru⟩ := rv.one
  obtain rfl : u = Value.ref o := ru
  obtain ⟨z, hd, vs1, rel, dd⟩ := dk_of I.hok e
  obtain ⟨z2, hd2, vs2, rel2, dd2⟩ := dk_of I.hok eo
  refine call_meetsIn PySem.F.slot_dict_update dd.typeIs PySem.F.entry_dict_update (PySem.F.args_dict_update_2 _ _) (meets_dict_update (mixKind X.prog X.w) a o ne hd2) ⟨vs1, vs2, dd, dd2, by rw [← rel.length, ← rel2.length]; exact sz, fun h' dd' _ hs => ?_⟩
  have he : ∃ q, h'.get? a = some q := let ⟨q, _, _, hq, _⟩ := dd'; ⟨q, hq⟩
  exact ⟨.non, _, d_write (t' := s.toks) I (by rw [e]; exact True.intro) hs he (dk_new (Nat.le_trans (mergeK_len more kvs) sz) hd (rel2.merge rel) dd'), rfl, q⟩
end L2
namespace L2
open PySem PySem.Spec PyProof.Rows
theorem putK_fresh {kvs : List (Key × V)} {k : Key} {v : V} (h : ∀ q ∈ kvs, q.1 ≠ k) : putK kvs k v = kvs ++ [(k, v)] := by
  unfold putK
  rw [if_neg]
  intro z
  obtain ⟨q, hq, e⟩ := List.any_eq_true.mp z
  exact h q hq (of_decide_eq_true e)
theorem mergeK_fresh : ∀ {more kvs : List (Key × V)}, (∀ p ∈ more, ∀ q ∈ kvs, q.1 ≠ p.1) → (more.map (·.1)).Nodup → mergeK kvs more = kvs ++ more
  | [], kvs, _, _ => (List.append_nil _).symm
  | p :: more, kvs, h, nd => by
    have nd' : (p.1 :: more.map (·.1)).Nodup := nd
    rw [List.nodup_cons] at nd'
    show mergeK (putK kvs p.1 p.2) more = _
    rw [putK_fresh (h p (List.mem_cons_self ..)), mergeK_fresh (fun p' hp' q hq => ?_) nd'.2, List.append_assoc]
    · rfl
    · rcases List.mem_append.mp hq with z | z
      · exact h p' (List.mem_cons_of_mem _ hp') q z
      · rw [List.mem_singleton.mp z]
        intro e
        exact nd'.1 (List.mem_map.mpr ⟨p', hp', e.symm⟩)
end L2
set_option linter.all false
namespace Wg
/-! ### weights: the only positive row that evens a table and has no common divisor on any lot -/
/-- tied together, step by step -/
inductive Tied (n : Nat) (b : Nat → Nat → Int) (i : Nat) : Nat → Prop where
  | refl : Tied n b i i
  | step {j k : Nat} (h : Tied n b i j) (hk : k < n) (t : b j k ≠ 0) : Tied n b i k
structure Wt (n : Nat) (b : Nat → Nat → Int) (w : Nat → Nat) : Prop where
  pos : ∀ i, i < n → 0 < w i
  ev : ∀ i j, i < n → j < n → (w i : Int) * b i j = -((w j : Int) * b j i)
  prim : ∀ i, i < n → ∀ g : Nat, (∀ j, j < n → Tied n b i j → g ∣ w j) → g = 1
theorem Tied.lt {n : Nat} {b : Nat → Nat → Int} {i j : Nat} (hi : i < n) (h : Tied n b i j) : j < n := by
  cases h with
  | refl => exact hi
  | step _ hk _ => exact hk
theorem prop_tied {n : Nat} {b : Nat → Nat → Int} {w v : Nat → Nat} {i : Nat} (hi : i < n) (wp : ∀ i, i < n → 0 < w i) (we : ∀ i j, i < n → j < n → (w i : Int) * b i j = -((w j : Int) * b j i)) (ve : ∀ i j, i < n → j < n → (v i : Int) * b i j = -((v j : Int) * b j i)) :
    ∀ {j : Nat}, Tied n b i j → w j * v i = v j * w i := by
  intro j h
  induction h with
  | refl => exact Nat.mul_comm ..
  | @step j k h hk t ih =>
    have hj := h.lt hi
    have e1 := we j k hj hk
    have e2 := ve j k hj hk
    have nk : b k j ≠ 0 := fun z => by
      rw [z, Int.mul_zero, Int.neg_zero] at e1
      rcases Int.mul_eq_zero.mp e1 with h | h
      · have := wp j hj
        omega
      · exact t h
    have ih' : (w j : Int) * v i = v j * w i := by exact_mod_cast ih
    have : ((w k : Int) * v i - v k * w i) * b k j = 0 := by
      have a1 : (w k : Int) * v i * b k j = -((w j : Int) * b j k) * v i := by rw [e1, Int.neg_neg, Int.mul_right_comm]
      have a2 : (v k : Int) * w i * b k j = -((v j : Int) * b j k) * w i := by rw [e2, Int.neg_neg, Int.mul_right_comm]
      rw [Int.sub_mul, a1, a2, Int.neg_mul, Int.neg_mul, Int.mul_right_comm, ih', Int.mul_right_comm (v j : Int) (b j k)]
      omega
    rcases Int.mul_eq_zero.mp this with h | h
    · have : (w k : Int) * v i = v k * w i := by omega
      exact_mod_cast this
    · exact absurd h nk
theorem Wt.uniq {n : Nat} {b : Nat → Nat → Int} {w v : Nat → Nat} (W : Wt n b w) (V : Wt n b v) (i : Nat) (hi : i < n) : w i = v i := by
  have pr : ∀ j, j < n → Tied n b i j → w j * v i = v j * w i := fun j _ h => prop_tied hi W.pos W.ev V.ev h
  have pw := W.pos i hi
  have pv := V.pos i hi
  have gp : 0 < Nat.gcd (w i) (v i) := Nat.gcd_pos_of_pos_left _ pw
  obtain ⟨a, ha⟩ := Nat.gcd_dvd_left (w i) (v i)
  obtain ⟨c, hc⟩ := Nat.gcd_dvd_right (w i) (v i)
  have co : Nat.Coprime a c := by
    have h := Nat.coprime_div_gcd_div_gcd gp
    have e1 : w i / Nat.gcd (w i) (v i) = a := by
      conv => lhs; lhs; rw [ha]
      rw [Nat.mul_div_cancel_left _ gp]
    have e2 : v i / Nat.gcd (w i) (v i) = c := by
      conv => lhs; lhs; rw [hc]
      rw [Nat.mul_div_cancel_left _ gp]
    rw [e1, e2] at h
    exact h
  have key : ∀ j, j < n → Tied n b i j → w j * c = v j * a := fun j hj h => by
    have e := pr j hj h
    refine Nat.eq_of_mul_eq_mul_left gp ?_
    rw [Nat.mul_left_comm, ← hc, Nat.mul_left_comm, ← ha]
    exact e
  have a1 : a = 1 := W.prim i hi a fun j hj h => co.dvd_of_dvd_mul_right (by rw [key j hj h]; exact Nat.dvd_mul_left ..)
  have c1 : c = 1 := V.prim i hi c fun j hj h => co.symm.dvd_of_dvd_mul_right (by rw [← key j hj h]; exact Nat.dvd_mul_left ..)
  rw [a1, Nat.mul_one] at ha
  rw [c1, Nat.mul_one] at hc
  exact ha.trans hc.symm
/-! ### one lot: what the search keeps -/
def keys (f : List (Nat × Nat)) : List Nat := f.map (·.1)
theorem mem_keys {f : List (Nat × Nat)} {i : Nat} : i ∈ keys f ↔ ∃ x, (i, x) ∈ f := by
  unfold keys
  rw [List.mem_map]
  constructor
  · rintro ⟨⟨a, x⟩, h, rfl⟩
    exact ⟨x, h⟩
  · rintro ⟨x, h⟩
    exact ⟨(i, x), h, rfl⟩
structure LI (n : Nat) (b : Nat → Nat → Int) (d : Nat → Nat) (r : Nat) (f : List (Nat × Nat)) (wt : List Nat) : Prop where
  nd : (keys f).Nodup
  lt : ∀ p ∈ f, p.1 < n
  pos : ∀ p ∈ f, 0 < p.2
  bd : ∀ p ∈ f, p.2 ≤ 50 ^ (f.length - 1)
  pr : ∀ p ∈ f, ∀ q ∈ f, p.2 * d q.1 = q.2 * d p.1
  td : ∀ p ∈ f, Tied n b r p.1
  fs : r ∈ keys f
  wk : ∀ i ∈ wt, i ∈ keys f
/-- closed but for what waits -/
def Cl (n : Nat) (b : Nat → Nat → Int) (f : List (Nat × Nat)) (wt : List Nat) : Prop := ∀ k ∈ keys f, k ∉ wt → ∀ l, l < n → b k l ≠ 0 → l ∈ keys f
/-- closed but for what waits and for i, whose ties below j are seen -/
def ClI (n : Nat) (b : Nat → Nat → Int) (f : List (Nat × Nat)) (wt : List Nat) (i j : Nat) : Prop := (∀ k ∈ keys f, k ∉ wt → k ≠ i → ∀ l, l < n → b k l ≠ 0 → l ∈ keys f) ∧ ∀ l, l < j → b i l ≠ 0 → l ∈ keys f
theorem LI.start {n : Nat} {b : Nat → Nat → Int} {d : Nat → Nat} {r : Nat} (hr : r < n) : LI n b d r [(r, 1)] [r] ∧ Cl n b [(r, 1)] [r] := by
  have one : ∀ p ∈ [(r, 1)], p = (r, 1) := fun p hp => List.mem_singleton.mp hp
  refine ⟨⟨by simp [keys], fun p hp => ?_, fun p hp => ?_, fun p hp => ?_, fun p hp q hq => ?_, fun p hp => ?_, by simp [keys], fun i hi => by simpa [keys] using hi⟩, fun k hk hn => absurd (by simpa [keys] using hk) (by simpa using hn)⟩
  · rw [one p hp]; exact hr
  · rw [one p hp]; exact Nat.one_pos
  · rw [one p hp]; exact Nat.le_refl _
  · rw [one p hp, one q hq]
  · rw [one p hp]; exact .refl
theorem Cl.pop {n : Nat} {b : Nat → Nat → Int} {f : List (Nat × Nat)} {wt : List Nat} {i : Nat} (h : Cl n b f (wt ++ [i])) : ClI n b f wt i 0 :=
  ⟨fun k hk hn hne l hl t => h k hk (fun z => by
    rcases List.mem_append.mp z with z | z
    · exact hn z
    · exact hne (List.mem_singleton.mp z)) l hl t, fun l hl => absurd hl (Nat.not_lt_zero _)⟩
theorem ClI.skip {n : Nat} {b : Nat → Nat → Int} {f : List (Nat × Nat)} {wt : List Nat} {i j : Nat} (h : ClI n b f wt i j) (z : b i j = 0 ∨ j ∈ keys f) : ClI n b f wt i (j + 1) :=
  ⟨h.1, fun l hl t => by
    by_cases e : l = j
    · subst e
      rcases z with z | z
      · exact absurd z t
      · exact z
    · exact h.2 l (by omega) t⟩
theorem ClI.done {n : Nat} {b : Nat → Nat → Int} {f : List (Nat × Nat)} {wt : List Nat} {i : Nat} (h : ClI n b f wt i n) : Cl n b f wt := fun k hk hn l hl t => by
  by_cases e : k = i
  · subst e
    exact h.2 l hl t
  · exact h.1 k hk hn e l hl t
/-- j is found from i -/
def growF (b : Nat → Nat → Int) (f : List (Nat × Nat)) (i j x : Nat) : List (Nat × Nat) := (f.map fun p => (p.1, p.2 * (b j i).natAbs)) ++ [(j, x * (b i j).natAbs)]
theorem keys_grow (b : Nat → Nat → Int) (f : List (Nat × Nat)) (i j x : Nat) : keys (growF b f i j x) = keys f ++ [j] := by
  unfold keys growF
  rw [List.map_append, List.map_map]
  rfl
theorem LI.grow {n : Nat} {b : Nat → Nat → Int} {d : Nat → Nat} {r : Nat} {f : List (Nat × Nat)} {wt : List Nat} {i j x : Nat} (h : LI n b d r f wt) (hi : (i, x) ∈ f) (hj : j < n) (t : b i j ≠ 0) (nj : j ∉ keys f)
    (dp : ∀ k, k < n → 0 < d k) (ev : ∀ i j, i < n → j < n → d i * (b i j).natAbs = d j * (b j i).natAbs) (bd : ∀ i j, i < n → j < n → (b i j).natAbs ≤ 50) : LI n b d r (growF b f i j x) (wt ++ [j]) := by
  have hin := h.lt _ hi
  have ti : 0 < (b i j).natAbs := by omega
  have tj : 0 < (b j i).natAbs := by
    have e := ev i j hin hj
    have p1 : 0 < d i * (b i j).natAbs := Nat.mul_pos (dp i hin) ti
    rw [e] at p1
    exact Nat.pos_of_mul_pos_left p1
  have lf : (growF b f i j x).length = f.length + 1 := by
    unfold growF
    rw [List.length_append, List.length_map]
    rfl
  have f1 : 1 ≤ f.length := List.length_pos_of_mem hi
  have mem : ∀ p, p ∈ growF b f i j x → (∃ q ∈ f, p = (q.1, q.2 * (b j i).natAbs)) ∨ p = (j, x * (b i j).natAbs) := fun p hp => by
    unfold growF at hp
    rcases List.mem_append.mp hp with z | z
    · obtain ⟨q, hq, e⟩ := List.mem_map.mp z
      exact .inl ⟨q, hq, e.symm⟩
    · exact .inr (List.mem_singleton.mp z)
  have big : ∀ y m, y ≤ 50 ^ (f.length - 1) → m ≤ 50 → y * m ≤ 50 ^ (f.length + 1 - 1) := fun y m hy hm => by
    have : 50 ^ (f.length + 1 - 1) = 50 ^ (f.length - 1) * 50 := by rw [← Nat.pow_succ]; congr 1; omega
    rw [this]
    exact Nat.mul_le_mul hy hm
  -- what was found keeps its measure against j
  have key : ∀ q ∈ f, q.2 * (b j i).natAbs * d j = x * (b i j).natAbs * d q.1 := fun q hq => by
    have e1 := h.pr q hq (i, x) hi
    have e2 := ev i j hin hj
    have e3 : q.2 * d i = x * d q.1 := e1
    calc q.2 * (b j i).natAbs * d j = q.2 * (d j * (b j i).natAbs) := by rw [Nat.mul_assoc, Nat.mul_comm (b j i).natAbs]
      _ = q.2 * (d i * (b i j).natAbs) := by rw [e2]
      _ = q.2 * d i * (b i j).natAbs := by rw [Nat.mul_assoc]
      _ = x * d q.1 * (b i j).natAbs := by rw [e3]
      _ = x * (b i j).natAbs * d q.1 := by rw [Nat.mul_right_comm]
  refine ⟨?_, fun p hp => ?_, fun p hp => ?_, fun p hp => ?_, fun p hp q hq => ?_, fun p hp => ?_, ?_, fun k hk => ?_⟩
  · rw [keys_grow, List.nodup_append]
    refine ⟨h.nd, (by simp), fun a ha c hc e => ?_⟩
    rw [List.mem_singleton.mp hc] at e
    exact nj (e ▸ ha)
  · rcases mem p hp with ⟨q, hq, rfl⟩ | rfl
    · exact h.lt q hq
    · exact hj
  · rcases mem p hp with ⟨q, hq, rfl⟩ | rfl
    · exact Nat.mul_pos (h.pos q hq) tj
    · exact Nat.mul_pos (h.pos _ hi) ti
  · rw [lf]
    rcases mem p hp with ⟨q, hq, rfl⟩ | rfl
    · exact big _ _ (h.bd q hq) (bd j i hj hin)
    · exact big _ _ (h.bd _ hi) (bd i j hin hj)
  · rcases mem p hp with ⟨p', hp', rfl⟩ | rfl <;> rcases mem q hq with ⟨q', hq', rfl⟩ | rfl
    · show p'.2 * (b j i).natAbs * d q'.1 = q'.2 * (b j i).natAbs * d p'.1
      rw [Nat.mul_right_comm, h.pr p' hp' q' hq', Nat.mul_right_comm]
    · exact key p' hp'
    · exact (key q' hq').symm
    · rfl
  · rcases mem p hp with ⟨q, hq, rfl⟩ | rfl
    · exact h.td q hq
    · exact .step (h.td _ hi) hj t
  · rw [keys_grow]
    exact List.mem_append.mpr (.inl h.fs)
  · rw [keys_grow]
    rcases List.mem_append.mp hk with z | z
    · exact List.mem_append.mpr (.inl (h.wk k z))
    · exact List.mem_append.mpr (.inr z)
theorem ClI.grow {n : Nat} {b : Nat → Nat → Int} {f : List (Nat × Nat)} {wt : List Nat} {i j x : Nat} (h : ClI n b f wt i j) : ClI n b (growF b f i j x) (wt ++ [j]) i (j + 1) := by
  unfold ClI
  rw [keys_grow]
  refine ⟨fun k hk hn hne l hl t => ?_, fun l hl t => ?_⟩
  · rcases List.mem_append.mp hk with z | z
    · exact List.mem_append.mpr (.inl (h.1 k z (fun q => hn (List.mem_append.mpr (.inl q))) hne l hl t))
    · exact absurd (List.mem_append.mpr (.inr z)) hn
  · by_cases e : l = j
    · exact List.mem_append.mpr (.inr (List.mem_singleton.mpr e))
    · exact List.mem_append.mpr (.inl (h.2 l (by omega) t))
end Wg
set_option linter.all false
namespace Wg
/-! ### a lot, divided by what its weights share -/
structure Lot (n : Nat) (b : Nat → Nat → Int) (d : Nat → Nat) (r : Nat) (f : List (Nat × Nat)) : Prop where
  nd : (keys f).Nodup
  lt : ∀ p ∈ f, p.1 < n
  pos : ∀ p ∈ f, 0 < p.2
  bd : ∀ p ∈ f, p.2 ≤ 50 ^ (f.length - 1)
  pr : ∀ p ∈ f, ∀ q ∈ f, p.2 * d q.1 = q.2 * d p.1
  td : ∀ p ∈ f, Tied n b r p.1
  fs : r ∈ keys f
  cl : ∀ k ∈ keys f, ∀ l, l < n → b k l ≠ 0 → l ∈ keys f
  pm : ∀ g : Nat, (∀ p ∈ f, g ∣ p.2) → g = 1
def gcds (f : List (Nat × Nat)) (g : Nat) : Nat := f.foldl (fun g p => Nat.gcd g p.2) g
theorem gcds_dvd : ∀ (f : List (Nat × Nat)) (g : Nat), gcds f g ∣ g ∧ ∀ p ∈ f, gcds f g ∣ p.2
  | [], g => ⟨Nat.dvd_refl _, fun p hp => by cases hp⟩
  | q :: f, g => by
    have h := gcds_dvd f (Nat.gcd g q.2)
    refine ⟨Nat.dvd_trans h.1 (Nat.gcd_dvd_left _ _), fun p hp => ?_⟩
    rcases List.mem_cons.mp hp with rfl | hp
    · exact Nat.dvd_trans h.1 (Nat.gcd_dvd_right _ _)
    · exact h.2 p hp
theorem dvd_gcds {c : Nat} : ∀ (f : List (Nat × Nat)) (g : Nat), c ∣ g → (∀ p ∈ f, c ∣ p.2) → c ∣ gcds f g
  | [], g, h, _ => h
  | q :: f, g, h, k => dvd_gcds f (Nat.gcd g q.2) (Nat.dvd_gcd h (k q (List.mem_cons_self ..))) fun p hp => k p (List.mem_cons_of_mem _ hp)
def divF (f : List (Nat × Nat)) (g : Nat) : List (Nat × Nat) := f.map fun p => (p.1, p.2 / g)
theorem keys_div (f : List (Nat × Nat)) (g : Nat) : keys (divF f g) = keys f := by
  unfold keys divF
  rw [List.map_map]
  rfl
theorem LI.lot {n : Nat} {b : Nat → Nat → Int} {d : Nat → Nat} {r : Nat} {f : List (Nat × Nat)} (h : LI n b d r f []) (c : Cl n b f []) : Lot n b d r (divF f (gcds f 0)) := by
  have dv := gcds_dvd f 0
  obtain ⟨x0, hx0⟩ := mem_keys.mp h.fs
  have gp : 0 < gcds f 0 := Nat.pos_of_dvd_of_pos (dv.2 _ hx0) (h.pos _ hx0)
  have mem : ∀ p, p ∈ divF f (gcds f 0) → ∃ q ∈ f, q.1 = p.1 ∧ q.2 = gcds f 0 * p.2 := fun p hp => by
    obtain ⟨q, hq, rfl⟩ := List.mem_map.mp hp
    exact ⟨q, hq, rfl, (Nat.mul_div_cancel' (dv.2 q hq)).symm⟩
  refine ⟨by rw [keys_div]; exact h.nd, fun p hp => ?_, fun p hp => ?_, fun p hp => ?_, fun p hp q hq => ?_, fun p hp => ?_, by rw [keys_div]; exact h.fs, by rw [keys_div]; exact fun k hk l hl t => c k hk (fun z => by cases z) l hl t, fun g hg => ?_⟩
  · obtain ⟨q, hq, e, _⟩ := mem p hp
    rw [← e]
    exact h.lt q hq
  · obtain ⟨q, hq, _, e⟩ := mem p hp
    have := h.pos q hq
    rw [e] at this
    exact Nat.pos_of_mul_pos_left this
  · obtain ⟨q, hq, _, e⟩ := mem p hp
    have := h.bd q hq
    have l : (divF f (gcds f 0)).length = f.length := by
      unfold divF
      rw [List.length_map]
    rw [l]
    refine Nat.le_trans ?_ this
    rw [e]
    exact Nat.le_mul_of_pos_left _ gp
  · obtain ⟨p', hp', e1, e2⟩ := mem p hp
    obtain ⟨q', hq', e3, e4⟩ := mem q hq
    have := h.pr p' hp' q' hq'
    rw [e1, e2, e3, e4, Nat.mul_assoc, Nat.mul_assoc] at this
    exact Nat.eq_of_mul_eq_mul_left gp this
  · obtain ⟨q, hq, e, _⟩ := mem p hp
    rw [← e]
    exact h.td q hq
  · have hd : gcds f 0 * g ∣ gcds f 0 := dvd_gcds f 0 (Nat.dvd_zero _) fun p hp => by
      have e := (Nat.mul_div_cancel' (dv.2 p hp))
      rw [← e]
      exact Nat.mul_dvd_mul_left _ (hg _ (List.mem_map.mpr ⟨p, hp, rfl⟩))
    obtain ⟨m, hm⟩ := hd
    have : gcds f 0 * 1 = gcds f 0 * (g * m) := by rw [Nat.mul_one, ← Nat.mul_assoc]; exact hm
    have := Nat.eq_of_mul_eq_mul_left gp this
    exact Nat.eq_one_of_mul_eq_one_right this.symm
/-! ### all lots together -/
theorem Tied.trans {n : Nat} {b : Nat → Nat → Int} {i j k : Nat} (h : Tied n b i j) (h2 : Tied n b j k) : Tied n b i k := by
  induction h2 with
  | refl => exact h
  | step _ hk t ih => exact .step ih hk t
theorem Tied.symm {n : Nat} {b : Nat → Nat → Int} (nz : ∀ i j, i < n → j < n → b i j ≠ 0 → b j i ≠ 0) {i j : Nat} (hi : i < n) (h : Tied n b i j) : Tied n b j i := by
  induction h with
  | refl => exact .refl
  | @step j k h hk t ih => exact Tied.trans (.step .refl (h.lt hi) (nz _ _ (h.lt hi) hk t)) ih
theorem Lot.closed {n : Nat} {b : Nat → Nat → Int} {d : Nat → Nat} {r : Nat} {f : List (Nat × Nat)} (h : Lot n b d r f) {i j : Nat} (hi : i ∈ keys f) (t : Tied n b i j) : j ∈ keys f := by
  induction t with
  | refl => exact hi
  | step _ hk t ih => exact h.cl _ ih _ hk t
/-- the weights found so far: whole lots -/
structure Lots (n : Nat) (b : Nat → Nat → Int) (d : Nat → Nat) (F : List (Nat × Nat)) : Prop where
  nd : (keys F).Nodup
  lot : ∀ p ∈ F, ∃ r f, Lot n b d r f ∧ p ∈ f ∧ ∀ q ∈ f, q ∈ F
theorem Lots.nil {n : Nat} {b : Nat → Nat → Int} {d : Nat → Nat} : Lots n b d [] := ⟨by simp [keys], fun p hp => by cases hp⟩
theorem Lots.apart {n : Nat} {b : Nat → Nat → Int} {d : Nat → Nat} {F f : List (Nat × Nat)} {r : Nat} (nz : ∀ i j, i < n → j < n → b i j ≠ 0 → b j i ≠ 0) (h : Lots n b d F) (l : Lot n b d r f) (hr : r ∉ keys F) : ∀ k ∈ keys f, k ∉ keys F := fun k hk z => by
  obtain ⟨x, hx⟩ := mem_keys.mp z
  obtain ⟨r', f', l', m', s'⟩ := h.lot _ hx
  obtain ⟨y, hy⟩ := mem_keys.mp hk
  obtain ⟨z0, hz0⟩ := mem_keys.mp l.fs
  have t := Tied.symm nz (l.lt _ hz0) (l.td _ hy)
  obtain ⟨u, hu⟩ := mem_keys.mp (l'.closed (mem_keys.mpr ⟨x, m'⟩) t)
  exact hr (mem_keys.mpr ⟨u, s' _ hu⟩)
theorem Lots.add {n : Nat} {b : Nat → Nat → Int} {d : Nat → Nat} {F f : List (Nat × Nat)} {r : Nat} (nz : ∀ i j, i < n → j < n → b i j ≠ 0 → b j i ≠ 0) (h : Lots n b d F) (l : Lot n b d r f) (hr : r ∉ keys F) : Lots n b d (F ++ f) := by
  refine ⟨?_, fun p hp => ?_⟩
  · unfold keys
    rw [List.map_append, List.nodup_append]
    exact ⟨h.nd, l.nd, fun a ha c hc e => h.apart nz l hr c hc (e ▸ ha)⟩
  · rcases List.mem_append.mp hp with z | z
    · obtain ⟨r', f', l', m', s'⟩ := h.lot p z
      exact ⟨r', f', l', m', fun q hq => List.mem_append.mpr (.inl (s' q hq))⟩
    · exact ⟨r, f, l, z, fun q hq => List.mem_append.mpr (.inr hq)⟩
/-- what stands at a key -/
def valAt (F : List (Nat × Nat)) (i : Nat) : Nat := (F.lookup i).getD 0
theorem valAt_of : ∀ {F : List (Nat × Nat)} {i x : Nat}, (keys F).Nodup → (i, x) ∈ F → valAt F i = x
  | [], _, _, _, h => by cases h
  | (k, y) :: F, i, x, nd, h => by
    have nd' : (k :: keys F).Nodup := nd
    rw [List.nodup_cons] at nd'
    unfold valAt
    rcases List.mem_cons.mp h with e | e
    · cases e
      rw [List.lookup_cons, beq_self_eq_true]
      rfl
    · have : (i == k) = false := by
        rw [beq_eq_false_iff_ne]
        intro z
        exact nd'.1 (z ▸ mem_keys.mpr ⟨x, e⟩)
      rw [List.lookup_cons, this]
      exact valAt_of nd'.2 e
theorem Lots.wt {n : Nat} {b : Nat → Nat → Int} {d : Nat → Nat} {F : List (Nat × Nat)} (h : Lots n b d F) (all : ∀ i, i < n → i ∈ keys F) (dp : ∀ k, k < n → 0 < d k) (ev : ∀ i j, i < n → j < n → (d i : Int) * b i j = -((d j : Int) * b j i)) : Wt n b (valAt F) := by
  have nz : ∀ i j, i < n → j < n → b i j ≠ 0 → b j i ≠ 0 := fun i j hi hj t z => by
    have e := ev i j hi hj
    rw [z, Int.mul_zero, Int.neg_zero] at e
    rcases Int.mul_eq_zero.mp e with h | h
    · have := dp i hi
      omega
    · exact t h
  refine ⟨fun i hi => ?_, fun i j hi hj => ?_, fun i hi g hg => ?_⟩
  · obtain ⟨x, hx⟩ := mem_keys.mp (all i hi)
    obtain ⟨r, f, l, m, _⟩ := h.lot _ hx
    rw [valAt_of h.nd hx]
    exact l.pos _ m
  · by_cases t : b i j = 0
    · have : b j i = 0 := Classical.byContradiction fun z => nz j i hj hi z t
      rw [t, this, Int.mul_zero, Int.mul_zero]
      rfl
    · obtain ⟨x, hx⟩ := mem_keys.mp (all i hi)
      obtain ⟨r, f, l, m, s⟩ := h.lot _ hx
      obtain ⟨y, hy⟩ := mem_keys.mp (l.cl i (mem_keys.mpr ⟨x, m⟩) j hj t)
      rw [valAt_of h.nd hx, valAt_of h.nd (s _ hy)]
      have e1 : x * d j = y * d i := l.pr _ m _ hy
      have e1' : (x : Int) * d j = y * d i := by exact_mod_cast e1
      have e2 := ev i j hi hj
      have dj : (d j : Int) ≠ 0 := by
        have := dp j hj
        omega
      refine Int.eq_of_mul_eq_mul_right dj ?_
      rw [Int.mul_right_comm, e1', Int.neg_mul, Int.mul_right_comm (y : Int) (b j i), Int.mul_assoc, e2, Int.mul_neg, ← Int.mul_assoc]
  · obtain ⟨x, hx⟩ := mem_keys.mp (all i hi)
    obtain ⟨r, f, l, m, s⟩ := h.lot _ hx
    refine l.pm g fun p hp => ?_
    have hr : r < n := by
      obtain ⟨z, hz⟩ := mem_keys.mp l.fs
      exact l.lt _ hz
    have t : Tied n b i p.1 := (Tied.symm nz hr (l.td _ m)).trans (l.td p hp)
    have := hg p.1 (l.lt p hp) t
    rw [valAt_of h.nd (s p hp)] at this
    exact this
end Wg
set_option Elab.async false
set_option linter.all false
set_option maxRecDepth 100000
set_option maxHeartbeats 4000000
namespace Bw
open PySem PySem.Spec PyProof.Rows L2
section
variable {P : Program} {w : World} {K : PySem.W.Frag} {mg : Str → Option Value} {base : Heap}
/-! ### common -/
abbrev s_common : Stmt := topS 24
abbrev n_common : List Str := ["one", "other"]
theorem sc_common : FnScope n_common ["one", "other"] (defScope s_common) := ⟨rfl, rfl, rfl, by decide +kernel, rfl, by decide +kernel, by decide +kernel⟩
theorem ok_common {f : Addr} {fd : FuncData} {k : Nat} (F : Fun K "common" "common" s_common f fd) (T : Tx mg) : FnOk P w K mg base CX0 (k + 1) f fd ["one", "other"] spGcd := by
  refine F.ok sc_common (fun vs H Q E h => ?_) (fun cdv A outer s H vs Q E hr h => ?_)
  · obtain ⟨a, b, rfl, _⟩ := h
    rfl
  · obtain ⟨a, b, rfl, q⟩ := h
    refine ⟨_, (pss_cons (ps_set (i := 0) sc_common.nd rfl (.inl rfl) (pe_callB call_abs (by rfl) T.abs (by decide +kernel) (pa_cons (pv 0) pa_nil)))
  (pss_cons (ps_set (i := 1) sc_common.nd rfl (.inl rfl) (pe_callB call_abs (by rfl) T.abs (by decide +kernel) (pa_cons (pv 1) pa_nil)))
  (pss_cons (ps_while PassesOwn.never (pt_cmpR op_ne (pv 1) pe_int (nomark _))
    (pss_one (ps_par (i := 0) (j := 1) (by rfl) sc_common.nd rfl rfl (by decide) rfl rfl (pa_cons (pv 1) (pa_cons (pe_op op_mod (pv 0) (pv 1)) pa_nil)) (by rfl))))
  (pss_one (ps_ret (pv 0)))))), ?_⟩
    refine ⟨_, rfl, _, rfl, ?_⟩
    rw [if_neg (by omega)]
    refine ⟨_, rfl, _, rfl, ?_⟩
    rw [if_neg (by omega)]
    refine while_by (fun σ H' => ∃ x y : Nat, σ = [some (.int x), some (.int y)] ∧ Nat.gcd x y = Nat.gcd a b ∧ H' = H) (fun σ _ => match σ with | [_, some (.int y)] => y.toNat | _ => 0) ⟨a, b, rfl, rfl, rfl⟩ ?_ ?_
    · rintro σ H' ⟨x, y, rfl, hg, rfl⟩
      refine ⟨.int y, rfl, rfl, _, rfl, ?_⟩
      by_cases hy : y = 0
      · subst hy
        rw [decide_eq_true (show V.int ((0 : Nat) : Int) = V.int 0 from rfl)]
        refine iteF ⟨_, rfl, ?_⟩
        rw [Nat.gcd_zero_right] at hg
        rw [hg]
        exact q
      · rw [decide_eq_false (fun z : V.int (y : Int) = V.int 0 => hy (by injection z with z; omega))]
        refine iteT ⟨_, rfl, _, rfl, _, rfl, _, _, rfl, rfl, (by show (0 : Int) < (y : Int); omega), _, _, rfl, ?_, ?_⟩
        · refine ⟨y, x % y, rfl, ?_, rfl⟩
          rw [← hg, Nat.gcd_comm y (x % y), ← Nat.gcd_rec y x, Nat.gcd_comm]
        · show ((x : Int) % (y : Int)).toNat < ((y : Int)).toNat
          have h1 := Int.emod_lt_of_pos (x : Int) (show (0 : Int) < (y : Int) by omega)
          have h2 := Int.emod_nonneg (x : Int) (show (y : Int) ≠ 0 by omega)
          omega
    · rintro σ H' Q1 Q2 hq ⟨v, e, e2, k, t, q1⟩
      exact ⟨v, e, e2, k, t, hq _ _ q1⟩
end
end Bw
set_option Elab.async false
set_option linter.all false
set_option maxRecDepth 100000
set_option maxHeartbeats 4000000
namespace Bw
open PySem PySem.Spec PyProof.Rows L2
/-! ### weights, over what one lot gives -/
def kvF (f : List (Nat × Nat)) : List (Key × V) := f.map fun p => (.inl (p.1 : Int), .int p.2)
structure Dv (rows : List (List Int)) (n : Nat) (d : Nat → Nat) : Prop where
  pos : ∀ i, i < n → 0 < d i
  ev : ∀ i j, i < n → j < n → (d i : Int) * ent rows i j = -((d j : Int) * ent rows j i)
theorem TabOk.dv {rows : List (List Int)} {n : Nat} (O : TabOk rows n) : ∃ d, Dv rows n d := by
  obtain ⟨d, h1, h2⟩ := O.even
  refine ⟨fun i => (d i).toNat, fun i hi => by have := h1 i hi; omega, fun i j hi hj => ?_⟩
  have e1 : (((d i).toNat : Nat) : Int) = d i := by have := h1 i hi; omega
  have e2 : (((d j).toNat : Nat) : Int) = d j := by have := h1 j hj; omega
  show (((d i).toNat : Nat) : Int) * _ = -((((d j).toNat : Nat) : Int) * _)
  rw [e1, e2]
  exact h2 i j hi hj
theorem kvF_merge {F f : List (Nat × Nat)} (h : ∀ k ∈ Wg.keys f, k ∉ Wg.keys F) (nd : (Wg.keys f).Nodup) : mergeK (kvF F) (kvF f) = kvF (F ++ f) := by
  have a1 : ∀ p ∈ kvF f, ∀ q ∈ kvF F, q.1 ≠ p.1 := fun p hp q hq e => by
    obtain ⟨p', hp', rfl⟩ := List.mem_map.mp hp
    obtain ⟨q', hq', rfl⟩ := List.mem_map.mp hq
    have e : (q'.1 : Int) = p'.1 := Sum.inl.inj e
    have e : q'.1 = p'.1 := by omega
    exact h p'.1 (Wg.mem_keys.mpr ⟨p'.2, hp'⟩) (e ▸ Wg.mem_keys.mpr ⟨q'.2, hq'⟩)
  have a2 : ((kvF f).map (·.1)).Nodup := by
    have e : (kvF f).map (·.1) = (Wg.keys f).map fun (i : Nat) => (Sum.inl (i : Int) : Key) := by
      unfold kvF Wg.keys
      rw [List.map_map, List.map_map]
      rfl
    rw [e]
    have inj : ∀ l : List Nat, l.Nodup → (l.map fun (i : Nat) => (Sum.inl (i : Int) : Key)).Nodup := fun l => by
      induction l with
      | nil => intro _; exact List.nodup_nil
      | cons x l ih =>
        intro nd
        rw [List.nodup_cons] at nd
        rw [List.map_cons, List.nodup_cons]
        refine ⟨fun z => ?_, ih nd.2⟩
        obtain ⟨y, hy, ey⟩ := List.mem_map.mp z
        have e : (y : Int) = x := Sum.inl.inj ey
        have e : y = x := by omega
        exact nd.1 (e ▸ hy)
    exact inj _ nd
  rw [mergeK_fresh a1 a2]
  unfold kvF
  rw [List.map_append]
theorem kvF_val : ∀ {F : List (Nat × Nat)} {i x : Nat}, (Wg.keys F).Nodup → (i, x) ∈ F → valV (kvF F) (.inl (i : Int)) = some (.int x)
  | [], _, _, _, h => by cases h
  | (k, y) :: F, i, x, nd, h => by
    have nd' : (k :: Wg.keys F).Nodup := nd
    rw [List.nodup_cons] at nd'
    rcases List.mem_cons.mp h with e | e
    · cases e
      show Option.map _ (List.find? _ ((Sum.inl (k : Int), V.int y) :: kvF F)) = _
      rw [List.find?_cons_of_pos (by simp)]
      rfl
    · have ne : ¬ ((Sum.inl (k : Int) : Key) = Sum.inl (i : Int)) := fun z => by
        have : (k : Int) = i := Sum.inl.inj z
        have : k = i := by omega
        exact nd'.1 (this ▸ Wg.mem_keys.mpr ⟨x, e⟩)
      show Option.map _ (List.find? _ ((Sum.inl (k : Int), V.int y) :: kvF F)) = _
      rw [List.find?_cons_of_neg (by simpa using ne)]
      exact kvF_val nd'.2 e
theorem kvF_none {F : List (Nat × Nat)} {i : Nat} (h : i ∉ Wg.keys F) : valV (kvF F) (.inl (i : Int)) = none := by
  unfold valV
  rw [List.find?_eq_none.mpr (fun q hq z => ?_)]
  · rfl
  · obtain ⟨q', hq', rfl⟩ := List.mem_map.mp hq
    have e : (q'.1 : Int) = i := Sum.inl.inj (of_decide_eq_true z)
    have e : q'.1 = i := by omega
    exact h (e ▸ Wg.mem_keys.mpr ⟨q'.2, hq'⟩)
end Bw
set_option Elab.async false
set_option linter.all false
set_option maxRecDepth 100000
set_option maxHeartbeats 4000000
namespace Bw
open PySem PySem.Spec PyProof.Rows L2
theorem nodup_len : ∀ (n : Nat) (l : List Nat), l.Nodup → (∀ x ∈ l, x < n) → l.length ≤ n
  | 0, l, _, h => by
    cases l with
    | nil => exact Nat.le_refl _
    | cons x l => exact absurd (h x (List.mem_cons_self ..)) (Nat.not_lt_zero _)
  | n + 1, l, nd, h => by
    by_cases z : n ∈ l
    · have e := List.length_erase_of_mem z
      have i := nodup_len n (l.erase n) (nd.erase n) fun x hx => by
        have k := (nd.mem_erase_iff).mp hx
        have := h x k.2
        omega
      omega
    · have := nodup_len n l nd fun x hx => by
        have := h x hx
        have : x ≠ n := fun e => z (e ▸ hx)
        omega
      omega
theorem lots_len {n : Nat} {b : Nat → Nat → Int} {d : Nat → Nat} {F : List (Nat × Nat)} (L : Wg.Lots n b d F) : F.length ≤ n := by
  have := nodup_len n (Wg.keys F) L.nd fun x hx => by
    obtain ⟨y, hy⟩ := Wg.mem_keys.mp hx
    obtain ⟨r, f, l, m, _⟩ := L.lot _ hy
    exact l.lt _ m
  unfold Wg.keys at this
  rw [List.length_map] at this
  exact this
section
variable {P : Program} {w : World} {K : PySem.W.Frag} {mg : Str → Option Value} {base : Heap}
def spLot : Sp := fun vs H Q _ => ∃ (a : Addr) (rows : List (List Int)) (n r : Nat) (d : Nat → Nat), vs = [.ref a, .int r] ∧ TabAt H a rows ∧ TabOk rows n ∧ Dv rows n d ∧ r < n ∧ ∀ (o : Addr) (f : List (Nat × Nat)) (H' : Hp), Same H H' → H o = none → H' o = some (.dK (kvF f)) → Wg.Lot n (ent rows) d r f → Q (.ref o) H'
def spWeights : Sp := fun vs H Q _ => ∃ (a : Addr) (rows : List (List Int)) (n : Nat), vs = [.ref a] ∧ TabAt H a rows ∧ TabOk rows n ∧ ∀ (p : Addr) (W : Nat → Nat) (H' : Hp), Same H H' → H' p = some (.tup ((List.range n).map fun i => .int (W i))) → Wg.Wt n (ent rows) W → Q (.ref p) H'
theorem ok_weights {f : Addr} {fd : FuncData} (F : Fun K "weights" "weights" s_weights f fd) (T : Tx mg) (c_check_table : Cal P w K mg base CX0 5 "check_table" ["table"] spGood) (c_bud_count : Cal P w K mg base CX0 1 "bud_count" ["table"] spBuds) (c_lot_weights : Cal P w K mg base CX0 3 "lot_weights" ["table", "first"] spLot) : FnOk P w K mg base CX0 6 f fd ["table"] spWeights := by
  refine F.ok sc_weights (fun vs H Q E h => ?_) (fun cdv A outer s H vs Q E hr h => ?_)
  · obtain ⟨a, rows, n, rfl, _⟩ := h
    rfl
  · obtain ⟨a, rows, n, rfl, hT, O, q⟩ := h
    have hu := hr.units
    have hr1 := hr.mono (show 1 ≤ 5 by decide)
    have hr3 := hr.mono (show 3 ≤ 5 by decide)
    refine ⟨_, (pss_cons (ps_expr (pe_cal c_check_table hr (by rfl) (pa_cons (pv 0) pa_nil)))
  (pss_cons (ps_set (i := 1) sc_weights.nd rfl (.inr rfl) pe_dnewK)
  (pss_cons (ps_for PassesOwn.never rfl (pi_range1 (by rfl) T.range (pa_cons (pe_cal c_bud_count hr1 (by rfl) (pa_cons (pv 0) pa_nil)) pa_nil)) (pg_name (i := 2) sc_weights.nd rfl (.inl rfl))
    (pss_one (ps_if (pt_cmp (pc_dnotin (show _ < _ by have := hu; exact Nat.lt_of_le_of_lt (Nat.add_le_add_left (by decide) _) this) (pv 2) (pv 1)))
      (pss_one (ps_expr (pe_bm PySem.F.plainAttrs_dict PySem.F.slot_dict_update PySem.F.type_dict_update mtd_update (pv 1) (pa_cons (pe_cal c_lot_weights hr3 (by rfl) (pa_cons (pv 0) (pa_cons (pv 2) pa_nil))) pa_nil))))
      pss_nil)))
  (pss_one (ps_ret (pe_callTy (c_tup (K := K)) (by rfl) T.tuple (by decide +kernel) (pa_cons (pe_lc (own := [("bud", 2)]) (by rfl) sc_weights.nd (pi_range1 (by rfl) T.range (pa_cons (pe_cal c_bud_count hr1 (by rfl) (pa_cons (pv 0) pa_nil)) pa_nil)) (blkOk_by (own := [("bud", 2)]) (N := n_weights) (sc := defScope s_weights) (by decide +kernel)) (fun _ _ _ _ _ => (pg_name (i := 2) sc_weights.nd rfl (.inl rfl))) (fun _ _ _ _ _ => pts_nil) (fun _ _ _ _ _ => (pe_dget (show _ < _ by have := hu; exact Nat.lt_of_le_of_lt (Nat.add_le_add_left (by decide) _) this) (pv 1) (pv 2) (fun _ _ => rfl)))) pa_nil))))))), ?_⟩
    obtain ⟨d, D⟩ := O.dv
    have n1 := O.n1
    have n4 := O.n4
    have ln := O.len
    have nz : ∀ i j, i < n → j < n → ent rows i j ≠ 0 → ent rows j i ≠ 0 := fun i j hi hj t z => by
      have e := D.ev i j hi hj
      rw [z, Int.mul_zero, Int.neg_zero] at e
      rcases Int.mul_eq_zero.mp e with h | h
      · have := D.pos i hi
        omega
      · exact t h
    refine ⟨.ref a, rfl, a, rows, n, rfl, hT, O, fun H1 s1 => ?_⟩
    intro p ep
    have hp : H p = none := by
      cases z : H p with
      | none => rfl
      | some o =>
        rw [s1 _ _ z] at ep
        cases ep
    have s2 : Same H (upd H1 p (.dK [])) := Same.updN s1 hp
    refine ⟨.ref a, rfl, a, rows, n, rfl, hT.same s2, by omega, O.wide, n, rfl, by omega, by omega, for_range (fun m σ H' => ∃ (y2 : Option V) (F : List (Nat × Nat)), σ = [some (.ref a), some (.ref p), y2] ∧ H' p = some (.dK (kvF F)) ∧ Same H H' ∧ Wg.Lots n (ent rows) d F ∧ F.length ≤ n ∧ ∀ i, i < m → i ∈ Wg.keys F) ⟨none, [], rfl, upd_same, s2, .nil, Nat.zero_le _, fun i hi => absurd hi (Nat.not_lt_zero _)⟩ ?_ ?_⟩
    · rintro i σ H2 hi ⟨y2, F, rfl, e2, s3, L, lF, all⟩
      have hi : i < n := hi
      have e0 : (0 : Int) + (i : Int) = (i : Int) := by omega
      rw [e0]
      refine ⟨.int i, rfl, .ref p, rfl, p, valV (kvF F) (.inl (i : Int)), rfl, DGet.k (k := .inl (i : Int)) e2, _, rfl, ?_⟩
      by_cases hin : i ∈ Wg.keys F
      · obtain ⟨x, hx⟩ := Wg.mem_keys.mp hin
        rw [kvF_val L.nd hx]
        refine iteF ⟨_, F, rfl, e2, s3, L, lF, fun j hj => ?_⟩
        by_cases z : j = i
        · exact z ▸ hin
        · exact all j (by omega)
      · rw [kvF_none hin]
        refine iteT ⟨.ref p, rfl, (.inr (.inr (.inl ⟨rfl, .inl ⟨_, e2⟩⟩))), .ref a, rfl, .int i, rfl, a, rows, n, i, d, rfl, hT.same s3, O, D, hi, fun o f' H3 s4 o0 e3 lot => ?_⟩
        have L' := L.add nz lot hin
        have ne : p ≠ o := fun z => by
          rw [z, o0] at e2
          cases e2
        have lk : (kvF F).length + (kvF f').length ≤ n := by
          have := lots_len L'
          rw [List.length_append] at this
          unfold kvF
          rw [List.length_map, List.length_map]
          exact this
        refine ⟨p, o, kvF F, kvF f', rfl, rfl, ne, s4 _ _ e2, e3, Nat.le_of_lt (small1000 (by omega)), ?_⟩
        rw [kvF_merge (L.apart nz lot hin) lot.nd]
        refine ⟨_, F ++ f', rfl, upd_same, Same.updN (s3.trans s4) hp, L', lots_len L', fun j hj => ?_⟩
        unfold Wg.keys
        rw [List.map_append]
        by_cases z : j = i
        · exact List.mem_append.mpr (.inr (z ▸ lot.fs))
        · exact List.mem_append.mpr (.inl (all j (by omega)))
    · rintro σ H2 ⟨y2, F, rfl, e2, s3, L, lF, all⟩
      have Wtt := L.wt (fun i hi => all i hi) D.pos D.ev
      refine ⟨.ref a, rfl, a, rows, n, rfl, hT.same s3, by omega, O.wide, n, rfl, by omega, by omega, fun D' eD => ?_⟩
      have hD : H D' = none := by
        cases z : H D' with
        | none => rfl
        | some o =>
          rw [s3 _ _ z] at eD
          cases eD
      have pD : p ≠ D' := fun z => by
        rw [z, eD] at e2
        cases e2
      refine lc_range (fun j H' => H' D' = some (.lst ((List.range j).map fun i => V.int (Wg.valAt F i))) ∧ Same H H' ∧ H' p = some (.dK (kvF F))) ⟨upd_same, Same.updN s3 hD, by rw [upd_ne pD]; exact e2⟩ ?_ ?_
      · rintro j H3 hj ⟨e3, s4, e4⟩
        have hj : j < n := hj
        have e0 : (0 : Int) + (j : Int) = (j : Int) := by omega
        rw [e0]
        obtain ⟨x, hx⟩ := Wg.mem_keys.mp (all j hj)
        have hv : valV (kvF F) (.inl (j : Int)) = some (.int (Wg.valAt F j)) := by
          rw [Wg.valAt_of L.nd hx]
          exact kvF_val L.nd hx
        have dg := DGet.k (k := .inl (j : Int)) e4
        rw [hv] at dg
        refine ⟨rfl, .ref p, rfl, .int j, rfl, p, _, rfl, dg, _, e3, by rw [List.length_map, List.length_range]; exact small1000 (by omega), ?_, Same.updN s4 hD, by rw [upd_ne pD]; exact e4⟩
        rw [upd_same, List.range_succ, List.map_append]
        rfl
      · rintro H3 ⟨e3, s4, e4⟩
        refine ⟨D', _, rfl, .inl ⟨SqL.of e3, fun b eb => ?_⟩⟩
        exact q b (Wg.valAt F) _ (s4.trans (same_upd eb)) upd_same Wtt
end
end Bw
set_option Elab.async false
set_option linter.all false
set_option maxRecDepth 100000
set_option maxHeartbeats 2000000
/-! ### dict comprehensions over any walk; a while by a measure that the invariant tells -/
namespace L2
open PySem PySem.Spec PyProof.Rows
theorem dc_it {J : It} {n : Nat} {G : Hp → Prop} {Y : Nat → Hp → V → Hp → Prop} (w : Walk J n G Y) {g : TG} {tt : TT} {tk tv : TE} {vs : List Nat} {σ : St} {H1 : Hp} {D : Addr} {Qd : Hp → Prop} (Pv : Nat → Hp → Prop) (h0 : Pv 0 (upd H1 D (.dK []))) (hG : ∀ i H, i ≤ n → Pv i H → G H)
    (hs : ∀ i x H H', i < n → Pv i H → Y i H x H' → g x (wipe σ vs) H' fun σ2 H2 => wipe σ2 vs = wipe σ vs ∧ tt σ2 H2 fun b H3 =>
      if b = true then tk σ2 H3 fun y H4 => tv σ2 H4 fun z H5 => ∃ kvs k, y = kV k ∧ H5 D = some (.dK kvs) ∧ kvs.length < sizeLine ∧ Pv (i + 1) (upd H5 D (.dK (putK kvs k z))) else Pv (i + 1) H3) (hd : ∀ H, Pv n H → Qd H) :
    ∃ W : Nat → Nat → Hp → Prop, (∃ m, W 0 m (upd H1 D (.dK []))) ∧ ∀ i m H, W i m H →
      (J.stop i H ∧ Qd H) ∨ (J.go i H ∧ ∃ Nx : Hp → Prop, (∀ H', Nx H' → ∃ m', m' < m ∧ W (i + 1) m' H') ∧ ∀ x H', J.yld i H x H' → g x (wipe σ vs) H' fun σ2 H2 => wipe σ2 vs = wipe σ vs ∧ tt σ2 H2 fun b H3 =>
        if b = true then tk σ2 H3 fun y H4 => tv σ2 H4 fun z H5 => ∃ kvs k, y = kV k ∧ H5 D = some (.dK kvs) ∧ kvs.length < sizeLine ∧ Nx (upd H5 D (.dK (putK kvs k z))) else Nx H3) := by
  refine ⟨fun i m H => m = n - i ∧ i ≤ n ∧ Pv i H, ⟨n, by simp, Nat.zero_le _, h0⟩, ?_⟩
  rintro i m H ⟨rfl, hi, p⟩
  have q := hG i H hi p
  by_cases hlt : i < n
  · exact .inr ⟨w.goes i H hlt q, Pv (i + 1), fun H' p' => ⟨n - (i + 1), by omega, rfl, hlt, p'⟩, fun x H' y => hs i x H H' hlt p (w.yields i H x H' hlt q y)⟩
  · have e : i = n := by omega
    subst e
    exact .inl ⟨w.stops H q, hd H p⟩
theorem while_m {c : TT} {tb : TS} {D : Ends} {σ : St} {H : Hp} (Pv : Nat → St → Hp → Prop) {m0 : Nat} (h0 : Pv m0 σ H)
    (hs : ∀ m σ H, Pv m σ H → c σ H fun b H1 => if b = true then tb { D with nx := fun σ' H' => ∃ m', m' < m ∧ Pv m' σ' H', ct := fun σ' H' => ∃ m', m' < m ∧ Pv m' σ' H', bk := D.nx } σ H1 else D.nx σ H1)
    (mono : ∀ σ H Q Q', (∀ b H1, Q b H1 → Q' b H1) → c σ H Q → c σ H Q') : tWhile c tb D σ H := by
  refine ⟨Pv, ⟨_, h0⟩, ?_⟩
  rintro m σ H p
  refine mono σ H _ _ (fun b H1 q => ?_) (hs m σ H p)
  cases b with
  | true => exact ⟨_, fun σ' H' k => k, q⟩
  | false => exact q
theorem DGet.kf {H : Hp} {a : Addr} {od : Obj} {kvs : List (Key × V)} {k : Key} (e : H a = some (.frz od (.dK kvs))) : DGet H a (kV k) (valV kvs k) := .inl ⟨kvs, k, .inr ⟨od, e⟩, rfl, rfl⟩
end L2
set_option Elab.async false
set_option linter.all false
set_option maxRecDepth 100000
set_option maxHeartbeats 4000000
namespace Bw
open PySem PySem.Spec PyProof.Rows L2
/-! ### a dict of weights, mapped -/
theorem kvF_get {f : List (Nat × Nat)} {k : Nat} {kk : Key} {v : V} (e : (kvF f)[k]? = some (kk, v)) : ∃ x y : Nat, f[k]? = some (x, y) ∧ kk = .inl (x : Int) ∧ v = .int y := by
  unfold kvF at e
  rw [List.getElem?_map] at e
  cases z : f[k]? with
  | none =>
    rw [z] at e
    cases e
  | some p =>
    rw [z] at e
    cases e
    exact ⟨p.1, p.2, rfl, rfl, rfl⟩
theorem kvF_len (f : List (Nat × Nat)) : (kvF f).length = f.length := List.length_map ..
theorem kvF_put {F : List (Nat × Nat)} {i x : Nat} (h : i ∉ Wg.keys F) : putK (kvF F) (.inl (i : Int)) (.int x) = kvF (F ++ [(i, x)]) := by
  rw [putK_fresh]
  · unfold kvF
    rw [List.map_append]
    rfl
  · intro q hq z
    obtain ⟨q', hq', rfl⟩ := List.mem_map.mp hq
    have e : (q'.1 : Int) = i := Sum.inl.inj z
    have e : q'.1 = i := by omega
    exact h (e ▸ Wg.mem_keys.mpr ⟨q'.2, hq'⟩)
theorem mapF_fresh {f : List (Nat × Nat)} {k x y : Nat} (h : Nat × Nat → Nat) (nd : (Wg.keys f).Nodup) (e : f[k]? = some (x, y)) : x ∉ Wg.keys ((f.take k).map fun p => (p.1, h p)) := by
  intro z
  have e1 : Wg.keys ((f.take k).map fun p => (p.1, h p)) = (Wg.keys f).take k := by
    unfold Wg.keys
    rw [List.map_map, List.map_take]
    rfl
  rw [e1] at z
  have e2 : (Wg.keys f)[k]? = some x := by
    unfold Wg.keys
    rw [List.getElem?_map, e]
    rfl
  obtain ⟨j, hj⟩ := List.mem_iff_getElem?.mp z
  rw [List.getElem?_take] at hj
  split at hj
  · rename_i hlt
    have := (List.getElem?_inj (List.getElem?_eq_some_iff.mp e2).1 nd).mp (e2.trans hj.symm)
    omega
  · cases hj
theorem mapF_succ {f : List (Nat × Nat)} {k x y : Nat} (h : Nat × Nat → Nat) (e : f[k]? = some (x, y)) : (f.take (k + 1)).map (fun p => (p.1, h p)) = (f.take k).map (fun p => (p.1, h p)) ++ [(x, h (x, y))] := by
  rw [List.take_add_one, e, List.map_append]
  rfl
theorem absN (e : Int) : (if e < 0 then -e else e) = (e.natAbs : Int) := by omega
theorem ringV_push (l : List Nat) (j : Nat) : ringV l ++ [V.int (j : Nat)] = ringV (l ++ [j]) := by
  unfold ringV
  rw [List.map_append]
  rfl
theorem LI_pop {n : Nat} {b : Nat → Nat → Int} {d : Nat → Nat} {r : Nat} {f : List (Nat × Nat)} {wt : List Nat} {i : Nat} (h : Wg.LI n b d r f (wt ++ [i])) : Wg.LI n b d r f wt := ⟨h.nd, h.lt, h.pos, h.bd, h.pr, h.td, h.fs, fun k hk => h.wk k (List.mem_append.mpr (.inl hk))⟩
theorem LI_len {n : Nat} {b : Nat → Nat → Int} {d : Nat → Nat} {r : Nat} {f : List (Nat × Nat)} {wt : List Nat} (h : Wg.LI n b d r f wt) : f.length ≤ n := by
  have := nodup_len n (Wg.keys f) h.nd fun x hx => by
    obtain ⟨y, hy⟩ := Wg.mem_keys.mp hx
    exact h.lt _ hy
  unfold Wg.keys at this
  rw [List.length_map] at this
  exact this
theorem LI_bd {n : Nat} {b : Nat → Nat → Int} {d : Nat → Nat} {r : Nat} {f : List (Nat × Nat)} {wt : List Nat} (h : Wg.LI n b d r f wt) (n4 : n ≤ 4) {p : Nat × Nat} (hp : p ∈ f) : p.2 ≤ 125000 := by
  have h1 := h.bd p hp
  have h2 := LI_len h
  have : 50 ^ (f.length - 1) ≤ 50 ^ 3 := Nat.pow_le_pow_right (by decide) (by omega)
  omega
section
variable {P : Program} {w : World} {K : PySem.W.Frag} {mg : Str → Option Value} {base : Heap}
abbrev s_lot_weights : Stmt := topS 41
abbrev n_lot_weights : List Str := ["table", "first", "found", "waiting", "i", "j", "weight", "bud", "shared"]
theorem sc_lot_weights : FnScope n_lot_weights ["table", "first"] (defScope s_lot_weights) := ⟨rfl, rfl, rfl, by decide +kernel, rfl, by decide +kernel, by decide +kernel⟩
theorem ok_lot {f : Addr} {fd : FuncData} (F : Fun K "lot_weights" "lot_weights" s_lot_weights f fd) (T : Tx mg) (c_bud_count : Cal P w K mg base CX0 1 "bud_count" ["table"] spBuds) (c_common : Cal P w K mg base CX0 1 "common" ["one", "other"] spGcd) : FnOk P w K mg base CX0 3 f fd ["table", "first"] spLot := by
  refine F.ok sc_lot_weights (fun vs H Q E h => ?_) (fun cdv A outer s H vs Q E hr h => ?_)
  · obtain ⟨a, rows, n, r, d, rfl, _⟩ := h
    rfl
  · obtain ⟨a, rows, n, r, d, rfl, hT, O, D, hrn, q⟩ := h
    have hu1 : (A.deeper (envOfC "lot_weights" (defScope s_lot_weights) s.heap.objs.size f cdv)).units + 1 < cLine := Nat.lt_of_le_of_lt (Nat.add_le_add_left (by decide) _) hr.units
    have hr1 := hr.mono (show 1 ≤ 2 by decide)
    refine ⟨_, (pss_cons (ps_set (i := 2) sc_lot_weights.nd rfl (.inr rfl) (pe_disp (pps_cons (pv 1) pe_int pps_nil) rfl rfl (by simp) (by decide)))
  (pss_cons (ps_set (i := 3) sc_lot_weights.nd rfl (.inl rfl) (pe_lst (pa_cons (pv 1) pa_nil)))
  (pss_cons (ps_while PassesOwn.never (pt_truth (pv 3) (by intro _; rfl))
    (pss_cons (ps_set (i := 4) sc_lot_weights.nd rfl (.inr rfl) (pe_bm0 PySem.F.plainAttrs_list PySem.F.slot_list_pop PySem.F.type_list_pop mt_pop (pv 3)))
    (pss_one (ps_for PassesOwn.never rfl (pi_range1 (by rfl) T.range (pa_cons (pe_cal c_bud_count hr1 (by rfl) (pa_cons (pv 0) pa_nil)) pa_nil)) (pg_name (i := 5) sc_lot_weights.nd rfl (.inr rfl))
      (pss_one (ps_if (PW.pt (pw_and (pt_cmpR op_ne (pe_ix (i_tup (K := K)) (pe_ix (i_tup (K := K)) (pv 0) (pv 4) (fun _ _ => rfl)) (pv 5) (fun _ _ => rfl)) pe_int (nomark _)) (pw_and1 (pt_cmp (pc_dnotin hu1 (pv 5) (pv 2))))))
        (pss_cons (ps_set (i := 6) sc_lot_weights.nd rfl (.inl rfl) (pe_op op_mul (pe_dget hu1 (pv 2) (pv 4) (fun _ _ => rfl)) (pe_callB call_abs (by rfl) T.abs (by decide +kernel) (pa_cons (pe_ix (i_tup (K := K)) (pe_ix (i_tup (K := K)) (pv 0) (pv 4) (fun _ _ => rfl)) (pv 5) (fun _ _ => rfl)) pa_nil))))
        (pss_cons (ps_set (i := 2) sc_lot_weights.nd rfl (.inr rfl) (pe_lock (pe_dc (own := [("bud", 7)]) (by rfl) sc_lot_weights.nd (pi_keys (pv 2)) (blkOk_by (own := [("bud", 7)]) (N := n_lot_weights) (sc := defScope s_lot_weights) (by decide +kernel)) (fun _ _ _ _ _ => (pg_name (i := 7) sc_lot_weights.nd rfl (.inl rfl))) (fun _ _ _ _ _ => pts_nil) (fun _ _ _ _ _ => pv 7) (fun _ _ _ _ _ => (pe_op op_mul (pe_dget hu1 (pv 2) (pv 7) (fun _ _ => rfl)) (pe_callB call_abs (by rfl) T.abs (by decide +kernel) (pa_cons (pe_ix (i_tup (K := K)) (pe_ix (i_tup (K := K)) (pv 0) (pv 5) (fun _ _ => rfl)) (pv 4) (fun _ _ => rfl)) pa_nil)))))))
        (pss_cons (ps_dput hu1 (pv 2) (pv 5) (pv 6) rfl)
        (pss_one (ps_expr (pe_bm PySem.F.plainAttrs_list PySem.F.slot_list_append PySem.F.type_list_append mt_append (pv 3) (pa_cons (pv 5) pa_nil)))))))
        pss_nil))))))
  (pss_cons (ps_set (i := 8) sc_lot_weights.nd rfl (.inr rfl) pe_int)
  (pss_cons (ps_lock (ps_for PassesOwn.never rfl (pi_keys (pv 2)) (pg_name (i := 7) sc_lot_weights.nd rfl (.inl rfl))
    (pss_one (ps_set (i := 8) sc_lot_weights.nd rfl (.inr rfl) (pe_cal c_common hr1 (by rfl) (pa_cons (pv 8) (pa_cons (pe_dget hu1 (pv 2) (pv 7) (fun _ _ => rfl)) pa_nil)))))))
  (pss_one (ps_ret (pe_lock (pe_dc (own := [("bud", 7)]) (by rfl) sc_lot_weights.nd (pi_keys (pv 2)) (blkOk_by (own := [("bud", 7)]) (N := n_lot_weights) (sc := defScope s_lot_weights) (by decide +kernel)) (fun _ _ _ _ _ => (pg_name (i := 7) sc_lot_weights.nd rfl (.inl rfl))) (fun _ _ _ _ _ => pts_nil) (fun _ _ _ _ _ => pv 7) (fun _ _ _ _ _ => (pe_op op_fdiv (pe_dget hu1 (pv 2) (pv 7) (fun _ _ => rfl)) (pv 8)))))))))))), ?_⟩
    have n1 := O.n1
    have n4 := O.n4
    have ln := O.len
    have evN : ∀ i j, i < n → j < n → d i * (ent rows i j).natAbs = d j * (ent rows j i).natAbs := fun i j hi hj => by
      have e := congrArg Int.natAbs (D.ev i j hi hj)
      rw [Int.natAbs_neg, Int.natAbs_mul, Int.natAbs_mul, Int.natAbs_natCast, Int.natAbs_natCast] at e
      exact e
    have bdN : ∀ i j, i < n → j < n → (ent rows i j).natAbs ≤ 50 := fun i j hi hj => by
      have := ent_bd O (i := i) (j := j) (by omega) hj
      omega
    -- {first: 1}
    intro p0 ep0
    refine ⟨.int r, rfl, upd_same, [(.inl (r : Int), .int 1)], rfl, by show 1 ≤ 15; decide, ?_⟩
    rw [upd_upd]
    refine ⟨.int r, rfl, by show 1 ≤ sizeLine; decide, fun q0 eq0 => ?_⟩
    have npq : p0 ≠ q0 := fun z => by
      rw [← z, upd_same] at eq0
      cases eq0
    have hq0 : H q0 = none := by
      rw [upd_ne (Ne.symm npq)] at eq0
      exact eq0
    have em : mergeK [] [(.inl (r : Int), V.int 1)] = kvF [(r, 1)] := rfl
    rw [em]
    dsimp only [gName]
    show tSeq (tWhile _ _) _ _ _ _
    unfold tSeq
    refine while_m (fun m σ H' => ∃ (p q : Addr) (f : List (Nat × Nat)) (wt : List Nat) (y4 y5 y6 y7 y8 : Option V), σ = [some (.ref a), some (.int r), some (.ref p), some (.ref q), y4, y5, y6, y7, y8] ∧ Same H H' ∧ H p = none ∧ H q = none ∧ p ≠ q ∧ H' p = some (.dK (kvF f)) ∧ H' q = some (.lst (ringV wt)) ∧ Wg.LI n (ent rows) d r f wt ∧ Wg.Cl n (ent rows) f wt ∧ m = 2 * (n - f.length) + wt.length ∧ m ≤ 8)
      (m0 := 2 * (n - 1) + 1) ⟨p0, q0, [(r, 1)], [r], none, none, none, none, none, rfl, Same.updN (same_upd ep0) hq0, ep0, hq0, npq, by rw [upd_ne npq, upd_same], upd_same, (Wg.LI.start hrn).1, (Wg.LI.start (d := d) hrn).2, rfl, by omega⟩ ?_ ?_
    · rintro m σ H1 ⟨p, q1, f, wt, y4, y5, y6, y7, y8, rfl, s1, hp, hq, ne, e1, e2, L, C, em, m8⟩
      refine ⟨.ref q1, rfl, _, .inl ⟨_, SqL.of e2, rfl⟩, ?_⟩
      rcases List.eq_nil_or_concat wt with z | ⟨wt', i, z⟩
      · subst z
        refine iteF ?_
        have LL := L
        have lf := LI_len L
        -- shared = 0
        refine ⟨p, _, e1, True.intro, fun od => ?_⟩
        refine ⟨.ref p, rfl, p, od, rfl, .inl ⟨_, upd_same, ?_⟩⟩
        refine for_it walk_keys (fun k σ H' => ∃ (y7 : Option V), σ = [some (.ref a), some (.int r), some (.ref p), some (.ref q1), y4, y5, y6, y7, some (.int (Wg.gcds (f.take k) 0 : Nat))] ∧ H' = upd H1 p (.frz od (.dK (kvF f)))) ⟨_, rfl, rfl⟩ (fun k σ H' _ ⟨_, _, e⟩ => by rw [e, upd_same]) ?_ ?_
        · rintro k x σ H3 H4 hk ⟨y7', rfl, rfl⟩ ⟨rfl, kk, v, ek, rfl⟩
          obtain ⟨y, z, ey, rfl, rfl⟩ := kvF_get ek
          have hyz : (y, z) ∈ f := List.mem_of_getElem? ey
          have dg : DGet (upd H1 p (.frz od (.dK (kvF f)))) p (.int (y : Int)) (some (.int (z : Int))) := by
            have := DGet.kf (k := .inl (y : Int)) (show (upd H1 p (.frz od (.dK (kvF f)))) p = some (.frz od (.dK (kvF f))) from upd_same)
            rw [kvF_val L.nd hyz] at this
            exact this
          refine ⟨_, rfl, .ref p, rfl, .int y, rfl, p, _, rfl, dg, _, z, rfl, ?_⟩
          refine ⟨some (.int y), ?_, rfl⟩
          have eg : Wg.gcds (f.take (k + 1)) 0 = Nat.gcd (Wg.gcds (f.take k) 0) z := by
            unfold Wg.gcds
            rw [List.take_add_one, ey, List.foldl_append]
            rfl
          rw [eg]
          rfl
        · rintro σ H3 ⟨y7', rfl, rfl⟩
          refine ⟨upd_same, ?_⟩
          rw [kvF_len, List.take_length, upd_upd]
          have e1u : upd H1 p (.dK (kvF f)) p = some (.dK (kvF f)) := upd_same
          have gd := Wg.gcds_dvd f 0
          obtain ⟨x0, hx0⟩ := Wg.mem_keys.mp L.fs
          have g0 : 0 < Wg.gcds f 0 := Nat.pos_of_dvd_of_pos (gd.2 _ hx0) (L.pos _ hx0)
          have g1 : Wg.gcds f 0 ≤ 125000 := Nat.le_trans (Nat.le_of_dvd (L.pos _ hx0) (gd.2 _ hx0)) (LI_bd L n4 hx0)
          refine ⟨p, _, e1u, True.intro, fun od2 => ?_⟩
          rw [upd_upd]
          refine ⟨.ref p, rfl, p, od2, rfl, .inl ⟨_, upd_same, fun Dn eDn => ?_⟩⟩
          have nDp : Dn ≠ p := fun z => by
            rw [z, upd_same] at eDn
            cases eDn
          have hDn : H Dn = none := by
            rw [upd_ne nDp] at eDn
            cases z : H Dn with
            | none => rfl
            | some o =>
              rw [s1 _ _ z] at eDn
              cases eDn
          refine dc_it walk_keys (fun k H' => H' = upd (upd H1 p (.frz od2 (.dK (kvF f)))) Dn (.dK (kvF ((f.take k).map fun z => (z.1, z.2 / Wg.gcds f 0))))) rfl (fun k H' _ e => by rw [e, upd_ne nDp.symm, upd_same]) ?_ ?_
          · rintro k x H3 H4 hk rfl ⟨rfl, kk, v, ek, rfl⟩
            obtain ⟨y, z, ey, rfl, rfl⟩ := kvF_get ek
            have hyz : (y, z) ∈ f := List.mem_of_getElem? ey
            have dg : ∀ L', DGet (upd (upd H1 p (.frz od2 (.dK (kvF f)))) Dn (.dK L')) p (.int (y : Int)) (some (.int (z : Int))) := fun L' => by
              have := DGet.kf (k := .inl (y : Int)) (show (upd (upd H1 p (.frz od2 (.dK (kvF f)))) Dn (.dK L')) p = some (.frz od2 (.dK (kvF f))) by rw [upd_ne nDp.symm, upd_same])
              rw [kvF_val L.nd hyz] at this
              exact this
            refine ⟨rfl, .int y, rfl, .ref p, rfl, .int y, rfl, p, _, rfl, dg _, _, rfl, _, _, rfl, rfl, ⟨by show (0 : Int) < (Wg.gcds f 0 : Nat); omega, by show ((Wg.gcds f 0 : Nat) : Int) < 1073741824; omega⟩, _, .inl (y : Int), rfl, upd_same, ?_, ?_⟩
            · rw [kvF_len, List.length_map, List.length_take]
              exact small1000 (by omega)
            · rw [upd_upd]
              show upd _ Dn (.dK (putK _ _ (.int ((z / Wg.gcds f 0 : Nat) : Int)))) = _
              rw [kvF_put (mapF_fresh (fun z => z.2 / Wg.gcds f 0) L.nd ey), mapF_succ (fun z => z.2 / Wg.gcds f 0) ey]
          · rintro H3 rfl
            refine ⟨by rw [upd_ne nDp.symm, upd_same], ?_⟩
            rw [kvF_len, List.take_length]
            exact q Dn (Wg.divF f (Wg.gcds f 0)) _ (Same.updN (Same.updN (Same.updN s1 hp) hDn) hp) hDn (by rw [upd_ne nDp, upd_same]; rfl) (L.lot C)
      · subst z
        rw [List.concat_eq_append] at *
        have ne0 : (!(ringV (wt' ++ [i])).isEmpty) = true := by
          unfold ringV
          rw [List.map_append]
          cases wt' <;> rfl
        rw [ne0]
        have hi : i ∈ Wg.keys f := L.wk i (List.mem_append.mpr (.inr (List.mem_singleton.mpr rfl)))
        have hin : i < n := by
          obtain ⟨y, hy⟩ := Wg.mem_keys.mp hi
          exact L.lt _ hy
        refine iteT ⟨.ref q1, rfl, .inl ⟨rfl, _, SqL.of e2⟩, q1, _, .int i, rfl, rfl, e2, ?_, ?_⟩
        · unfold ringV
          rw [List.length_map, List.length_append, List.getElem?_map, List.getElem?_append]
          simp
        have ed : (ringV (wt' ++ [i])).dropLast = ringV wt' := by
          unfold ringV
          rw [List.map_append]
          exact List.dropLast_concat
        rw [ed]
        refine ⟨.ref a, rfl, a, rows, n, rfl, hT.same (Same.updN s1 hq), by omega, O.wide, n, rfl, by omega, by omega, ?_⟩
        have hq2 : Same H (upd H1 q1 (.lst (ringV wt'))) := Same.updN s1 hq
        refine for_range (fun j σ H2 => ∃ (p : Addr) (f : List (Nat × Nat)) (wt : List Nat) (y5 y6 y7 y8 : Option V), σ = [some (.ref a), some (.int r), some (.ref p), some (.ref q1), some (.int i), y5, y6, y7, y8] ∧ Same H H2 ∧ H p = none ∧ p ≠ q1 ∧ H2 p = some (.dK (kvF f)) ∧ H2 q1 = some (.lst (ringV wt)) ∧ Wg.LI n (ent rows) d r f wt ∧ Wg.ClI n (ent rows) f wt i j ∧ i ∈ Wg.keys f ∧ 2 * (n - f.length) + wt.length < m)
          ⟨p, f, wt', y5, y6, y7, y8, rfl, hq2, hp, ne, by rw [upd_ne ne]; exact e1, upd_same, LI_pop L, C.pop, hi, by rw [em, List.length_append, List.length_singleton]; omega⟩ ?_ ?_
        · rintro j σ H2 hj ⟨p2, f2, wt2, y5, y6, y7, y8, rfl, s2, hp2, ne2, g1, g2, LL, C2, hi2, hm⟩
          have hj : j < n := hj
          have e0 : (0 : Int) + (j : Int) = (j : Int) := by omega
          rw [e0]
          obtain ⟨x, hx⟩ := Wg.mem_keys.mp hi2
          obtain ⟨as1, b, t1, t2, t3⟩ := (hT.same s2).row (i := i) (by omega)
          have x1 := ent_get O.wide (i := i) (j := j) (by omega) hj
          have bx := LI_bd LL n4 hx
          have lf := LI_len LL
          refine ⟨.ref a, rfl, .int i, rfl, a, _, _, .ref b, rfl, rfl, SqT.of t1, atI_nat t2, .int j, rfl, b, _, _, .int (ent rows i j), rfl, rfl, SqT.of t3, atI_nat x1, rfl, _, rfl, ?_⟩
          by_cases hz : ent rows i j = 0
          · rw [decide_eq_true (show V.int (ent rows i j) = V.int 0 by rw [hz])]
            exact iteF (iteF ⟨p2, f2, wt2, _, _, _, _, rfl, s2, hp2, ne2, g1, g2, LL, C2.skip (.inl hz), hi2, hm⟩)
          · rw [decide_eq_false (fun z : V.int (ent rows i j) = V.int 0 => hz (by injection z))]
            refine iteT ⟨.int j, rfl, .ref p2, rfl, p2, valV (kvF f2) (.inl (j : Int)), rfl, DGet.k (k := .inl (j : Int)) g1, _, rfl, ?_⟩
            by_cases hin2 : j ∈ Wg.keys f2
            · obtain ⟨xj, hxj⟩ := Wg.mem_keys.mp hin2
              rw [kvF_val LL.nd hxj]
              exact iteF ⟨p2, f2, wt2, _, _, _, _, rfl, s2, hp2, ne2, g1, g2, LL, C2.skip (.inr hin2), hi2, hm⟩
            · rw [kvF_none hin2]
              have dg : DGet H2 p2 (.int (i : Int)) (some (.int (x : Int))) := by
                have := DGet.k (k := .inl (i : Int)) g1
                rw [kvF_val LL.nd hx] at this
                exact this
              refine iteT ⟨.ref p2, rfl, .int i, rfl, p2, _, rfl, dg, .ref a, rfl, .int i, rfl, a, _, _, .ref b, rfl, rfl, SqT.of t1, atI_nat t2, .int j, rfl, b, _, _, .int (ent rows i j), rfl, rfl, SqT.of t3, atI_nat x1, _, rfl, _, _, rfl, rfl, .inl ⟨by omega, by omega⟩, ?_⟩
              rw [absN]
              refine ⟨p2, _, g1, True.intro, fun od => ?_⟩
              refine ⟨.ref p2, rfl, p2, od, rfl, .inl ⟨_, upd_same, fun Dn eDn => ?_⟩⟩
              have nDp : Dn ≠ p2 := fun z => by
                rw [z, upd_same] at eDn
                cases eDn
              have hDn2 : H2 Dn = none := by
                rw [upd_ne nDp] at eDn
                exact eDn
              have nDq : Dn ≠ q1 := fun z => by
                rw [z, g2] at hDn2
                cases hDn2
              have hDn : H Dn = none := by
                cases z : H Dn with
                | none => rfl
                | some o =>
                  rw [s2 _ _ z] at hDn2
                  cases hDn2
              refine dc_it walk_keys (fun k H' => H' = upd (upd H2 p2 (.frz od (.dK (kvF f2)))) Dn (.dK (kvF ((f2.take k).map fun z => (z.1, z.2 * (ent rows j i).natAbs))))) rfl (fun k H' _ e => by rw [e, upd_ne nDp.symm, upd_same]) ?_ ?_
              · rintro k x' H3 H4 hk rfl ⟨rfl, kk, v, ek, rfl⟩
                obtain ⟨y, z, ey, rfl, rfl⟩ := kvF_get ek
                have hyz : (y, z) ∈ f2 := List.mem_of_getElem? ey
                have bz := LI_bd LL n4 hyz
                have dg : ∀ L', DGet (upd (upd H2 p2 (.frz od (.dK (kvF f2)))) Dn (.dK L')) p2 (.int (y : Int)) (some (.int (z : Int))) := fun L' => by
                  have := DGet.kf (k := .inl (y : Int)) (show (upd (upd H2 p2 (.frz od (.dK (kvF f2)))) Dn (.dK L')) p2 = some (.frz od (.dK (kvF f2))) by rw [upd_ne nDp.symm, upd_same])
                  rw [kvF_val LL.nd hyz] at this
                  exact this
                have sD : ∀ L', Same H (upd (upd H2 p2 (.frz od (.dK (kvF f2)))) Dn (.dK L')) := fun L' => Same.updN (Same.updN s2 hp2) hDn
                obtain ⟨as2, c, k1, k2, k3⟩ := (hT.same (sD (kvF ((f2.take k).map fun z => (z.1, z.2 * (ent rows j i).natAbs))))).row (i := j) (by omega)
                have x3 := ent_get O.wide (i := j) (j := i) (by omega) hin
                refine ⟨rfl, .int y, rfl, .ref p2, rfl, .int y, rfl, p2, _, rfl, dg _, .ref a, rfl, .int j, rfl, a, _, _, .ref c, rfl, rfl, SqT.of k1, atI_nat k2, .int i, rfl, c, _, _, .int (ent rows j i), rfl, rfl, SqT.of k3, atI_nat x3, _, rfl, _, _, rfl, rfl, .inl ⟨by omega, by omega⟩, _, .inl (y : Int), rfl, upd_same, ?_, ?_⟩
                · rw [kvF_len, List.length_map, List.length_take]
                  exact small1000 (by omega)
                · rw [upd_upd, absN]
                  show upd _ Dn (.dK (putK _ _ (.int ((z * (ent rows j i).natAbs : Nat) : Int)))) = _
                  rw [kvF_put (mapF_fresh (fun z => z.2 * (ent rows j i).natAbs) LL.nd ey), mapF_succ (fun z => z.2 * (ent rows j i).natAbs) ey]
              · rintro H3 rfl
                refine ⟨by rw [upd_ne nDp.symm, upd_same], ?_⟩
                rw [kvF_len, List.take_length]
                have hDv : upd (upd (upd H2 p2 (.frz od (.dK (kvF f2)))) Dn (.dK (kvF (f2.map fun z => (z.1, z.2 * (ent rows j i).natAbs))))) p2 (.dK (kvF f2)) Dn = some (.dK (kvF (f2.map fun z => (z.1, z.2 * (ent rows j i).natAbs)))) := by rw [upd_ne nDp, upd_same]
                have nk : j ∉ Wg.keys (f2.map fun z => (z.1, z.2 * (ent rows j i).natAbs)) := by
                  have : Wg.keys (f2.map fun z => (z.1, z.2 * (ent rows j i).natAbs)) = Wg.keys f2 := by
                    unfold Wg.keys
                    rw [List.map_map]
                    rfl
                  rw [this]
                  exact hin2
                refine ⟨_, rfl, .ref Dn, rfl, .int j, rfl, Dn, _, rfl, DPut.k (k := .inl (j : Int)) hDv (by rw [kvF_len, List.length_map]; exact small1000 (by omega)), ?_⟩
                have LG := LL.grow hx hj hz hin2 D.pos evN bdN
                have lg := LI_len LG
                have lgf : (Wg.growF (ent rows) f2 i j x).length = f2.length + 1 := by
                  unfold Wg.growF
                  rw [List.length_append, List.length_map]
                  rfl
                have eg : putK (kvF (f2.map fun z => (z.1, z.2 * (ent rows j i).natAbs))) (.inl (j : Int)) (.int ((x : Int) * ((ent rows i j).natAbs : Int))) = kvF (Wg.growF (ent rows) f2 i j x) := by
                  show putK _ _ (.int ((x * (ent rows i j).natAbs : Nat) : Int)) = _
                  rw [kvF_put nk]
                  rfl
                rw [eg]
                generalize hH5 : upd (upd (upd H2 p2 (.frz od (.dK (kvF f2)))) Dn (.dK (kvF (f2.map fun z => (z.1, z.2 * (ent rows j i).natAbs))))) p2 (.dK (kvF f2)) = H5
                have g2' : upd H5 Dn (.dK (kvF (Wg.growF (ent rows) f2 i j x))) q1 = some (.lst (ringV wt2)) := by
                  rw [← hH5, upd_ne nDq.symm, upd_ne ne2.symm, upd_ne nDq.symm, upd_ne ne2.symm]
                  exact g2
                have s5 : Same H H5 := by
                  rw [← hH5]
                  exact Same.updN (Same.updN (Same.updN s2 hp2) hDn) hp2
                refine ⟨.ref q1, rfl, .inl ⟨rfl, _, SqL.of g2'⟩, .int j, rfl, q1, _, _, rfl, rfl, g2', by unfold ringV; rw [List.length_map]; exact small1000 (by omega), ?_⟩
                rw [ringV_push]
                refine ⟨Dn, Wg.growF (ent rows) f2 i j x, wt2 ++ [j], _, _, _, _, rfl, Same.updN (Same.updN s5 hDn) hq, hDn, nDq, by rw [upd_ne nDq, upd_same], upd_same, LG, C2.grow, ?_, by rw [lgf, List.length_append, List.length_singleton]; omega⟩
                rw [Wg.keys_grow]
                exact List.mem_append.mpr (.inl hi2)
        · rintro σ H2 ⟨p2, f2, wt2, y5, y6, y7, y8, rfl, s2, hp2, ne2, g1, g2, LL, C2, hi2, hm⟩
          exact ⟨_, hm, p2, q1, f2, wt2, _, _, _, _, _, rfl, s2, hp2, hq, ne2, g1, g2, LL, C2.done, rfl, by omega⟩
    · rintro σ H' Q1 Q2 hq ⟨v, e, k, t, q1⟩
      exact ⟨v, e, k, t, hq _ _ q1⟩
end
end Bw
set_option Elab.async false
set_option linter.all false
set_option maxRecDepth 100000
set_option maxHeartbeats 4000000
namespace Bw
open PySem PySem.Spec PyProof.Rows L2
/-! ### a table that nothing bars is even -/
theorem unl1 {n i : Nat} (h : i < n) : [i] ∈ unl n 1 := List.mem_flatMap.mpr ⟨[], List.mem_singleton.mpr rfl, List.mem_map.mpr ⟨i, List.mem_filter.mpr ⟨List.mem_range.mpr h, rfl⟩, rfl⟩⟩
theorem unl_add {n m x : Nat} {g : List Nat} (hg : g ∈ unl n m) (h : x < n) (nx : x ∉ g) : g ++ [x] ∈ unl n (m + 1) := List.mem_flatMap.mpr ⟨g, hg, List.mem_map.mpr ⟨x, List.mem_filter.mpr ⟨List.mem_range.mpr h, by
  rw [Bool.not_eq_true', ← Bool.not_eq_true, List.contains_iff_mem]
  exact nx⟩, rfl⟩⟩
theorem unl3 {n i j k : Nat} (hi : i < n) (hj : j < n) (hk : k < n) (h1 : i ≠ j) (h2 : j ≠ k) (h3 : i ≠ k) : [i, j, k] ∈ unl n 3 :=
  unl_add (g := [i, j]) (unl_add (g := [i]) (unl1 hi) hj (by simp; omega)) hk (by simp; omega)
theorem unl4 {n i j k l : Nat} (hi : i < n) (hj : j < n) (hk : k < n) (hl : l < n) (h1 : i ≠ j) (h2 : i ≠ k) (h3 : i ≠ l) (h4 : j ≠ k) (h5 : j ≠ l) (h6 : k ≠ l) : [i, j, k, l] ∈ unl n 4 :=
  unl_add (g := [i, j, k]) (unl3 hi hj hk h1 h4 h2) hl (by simp; omega)
structure NoBar (rows : List (List Int)) (n : Nat) : Prop where
  p : ∀ i j, i < n → j < n → pairB rows i j = false
  r : ∀ g, g ∈ unl n 3 ++ unl n 4 → ringB rows g = false
theorem pairB_comm (rows : List (List Int)) (i j : Nat) : pairB rows i j = pairB rows j i := by
  unfold pairB
  rw [Bool.and_comm (decide (ent rows i j = 0)), Int.mul_comm]
theorem noBar {rows : List (List Int)} {n : Nat} (h : evenB rows n = true) : NoBar rows n := by
  have key : ∀ i j, i < n → j < n → i ≤ j → pairB rows i j = false := fun i j hi hj hl => by
    obtain ⟨k, rfl⟩ : ∃ k, j = i + k := ⟨j - i, by omega⟩
    cases e : pairB rows i (i + k) with
    | false => rfl
    | true => exact absurd ((evenB_pair hi (by omega) e).symm.trans h) (by decide)
  refine ⟨fun i j hi hj => ?_, fun g hg => ?_⟩
  · by_cases z : i ≤ j
    · exact key i j hi hj z
    · rw [pairB_comm]
      exact key j i hj hi (by omega)
  · cases e : ringB rows g with
    | false => rfl
    | true => exact absurd ((evenB_ring hg e).symm.trans h) (by decide)
theorem NoBar.pr {rows : List (List Int)} {n i j : Nat} (N : NoBar rows n) (hi : i < n) (hj : j < n) : (ent rows i j = 0 ∧ ent rows j i = 0) ∨ ent rows i j * ent rows j i < 0 := by
  have h := N.p i j hi hj
  unfold pairB at h
  by_cases z : ent rows i j = 0 ∧ ent rows j i = 0
  · exact .inl z
  · refine .inr ?_
    rw [← Bool.decide_and, decide_eq_false z] at h
    have h2 : decide (ent rows i j * ent rows j i ≥ 0) = false := by simpa using h
    have := of_decide_eq_false h2
    omega
theorem NoBar.r3 {rows : List (List Int)} {n i j k : Nat} (N : NoBar rows n) (hi : i < n) (hj : j < n) (hk : k < n) (h1 : i ≠ j) (h2 : j ≠ k) (h3 : i ≠ k) :
    (ent rows i j).natAbs * (ent rows j k).natAbs * (ent rows k i).natAbs = (ent rows j i).natAbs * (ent rows k j).natAbs * (ent rows i k).natAbs := by
  have h := N.r _ (List.mem_append_left _ (unl3 hi hj hk h1 h2 h3))
  unfold ringB at h
  have h2 : decide ((fl (fun z => ent rows z.1 z.2) ([i, j, k].zip (rot [i, j, k]))).natAbs = (fl (fun z => ent rows z.2 z.1) ([i, j, k].zip (rot [i, j, k]))).natAbs) = true := by simpa using h
  have h3 := of_decide_eq_true h2
  have e1 : fl (fun z => ent rows z.1 z.2) ([i, j, k].zip (rot [i, j, k])) = 1 * ent rows i j * ent rows j k * ent rows k i := rfl
  have e2 : fl (fun z => ent rows z.2 z.1) ([i, j, k].zip (rot [i, j, k])) = 1 * ent rows j i * ent rows k j * ent rows i k := rfl
  rw [e1, e2, Int.one_mul, Int.one_mul, Int.natAbs_mul, Int.natAbs_mul, Int.natAbs_mul, Int.natAbs_mul] at h3
  exact h3
theorem NoBar.r4 {rows : List (List Int)} {n i j k l : Nat} (N : NoBar rows n) (hi : i < n) (hj : j < n) (hk : k < n) (hl : l < n) (h1 : i ≠ j) (h2 : i ≠ k) (h3 : i ≠ l) (h4 : j ≠ k) (h5 : j ≠ l) (h6 : k ≠ l) :
    (ent rows i j).natAbs * (ent rows j k).natAbs * (ent rows k l).natAbs * (ent rows l i).natAbs = (ent rows j i).natAbs * (ent rows k j).natAbs * (ent rows l k).natAbs * (ent rows i l).natAbs := by
  have h := N.r _ (List.mem_append_right _ (unl4 hi hj hk hl h1 h2 h3 h4 h5 h6))
  unfold ringB at h
  have h2 : decide ((fl (fun z => ent rows z.1 z.2) ([i, j, k, l].zip (rot [i, j, k, l]))).natAbs = (fl (fun z => ent rows z.2 z.1) ([i, j, k, l].zip (rot [i, j, k, l]))).natAbs) = true := by simpa using h
  have h3 := of_decide_eq_true h2
  have e1 : fl (fun z => ent rows z.1 z.2) ([i, j, k, l].zip (rot [i, j, k, l])) = 1 * ent rows i j * ent rows j k * ent rows k l * ent rows l i := rfl
  have e2 : fl (fun z => ent rows z.2 z.1) ([i, j, k, l].zip (rot [i, j, k, l])) = 1 * ent rows j i * ent rows k j * ent rows l k * ent rows i l := rfl
  rw [e1, e2, Int.one_mul, Int.one_mul, Int.natAbs_mul, Int.natAbs_mul, Int.natAbs_mul, Int.natAbs_mul, Int.natAbs_mul, Int.natAbs_mul] at h3
  exact h3
def absE (rows : List (List Int)) (n : Nat) (i j : Fin 4) : Nat := if i.val < n ∧ j.val < n then (ent rows i.val j.val).natAbs else 0
theorem neF {i j : Fin 4} (h : i ≠ j) : i.val ≠ j.val := fun e => h (Fin.ext e)
theorem NoBar.ax {rows : List (List Int)} {n : Nat} (N : NoBar rows n) : E4.Ax (absE rows n) := by
  have zz : ∀ i j : Fin 4, ¬ (i.val < n ∧ j.val < n) → absE rows n i j = 0 := fun i j h => if_neg h
  refine ⟨fun i j h => ?_, fun i j k h1 h2 h3 => ?_, fun i j k l h1 h2 h3 h4 h5 h6 => ?_⟩
  · by_cases c : i.val < n ∧ j.val < n
    · unfold absE at h ⊢
      rw [if_pos c] at h
      rw [if_pos ⟨c.2, c.1⟩]
      rcases N.pr c.1 c.2 with z | z
      · rw [z.2]; rfl
      · have : ent rows i j = 0 := by omega
        rw [this, Int.zero_mul] at z
        omega
    · exact zz _ _ fun z => c ⟨z.2, z.1⟩
  · by_cases ci : i.val < n
    · by_cases cj : j.val < n
      · by_cases ck : k.val < n
        · unfold absE
          rw [if_pos ⟨ci, cj⟩, if_pos ⟨cj, ck⟩, if_pos ⟨ck, ci⟩, if_pos ⟨cj, ci⟩, if_pos ⟨ck, cj⟩, if_pos ⟨ci, ck⟩]
          exact N.r3 ci cj ck (neF h1) (neF h2) (neF h3)
        · rw [zz k i fun z => ck z.1, zz i k fun z => ck z.2]; simp
      · rw [zz i j fun z => cj z.2, zz j i fun z => cj z.1]; simp
    · rw [zz i j fun z => ci z.1, zz j i fun z => ci z.2]; simp
  · by_cases ci : i.val < n
    · by_cases cj : j.val < n
      · by_cases ck : k.val < n
        · by_cases cl : l.val < n
          · unfold absE
            rw [if_pos ⟨ci, cj⟩, if_pos ⟨cj, ck⟩, if_pos ⟨ck, cl⟩, if_pos ⟨cl, ci⟩, if_pos ⟨cj, ci⟩, if_pos ⟨ck, cj⟩, if_pos ⟨cl, ck⟩, if_pos ⟨ci, cl⟩]
            exact N.r4 ci cj ck cl (neF h1) (neF h2) (neF h3) (neF h4) (neF h5) (neF h6)
          · rw [zz k l fun z => cl z.2, zz l k fun z => cl z.1]; simp
        · rw [zz j k fun z => ck z.2, zz k j fun z => ck z.1]; simp
      · rw [zz i j fun z => cj z.2, zz j i fun z => cj z.1]; simp
    · rw [zz i j fun z => ci z.1, zz j i fun z => ci z.2]; simp
theorem sgn_even {x y : Int} {p q : Int} (hp : 0 < p) (hq : 0 < q) (h : x * y < 0) (e : p * (x.natAbs : Int) = q * (y.natAbs : Int)) : p * x = -(q * y) := by
  rcases Int.lt_or_gt_of_ne (show x ≠ 0 from fun z => by rw [z, Int.zero_mul] at h; omega) with hx | hx
  · have hy : 0 < y := by
      rcases Int.lt_or_le 0 y with hy | hy
      · exact hy
      · have := Int.mul_nonneg_of_nonpos_of_nonpos (Int.le_of_lt hx) hy
        omega
    have e1 : (x.natAbs : Int) = -x := by omega
    have e2 : (y.natAbs : Int) = y := by omega
    rw [e1, e2, Int.mul_neg] at e
    omega
  · have hy : y < 0 := by
      rcases Int.lt_or_le y 0 with hy | hy
      · exact hy
      · have := Int.mul_nonneg (Int.le_of_lt hx) hy
        omega
    have e1 : (x.natAbs : Int) = x := by omega
    have e2 : (y.natAbs : Int) = -y := by omega
    rw [e1, e2, Int.mul_neg] at e
    omega
theorem FmOk.tab {rows : List (List Int)} {n : Nat} (O : FmOk rows n) (h : evenB rows n = true) : TabOk rows n := by
  have N := noBar h
  obtain ⟨d, dp, de⟩ := E4.all N.ax
  refine ⟨O.n1, O.n4, O.len, O.len4, O.wide, O.tie, fun i => if h : i < 4 then (d ⟨i, h⟩ : Int) else 1, fun i hi => ?_, fun i j hi hj => ?_⟩
  · show 0 < (if h : i < 4 then (d ⟨i, h⟩ : Int) else 1)
    have := O.n4
    rw [dif_pos (show i < 4 by omega)]
    have := dp ⟨i, by omega⟩
    omega
  · show (if h : i < 4 then (d ⟨i, h⟩ : Int) else 1) * ent rows i j = -((if h : j < 4 then (d ⟨j, h⟩ : Int) else 1) * ent rows j i)
    have n4 := O.n4
    rw [dif_pos (show i < 4 by omega), dif_pos (show j < 4 by omega)]
    have pi := dp ⟨i, by omega⟩
    have pj := dp ⟨j, by omega⟩
    by_cases c : i = j
    · subst c
      rcases N.pr hi hi with z | z
      · rw [z.1]; simp
      · rcases Int.le_total 0 (ent rows i i) with y | y
        · have := Int.mul_nonneg y y
          omega
        · have := Int.mul_nonneg_of_nonpos_of_nonpos y y
          omega
    · have e := de ⟨i, by omega⟩ ⟨j, by omega⟩ (fun z => c (Fin.val_eq_of_eq z))
      unfold absE at e
      rw [if_pos ⟨hi, hj⟩, if_pos ⟨hj, hi⟩] at e
      rcases N.pr hi hj with z | z
      · rw [z.1, z.2]; simp
      · exact sgn_even (by omega) (by omega) z (by exact_mod_cast e)
end Bw
set_option Elab.async false
set_option linter.all false
set_option maxRecDepth 100000
set_option maxHeartbeats 4000000
namespace L2
open PySem PySem.Spec PyProof.Rows
/-! ### len(set(tuple of unlike ints)) -/
def tLenSetT (K : PySem.W.Frag) (ta : TE) : TE := fun σ H Q => ta σ H fun x H1 => ∃ (l : Addr) (ns : List Int), x = V.ref l ∧ SqT K H1 l (ns.map V.int) ∧ ns.length < 64 ∧ ns.Nodup ∧ Q (.int ns.length) H1
theorem nodup_size {l m : List Int} (h1 : l.Nodup) (h2 : m.Nodup) (h : ∀ k, k ∈ l ↔ k ∈ m) : l.length = m.length := ((List.perm_ext_iff_of_nodup h1 h2).mpr h).length_eq
theorem pe_lenSetT {X : Cx} {a : Expr} {ta : TE} {p p2 q pos : Pos} (calm : X.calm = true) (g1 : Gl X "len") (m1 : X.mg "len" = none) (g2 : Gl X "set") (m2 : X.mg "set" = none) (ha : PE X a ta)
    (pa : starEach [a] X.env = (false, eval a X.env) :: starEach [] X.env := by rfl) : PE X (.Call (.Name "len" p) [.Call (.Name "set" p2) [a] [] q] [] pos) (tLenSetT X.K ta) := by
  constructor
  intro pins s σ H Q I h
  refine Call_ (ld_blt I g1 m1 PySem.boot_len ?_)
  refine PyProof.Rows.callWith_builtin1 (PyProof.Rows.args_cons (Call_ (ld_blt I g2 m2 PyProof.Rows.boot_set (PyProof.Rows.callWith_type1 (PyProof.Rows.args_cons (thn (ha.run pins s σ H _ I h) ?_) pa) pa rfl))) rfl) rfl rfl
  rintro v s1 ⟨x, H1, I1, r1, l, ns, rfl, hq, h1, hnd, q1⟩
  refine PyProof.Rows.args_nil ?_
  cases r1
  obtain ⟨its, rv, pt, _⟩ := I1.tuple hq
  refine call_set_tupI ns (I1.ok.hd calm) (show s1.heap.IsTuple l its.toArray from pt) (ints_of_vals rv) (by unfold scanBound; omega) fun h' tk c R1 _ k => ?_
  refine PyProof.Rows.args_nil ?_
  obtain ⟨o, es, ep, t, ho, hex, hdt, _, nd, mm, _, hf, _, _, _⟩ := R1
  have hn : es.size = ns.length := by
    have e := nodup_size nd hnd fun j => by rw [← mm j, decide_eq_true_eq]
    rw [List.length_map, Array.length_toList] at e
    exact e
  have J : Inv X pins σ H1 { s1 with heap := h', toks := tk } := I1.kept k
  exact call_len_set ho hex hdt hf (by rw [hn]; omega) ⟨.int ns.length, H1, J.tok _, ⟨_, by rw [hn]⟩, q1⟩
end L2
set_option Elab.async false
set_option linter.all false
set_option maxRecDepth 100000
set_option maxHeartbeats 4000000
namespace Bw
open PySem PySem.Spec PyProof.Rows L2
/-! ### a bar, by the law's own looking -/
def prv (g : List Nat) : List Nat := g.drop (g.length - 1) ++ g.take (g.length - 1)
theorem prv_len (g : List Nat) : (prv g).length = g.length := by
  unfold prv
  rw [List.length_append, List.length_drop, List.length_take]
  omega
theorem prv_mem {g : List Nat} {x : Nat} (h : x ∈ prv g) : x ∈ g := by
  unfold prv at h
  rcases List.mem_append.mp h with h | h
  · exact List.mem_of_mem_drop h
  · exact List.mem_of_mem_take h
theorem at_prv {g : List Nat} {i : Nat} (hi : i < g.length) : ∃ x, (prv g)[i]? = some x ∧ atI (ringV g) ((i : Int) - 1) = some (.int (x : Nat)) := by
  obtain ⟨l, y, rfl⟩ : ∃ l y, g = l ++ [y] := ⟨g.dropLast, g.getLast (by intro h; rw [h] at hi; exact absurd hi (Nat.not_lt_zero _)), (List.dropLast_concat_getLast _).symm⟩
  have e : prv (l ++ [y]) = y :: l := by
    unfold prv
    simp
  rw [e]
  cases i with
  | zero =>
    refine ⟨y, rfl, ?_⟩
    have e2 : ringV (l ++ [y]) = ringV l ++ [V.int (y : Nat)] := by
      unfold ringV
      rw [List.map_append]
      rfl
    rw [e2]
    exact atI_last _ _
  | succ i =>
    have hl : i < l.length := by
      rw [List.length_append] at hi
      have : [y].length = 1 := rfl
      omega
    refine ⟨l[i], by rw [List.getElem?_cons_succ, List.getElem?_eq_getElem hl], ?_⟩
    have e3 : (((i + 1 : Nat) : Int)) - 1 = (i : Int) := by omega
    rw [e3]
    refine atI_nat ?_
    unfold ringV
    rw [List.getElem?_map, List.getElem?_append_left hl, List.getElem?_eq_getElem hl]
    rfl
theorem fl_rot3 (F : Nat × Nat → Int) (x y z : Nat) : fl F ((prv [x, y, z]).zip [x, y, z]) = fl F ([x, y, z].zip (rot [x, y, z])) := by
  have e1 : fl F ((prv [x, y, z]).zip [x, y, z]) = 1 * F (z, x) * F (x, y) * F (y, z) := rfl
  have e2 : fl F ([x, y, z].zip (rot [x, y, z])) = 1 * F (x, y) * F (y, z) * F (z, x) := rfl
  rw [e1, e2]
  simp only [Int.one_mul]
  ac_rfl
theorem fl_rot4 (F : Nat × Nat → Int) (x y z u : Nat) : fl F ((prv [x, y, z, u]).zip [x, y, z, u]) = fl F ([x, y, z, u].zip (rot [x, y, z, u])) := by
  have e1 : fl F ((prv [x, y, z, u]).zip [x, y, z, u]) = 1 * F (u, x) * F (x, y) * F (y, z) * F (z, u) := rfl
  have e2 : fl F ([x, y, z, u].zip (rot [x, y, z, u])) = 1 * F (x, y) * F (y, z) * F (z, u) * F (u, x) := rfl
  rw [e1, e2]
  simp only [Int.one_mul]
  ac_rfl
theorem fl_prv {g : List Nat} (h : g.length = 3 ∨ g.length = 4) (F : Nat × Nat → Int) : fl F ((prv g).zip g) = fl F (g.zip (rot g)) := by
  match g, h with
  | [x, y, z], _ => exact fl_rot3 F x y z
  | [x, y, z, u], _ => exact fl_rot4 F x y z u
  | [], .inl h => cases h
  | [], .inr h => cases h
  | [_], .inl h => cases h
  | [_], .inr h => cases h
  | [_, _], .inl h => cases h
  | [_, _], .inr h => cases h
  | _ :: _ :: _ :: _ :: _ :: _, .inl h => simp at h
  | _ :: _ :: _ :: _ :: _ :: _, .inr h => simp at h
theorem unl_nd {n : Nat} : ∀ (m : Nat) (g : List Nat), g ∈ unl n m → g.Nodup
  | 0, g, h => by
    rw [List.mem_singleton.mp h]
    exact List.nodup_nil
  | m + 1, g, h => by
    obtain ⟨g', h1, h2⟩ := List.mem_flatMap.mp h
    obtain ⟨x, hx, rfl⟩ := List.mem_map.mp h2
    have hx2 := (List.mem_filter.mp hx).2
    rw [Bool.not_eq_true', ← Bool.not_eq_true, List.contains_iff_mem] at hx2
    rw [List.nodup_append]
    refine ⟨unl_nd m g' h1, List.nodup_cons.mpr ⟨List.not_mem_nil, List.nodup_nil⟩, fun a ha b hb => ?_⟩
    rw [List.mem_singleton.mp hb]
    exact fun z => hx2 (z ▸ ha)
theorem unl_all4 {n : Nat} (h : n ≤ 4) : ∀ g ∈ unl n 3 ++ unl n 4, (g.length = 3 ∨ g.length = 4) ∧ (∀ x ∈ g, x < n) ∧ g.Nodup := fun g hg => by
  rcases List.mem_append.mp hg with h | h
  · exact ⟨.inl (unl_lt _ _ h).1, (unl_lt _ _ h).2, unl_nd _ _ h⟩
  · exact ⟨.inr (unl_lt _ _ h).1, (unl_lt _ _ h).2, unl_nd _ _ h⟩
theorem isBar.in {rows : List (List Int)} {n : Nat} {g : List Nat} (h4 : n ≤ 4) (h : isBar rows n g) : 2 ≤ g.length ∧ g.length ≤ 4 ∧ ∀ x ∈ g, x < n := by
  rcases h with ⟨i, j, rfl, h1, h2, h3⟩ | ⟨h1, h2⟩
  · refine ⟨Nat.le_refl _, by show 2 ≤ 4; decide, fun x hx => ?_⟩
    simp only [List.mem_cons, List.not_mem_nil, or_false] at hx
    omega
  · obtain ⟨k1, k2, _⟩ := unl_all4 h4 g h1
    exact ⟨by omega, by omega, k2⟩
theorem intsD {K : PySem.W.Frag} {H : Hp} : ∀ l : List Int, DpAll K H (l.map V.int) (l.map PyData.int)
  | [] => .nil
  | x :: l => .cons (.int x) (intsD l)
theorem intsT (l : List Int) : SeqAt.shaped (.tuple (l.map PyData.int)) = true := shaped_tup (ints_lay l) (by have := ints_depth l; omega)
theorem pairB_spl {rows : List (List Int)} {i j : Nat} (h : pairB rows i j = true) : ¬ (ent rows i j = 0 ∧ ent rows j i = 0) ∧ 0 ≤ ent rows i j * ent rows j i := by
  unfold pairB at h
  rw [Bool.and_eq_true, Bool.not_eq_true', ← Bool.decide_and] at h
  exact ⟨of_decide_eq_false h.1, of_decide_eq_true h.2⟩
section
variable {P : Program} {w : World} {K : PySem.W.Frag} {mg : Str → Option Value} {base : Heap}
abbrev s_law_is_bar : Stmt := topS 141
abbrev n_law_is_bar : List Str := ["_law_ties", "_law_ring", "_law_one", "_law_other", "_law_forth", "_law_back", "_law_at"]
theorem sc_law_is_bar : FnScope n_law_is_bar ["_law_ties", "_law_ring"] (defScope s_law_is_bar) := ⟨rfl, rfl, rfl, by decide +kernel, rfl, by decide +kernel, by decide +kernel⟩
def spIsBar : Sp := fun vs H Q _ => ∃ (a t : Addr) (rows : List (List Int)) (n : Nat) (g : List Nat), vs = [.ref a, .ref t] ∧ TabAt H a rows ∧ FmOk rows n ∧ H t = some (.tup (ringV g)) ∧ isBar rows n g ∧ ∀ H', Same H H' → Q (.bl true) H'
theorem ok_isbar {f : Addr} {fd : FuncData} {k : Nat} (F : Fun K "_law_is_bar" "_law_is_bar" s_law_is_bar f fd) (T : Tx mg) (tS : mg "set" = none) : FnOk P w K mg base CX0 (k + 1) f fd ["_law_ties", "_law_ring"] spIsBar := by
  refine F.ok sc_law_is_bar (fun vs H Q E h => ?_) (fun cdv A outer s H vs Q E hr h => ?_)
  · obtain ⟨a, t, rows, n, g, rfl, _⟩ := h
    rfl
  · obtain ⟨a, t, rows, n, g, rfl, hT, O, ht, hb, q⟩ := h
    have hu := hr.units
    refine ⟨_, (pss_cons (ps_if (PW.pt (pw_or (pt_not (pt_val (pe_callB (c_isi (K := K)) (by rfl) T.isinstance (by decide +kernel) (pa_cons (pv 1) (pa_cons (pe_bltn (v := .ty "tuple") (by rfl) T.tuple (by decide +kernel) rfl) pa_nil))))) (pw_or1 (pt_not (pt_chain op_le op_le pe_int (pe_callB (c_len (K := K)) (by rfl) T.len PySem.boot_len (pa_cons (pv 1) pa_nil)) pe_int)))))
    (pss_one (ps_ret pe_bl))
    pss_nil)
  (pss_cons (ps_if (pt_not (pt_val (pe_callB (c_all (K := K) rfl) (by rfl) T.all (by decide +kernel) (pa_cons (pe_lc (own := [("_law_one", 2)]) (by rfl) sc_law_is_bar.nd (p_tup (K := K) (pv 1)) (blkOk_by (own := [("_law_one", 2)]) (N := n_law_is_bar) (sc := defScope s_law_is_bar) (by decide +kernel)) (fun _ _ _ _ _ => (pg_name (i := 2) sc_law_is_bar.nd rfl (.inl rfl))) (fun _ _ _ _ _ => pts_nil) (fun _ _ _ _ _ => (pe_and (pe_callB (c_isi (K := K)) (by rfl) T.isinstance (by decide +kernel) (pa_cons (pv 2) (pa_cons (pe_bltn (v := .ty "int") (by rfl) T.int (by decide +kernel) rfl) pa_nil))) (pe_one (pe_chain op_le op_lt pe_int (pv 2) (pe_callB (c_len (K := K)) (by rfl) T.len PySem.boot_len (pa_cons (pe_ix (i_tup (K := K)) (pv 0) pe_int (fun _ _ => rfl)) pa_nil))))))) pa_nil))))
    (pss_one (ps_ret pe_bl))
    pss_nil)
  (pss_cons (ps_if (pt_cmpR op_eq (pe_callB (c_len (K := K)) (by rfl) T.len PySem.boot_len (pa_cons (pv 1) pa_nil)) pe_int (nomark _))
    (pss_cons (ps_par (i := 2) (j := 3) (by rfl) sc_law_is_bar.nd rfl rfl (by decide) rfl rfl (pa_cons (pe_ix (i_tup (K := K)) (pe_ix (i_tup (K := K)) (pv 0) (pe_ix (i_tup (K := K)) (pv 1) pe_int (fun _ _ => rfl)) (fun _ _ => rfl)) (pe_ix (i_tup (K := K)) (pv 1) pe_int (fun _ _ => rfl)) (fun _ _ => rfl)) (pa_cons (pe_ix (i_tup (K := K)) (pe_ix (i_tup (K := K)) (pv 0) (pe_ix (i_tup (K := K)) (pv 1) pe_int (fun _ _ => rfl)) (fun _ _ => rfl)) (pe_ix (i_tup (K := K)) (pv 1) pe_int (fun _ _ => rfl)) (fun _ _ => rfl)) pa_nil)) (by rfl))
    (pss_one (ps_ret (pe_and (pe_cmpR op_le (pe_ix (i_tup (K := K)) (pv 1) pe_int (fun _ _ => rfl)) (pe_ix (i_tup (K := K)) (pv 1) pe_int (fun _ _ => rfl)) (nomark _)) (pe_and (pe_cmpR (op_neD hu) (pe_tup (pa_cons (pv 2) (pa_cons (pv 3) pa_nil))) (pe_tup (pa_cons pe_int (pa_cons pe_int pa_nil))) (nomark _)) (pe_one (pe_cmpR op_ge (pe_op op_mul (pv 2) (pv 3)) pe_int (nomark _))))))))
    pss_nil)
  (pss_cons (ps_asg (pe_tup (pa_cons pe_int (pa_cons pe_int pa_nil))) (g_tup (K := K) (n := 2) rfl (pgs_cons (pg_name (i := 4) sc_law_is_bar.nd rfl (.inl rfl)) (pgs_cons (pg_name (i := 5) sc_law_is_bar.nd rfl (.inl rfl)) pgs_nil))))
  (pss_cons (ps_for PassesOwn.never rfl (pi_range1 (by rfl) T.range (pa_cons (pe_callB (c_len (K := K)) (by rfl) T.len PySem.boot_len (pa_cons (pv 1) pa_nil)) pa_nil)) (pg_name (i := 6) sc_law_is_bar.nd rfl (.inl rfl))
    (pss_cons (ps_set (i := 4) sc_law_is_bar.nd rfl (.inl rfl) (pe_op op_mul (pv 4) (pe_ix (i_tup (K := K)) (pe_ix (i_tup (K := K)) (pv 0) (pe_ix (i_tup (K := K)) (pv 1) (pe_op op_sub (pv 6) pe_int) (fun _ _ => rfl)) (fun _ _ => rfl)) (pe_ix (i_tup (K := K)) (pv 1) (pv 6) (fun _ _ => rfl)) (fun _ _ => rfl))))
    (pss_one (ps_set (i := 5) sc_law_is_bar.nd rfl (.inl rfl) (pe_op op_mul (pv 5) (pe_ix (i_tup (K := K)) (pe_ix (i_tup (K := K)) (pv 0) (pe_ix (i_tup (K := K)) (pv 1) (pv 6) (fun _ _ => rfl)) (fun _ _ => rfl)) (pe_ix (i_tup (K := K)) (pv 1) (pe_op op_sub (pv 6) pe_int) (fun _ _ => rfl)) (fun _ _ => rfl)))))))
  (pss_one (ps_ret (pe_and (pe_cmpR op_eq (pe_lenSetT (by rfl) (by rfl) T.len (by rfl) tS (pv 1)) (pe_callB (c_len (K := K)) (by rfl) T.len PySem.boot_len (pa_cons (pv 1) pa_nil)) (nomark _)) (pe_one (pe_cmpR op_ne (pe_callB call_abs (by rfl) T.abs (by decide +kernel) (pa_cons (pv 4) pa_nil)) (pe_callB call_abs (by rfl) T.abs (by decide +kernel) (pa_cons (pv 5) pa_nil)) (nomark _))))))))))), ?_⟩
    obtain ⟨g2, g4, gn⟩ := hb.in O.n4
    have ln := O.len
    have n1 := O.n1
    refine ⟨.ref t, rfl, _, _, _, _, true, rfl, .ty "tuple", .base (.tup ht), kit_ty (by decide +kernel), true, rfl, iteF ?_⟩
    refine ⟨.ref t, rfl, t, _, rfl, .inr (SqT.of ht), _, _, rfl, rfl, _, rfl, ?_⟩
    rw [ringV_len]
    have c1 : decide ((2 : Int) ≤ (g.length : Int)) = true := decide_eq_true (by omega)
    have c2 : decide ((g.length : Int) ≤ 4) = true := decide_eq_true (by omega)
    refine ite2 (fun _ => ⟨_, _, rfl, rfl, _, rfl, ite2 (fun z => absurd z (by rw [c2]; decide)) (fun _ => ?_)⟩) (fun z => absurd c1 z)
    obtain ⟨as0, b0, f1, f2, f3⟩ := hT.row (i := 0) (by omega)
    have w0 := row_len O.wide (i := 0) (by omega)
    refine ⟨.ref t, rfl, t, rfl, ⟨_, SqT.of ht⟩, fun D eD => ?_⟩
    refine lc_tup (K := K) (a := t) (xs := ringV g) (fun j H' => H' D = some (.lst ((List.replicate j true).map V.bl)) ∧ Same H H') ⟨upd_same, same_upd eD⟩ (fun j H' _ ⟨_, k⟩ => SqT.of (k _ _ ht)) ?_ ?_
    · rintro j v H1 hv ⟨e1, k1⟩
      obtain ⟨x, ex, rfl⟩ := ringV_at hv
      have hx := gn x (List.mem_of_getElem? ex)
      have hj := (List.getElem?_eq_some_iff.mp ex).1
      refine ⟨rfl, .int x, rfl, _, _, _, _, true, rfl, .ty "int", .base (.int x), kit_ty (by decide +kernel), true, rfl, ?_⟩
      refine ⟨.int x, rfl, _, _, rfl, rfl, _, rfl, ite2 (fun _ => ?_) (fun z => absurd (decide_eq_true (show (0 : Int) ≤ (x : Int) by omega)) z)⟩
      refine ⟨.ref a, rfl, a, _, 0, .ref b0, rfl, rfl, SqT.of (k1 _ _ f1), atI_nat (j := 0) f2, b0, _, rfl, .inr (SqT.of (k1 _ _ f3)), _, _, rfl, rfl, ?_⟩
      rw [List.length_map, w0]
      refine ⟨_, e1, by rw [List.length_map, List.length_replicate]; exact small1000 (by omega), ?_, Same.updN k1 eD⟩
      have ed : (fun i j : Int => V.bl (decide (i < j))) (x : Int) (n : Int) = V.bl true := by
        show V.bl (decide ((x : Int) < (n : Int))) = V.bl true
        rw [decide_eq_true (show (x : Int) < (n : Int) by omega)]
      rw [upd_same, List.replicate_succ', List.map_append, ed]
      rfl
    · rintro H1 ⟨e1, k1⟩
      rw [ringV_len] at e1
      refine ⟨D, _, rfl, SqL.of e1, _, rfl, ?_⟩
      have ea : (List.replicate g.length true).all id = true := List.all_eq_true.mpr fun b hb => by rw [(List.mem_replicate.mp hb).2]; rfl
      rw [ea]
      refine iteF ?_
      have ht1 := k1 _ _ ht
      have hT1 := hT.same k1
      clear f1 f2 f3 e1
      refine ⟨.ref t, rfl, t, _, rfl, .inr (SqT.of ht1), rfl, _, rfl, ?_⟩
      rw [ringV_len]
      rcases hb with ⟨i, j, rfl, hij, hjn, hpb⟩ | ⟨hm, hrb⟩
      · refine ite2 (fun _ => ?_) (fun z => absurd (decide_eq_true rfl) z)
        have hin : i < n := by omega
        obtain ⟨as, bi, e1, e2, e3⟩ := hT1.row (show i < rows.length by omega)
        obtain ⟨as', bj, e1', e2', e3'⟩ := hT1.row (show j < rows.length by omega)
        have g0 : (ringV [i, j])[0]? = some (.int (i : Nat)) := rfl
        have g1 : (ringV [i, j])[1]? = some (.int (j : Nat)) := rfl
        have bd1 := O.bd (show i < rows.length by omega) hjn
        have bd2 := O.bd (show j < rows.length by omega) hin
        refine ⟨.ref a, rfl, .ref t, rfl, t, _, 0, .int i, rfl, rfl, SqT.of ht1, atI_nat (j := 0) g0, a, _, i, .ref bi, rfl, rfl, SqT.of e1, atI_nat e2, .ref t, rfl, t, _, 1, .int j, rfl, rfl, SqT.of ht1, atI_nat (j := 1) g1, bi, _, j, _, rfl, rfl, SqT.of e3, atI_nat (ent_get O.wide (by omega) hjn), ?_⟩
        refine ⟨.ref a, rfl, .ref t, rfl, t, _, 1, .int j, rfl, rfl, SqT.of ht1, atI_nat (j := 1) g1, a, _, j, .ref bj, rfl, rfl, SqT.of e1', atI_nat e2', .ref t, rfl, t, _, 0, .int i, rfl, rfl, SqT.of ht1, atI_nat (j := 0) g0, bj, _, i, _, rfl, rfl, SqT.of e3', atI_nat (ent_get O.wide (by omega) hin), ?_⟩
        obtain ⟨nz, pp⟩ := pairB_spl hpb
        generalize ent rows i j = u at *
        generalize ent rows j i = v at *
        refine ⟨_, _, rfl, .ref t, rfl, t, _, 0, .int i, rfl, rfl, SqT.of ht1, atI_nat (j := 0) g0, .ref t, rfl, t, _, 1, .int j, rfl, rfl, SqT.of ht1, atI_nat (j := 1) g1, _, _, rfl, rfl, _, rfl, ite2 (fun _ => ?_) (fun z => absurd (decide_eq_true (show (i : Int) ≤ (j : Int) by omega)) z)⟩
        refine ⟨.int u, rfl, .int v, rfl, by show 2 ≤ sizeLine; decide, fun p ep => ⟨by show 2 ≤ sizeLine; decide, fun p' ep' => ?_⟩⟩
        have sp1 := same_upd (o := .tup [.int u, .int v]) ep
        have sp2 := same_upd (o := .tup [.int 0, .int 0]) ep'
        refine ⟨.tuple ([u, v].map PyData.int), .tuple (([0, 0] : List Int).map PyData.int), .tup (SqT.of (sp2 _ _ upd_same)) (intsD [u, v]), .tup (SqT.of upd_same) (intsD [0, 0]), intsT _, intsT _, _, rfl, ite2 (fun _ => ?_) (fun z => absurd ?_ z)⟩
        · refine ⟨.int u, rfl, .int v, rfl, _, _, rfl, rfl, .inr ⟨by omega, by omega⟩, _, _, rfl, rfl, ?_⟩
          show Q (.bl (decide (0 ≤ u * v))) _
          rw [decide_eq_true pp]
          exact q _ (k1.trans (sp1.trans sp2))
        · have e : PyData.eqv (.tuple ([u, v].map PyData.int)) (.tuple (([0, 0] : List Int).map PyData.int)) = decide ([u, v] = [0, 0]) := ints_eqv [u, v] [0, 0]
          rw [e, decide_eq_false fun z => nz ⟨by injection z, by injection z with _ z; injection z⟩]
          rfl
      · obtain ⟨gl, _, nd⟩ := unl_all4 O.n4 g hm
        refine ite2 (fun z => absurd z (by rw [decide_eq_false (fun z => by have := V.int.inj z; omega)]; decide)) (fun _ => ?_)
        refine ⟨by show 2 ≤ sizeLine; decide, fun c ec => ?_⟩
        have s2 := same_upd (o := .tup [.int 1, .int 1]) ec
        refine ⟨c, [.int 1, .int 1], rfl, SqT.of upd_same, rfl, .int 1, [.int 1], rfl, .int 1, [], rfl, rfl, ?_⟩
        have k2 := k1.trans s2
        generalize upd H1 c (.tup [.int 1, .int 1]) = H2 at k2 s2
        have ht2 := s2 _ _ ht1
        have hT2 := hT1.same s2
        refine ⟨.ref t, rfl, t, _, rfl, .inr (SqT.of ht2), g.length, by rw [ringV_len], by omega, by omega, for_range (fun i σ H' => ∃ y6 : Option V, σ = [some (.ref a), some (.ref t), none, none, some (.int (fl (fun z => ent rows z.1 z.2) (((prv g).zip g).take i))), some (.int (fl (fun z => ent rows z.2 z.1) (((prv g).zip g).take i))), y6] ∧ Same H2 H') ⟨none, rfl, .refl _⟩ ?_ ?_⟩
        · rintro i σ H3 hi ⟨y6, rfl, s3⟩
          have hi : i < g.length := hi
          have e0 : (0 : Int) + (i : Int) = (i : Int) := by omega
          rw [e0]
          obtain ⟨x, ex, ax⟩ := at_prv hi
          have gi : g[i]? = some g[i] := List.getElem?_eq_getElem hi
          have ay : (ringV g)[i]? = some (.int (g[i] : Nat)) := by
            unfold ringV
            rw [List.getElem?_map, gi]
            rfl
          generalize g[i] = y at gi ay
          have hxn := gn x (prv_mem (List.mem_of_getElem? ex))
          have hyn := gn y (List.mem_of_getElem? gi)
          have hz : ((prv g).zip g)[i]? = some (x, y) := by
            rw [List.getElem?_zip_eq_some]
            exact ⟨ex, gi⟩
          have hT3 := hT2.same s3
          have ht3 := s3 _ _ ht2
          obtain ⟨as, bx, e1, e2, e3⟩ := hT3.row (show x < rows.length by omega)
          obtain ⟨as', by', e1', e2', e3'⟩ := hT3.row (show y < rows.length by omega)
          have bd1 := O.bd (show x < rows.length by omega) hyn
          have bd2 := O.bd (show y < rows.length by omega) hxn
          refine ⟨_, rfl, .ref a, rfl, .ref t, rfl, _, rfl, _, _, rfl, rfl, t, _, _, .int x, rfl, rfl, SqT.of ht3, ax, a, _, x, .ref bx, rfl, rfl, SqT.of e1, atI_nat e2, .ref t, rfl, _, rfl, t, _, _, .int y, rfl, rfl, SqT.of ht3, atI_nat ay, bx, _, y, _, rfl, rfl, SqT.of e3, atI_nat (ent_get O.wide (by omega) hyn), _, _, rfl, rfl, .inr ⟨by omega, by omega⟩, ?_⟩
          refine ⟨_, rfl, .ref a, rfl, .ref t, rfl, _, rfl, t, _, _, .int y, rfl, rfl, SqT.of ht3, atI_nat ay, a, _, y, .ref by', rfl, rfl, SqT.of e1', atI_nat e2', .ref t, rfl, _, rfl, _, _, rfl, rfl, t, _, _, .int x, rfl, rfl, SqT.of ht3, ax, by', _, x, _, rfl, rfl, SqT.of e3', atI_nat (ent_get O.wide (by omega) hxn), _, _, rfl, rfl, .inr ⟨by omega, by omega⟩, ?_⟩
          refine ⟨some (.int (i : Nat)), ?_, s3⟩
          rw [fl_take hz, fl_take hz]
          rfl
        · rintro σ H3 ⟨y6, rfl, s3⟩
          have et : ((prv g).zip g).take ((g.length : Int) - 0).toNat = (prv g).zip g := List.take_of_length_le (by rw [List.length_zip, prv_len]; omega)
          have et : ((prv g).zip g).take (g.length : Int).toNat = (prv g).zip g := List.take_of_length_le (by rw [List.length_zip, prv_len]; omega)
          rw [et, fl_prv gl, fl_prv gl]
          have ht3 := s3 _ _ ht2
          refine ⟨.ref t, rfl, t, g.map (fun (x : Nat) => (x : Int)), rfl, ?_, by rw [List.length_map]; omega, ?_, .ref t, rfl, t, _, rfl, .inr (SqT.of ht3), ?_⟩
          · rw [List.map_map]
            exact SqT.of ht3
          · exact List.Pairwise.map _ (fun x y h e => h (by have e : ((x : Nat) : Int) = (y : Int) := e; omega)) nd
          · rw [List.length_map, ringV_len]
            refine ⟨rfl, _, rfl, ite2 (fun _ => ?_) (fun z => absurd (decide_eq_true rfl) z)⟩
            refine ⟨_, rfl, _, rfl, _, rfl, _, rfl, rfl, ?_⟩
            rw [abs_if, abs_if]
            have hq := q _ (k2.trans s3)
            unfold ringB at hrb
            have hne : ¬ ((fl (fun z => ent rows z.1 z.2) (g.zip (rot g))).natAbs = (fl (fun z => ent rows z.2 z.1) (g.zip (rot g))).natAbs) := by simpa using hrb
            rw [decide_eq_false (fun z => hne (by have := V.int.inj z; omega))]
            exact hq
end
end Bw
set_option Elab.async false
set_option linter.all false
set_option maxRecDepth 100000
set_option maxHeartbeats 2000000
/-! ### a method that may raise, called inside a try -/
namespace Bw
open PySem PySem.Spec PyProof.Rows L2
def tMethAt (C : Addr) (m : Str) (sp : Sp) (E : L2.St → XK) (ta : TE) (t : TA) : TE := fun σ H Q => ta σ H fun x H1 => ∃ a dx fs, x = .ref a ∧ H1 a = some (.ins C dx fs) ∧ fs.lookup m = none ∧ t σ H1 fun vs H2 => sp (x :: vs) H2 Q (E σ)
theorem pe_methAt {X : Cx} {CX : CXT} {k : Nat} {C f : Addr} {fd : FuncData} {ps : List Str} {sp : Sp} {E : L2.St → XK} {m : Str} {o e : Expr} {es : List Expr} {ta : TE} {t : TA} {apos pos : Pos} {pl : Sem Bool} (he : PE X o ta) (c : Cls X.K C) (hm : Meth X.K C m f) (F : FnOk X.prog X.w X.K X.mg X.base CX k f fd ps sp) (hr : Room k X.A) (hb : Binds X.K fd ps []) (hx : ∀ σ, PassesAt CX X σ (E σ)) (ha : PA X (e :: es) t)
    (hst : starEach (e :: es) X.env = (false, eval e X.env) :: starEach es X.env := by rfl) (hpl : (backTo pos (starEach es X.env)).any (·.1) = false := by rfl)
    (ht : eval (.Call (.Attribute o m apos) (e :: es) [] pos) X.env = (do
      let ov ← eval o X.env
      standAt apos.atName
      let (f, first) ← holding [ov] (getMethod ov m pl)
      callWith pos f first (backTo pos (starEach (e :: es) X.env)) (backToKw pos (keywordEach [] X.env))) := by rfl) : PE X (.Call (.Attribute o m apos) (e :: es) [] pos) (tMethAt C m sp E ta t) := by
  refine ⟨fun pins s σ H Q I h => ?_⟩
  refine PySem.W.methodCall_KW (pl := pl) (thn (he.run pins s σ H _ I h) fun u s1 ⟨x, H1, I1, rx, a, dx, fs, ex, ea, l, q⟩ => ?_) ht
  subst ex
  obtain rfl : u = Value.ref a := rx
  refine getmeth_ok I1 ea c hm l (PySem.W.callWith_K (first := [.ref a]) (h₀ := X.base) I.ok.mod.kin hm.kp (thn (ha.run pos pins s1 σ H1 _ I1 q) fun us s2 ⟨vs, H2, I2, r, q2⟩ => ⟨I2.kIn, ?_⟩) hst hpl)
  exact run_fnS (us := .ref a :: us) (vs := .ref a :: vs) F hr hb (hx σ) I2 (.cons rfl r) q2
end Bw
set_option Elab.async false
set_option linter.all false
set_option maxRecDepth 100000
set_option maxHeartbeats 2000000
/-! ### making an own object inside a try, where it may be refused -/
namespace Bw
open PySem PySem.Spec PyProof.Rows L2
section
variable {X : Cx} {cx : CXT} {k : Nat} {g D : Addr} {gd : FuncData} {ps : List Str} {sp : Sp}
theorem mk_runS {E : XK} {pins : List (Addr × Obj)} {σ : L2.St} {H : Hp} {s : Shared} {Q : VK} {us : List Value} {vs : List V} (M : Mk X.K D g) (F : FnOk X.prog X.w X.K X.mg X.base cx k g gd ps sp) (room : Room (k + 1) X.A) (hb : Binds X.K gd ps []) (px : PassesAt cx X σ E) (I : Inv X pins σ H s) (r : Vals vs us)
    (h : ∀ x dx, H x = none → H dx = none → dx ≠ x → sp (.ref x :: (vs ++ [])) (upd (upd H dx (.own x)) x (.ins D dx [])) (fun v H2 => v = .non ∧ Q (.ref x) H2) E) : wpAny (model X.prog X.w) X.A (call (.ref D) us) (EP X pins σ Q) X.xe s := by
  have q0 := h (s.heap.objs.size + 1) s.heap.objs.size (I.hok.fresh (Nat.le_succ _)) (I.hok.fresh (Nat.le_refl _)) (Nat.ne_of_lt (Nat.lt_succ_self _))
  have J := Inv.made (C := D) I
  rw [List.append_nil] at q0
  have rr : Vals (V.ref (s.heap.objs.size + 1) :: vs) (Value.ref (s.heap.objs.size + 1) :: us) := .cons rfl r
  have ll : (Value.ref (s.heap.objs.size + 1) :: us ++ []).length = ps.length := by
    have z := rr.length
    rw [F.len _ _ _ _ q0] at z
    rw [List.append_nil]
    exact z.symm
  have bb := hb _ (Value.ref (s.heap.objs.size + 1) :: us) J.kIn ll
  rw [List.append_nil] at bb
  have run := F.run _ X.stack _ _ ⟨Value.ref (s.heap.objs.size + 1) :: us, []⟩ (Value.ref (s.heap.objs.size + 1) :: us) _ _ E (room.make D us []) (J.env0.make D us []) bb rr q0
  refine wpAny_call (make_map (f := g) I.kIn M.makes M.init (beq_iff_eq.mp M.fn) (codeAny_mono run ?_))
  rintro (e | fl) s' hq
  · exact px pins _ _ e s' J hq
  · cases fl with
    | ret u =>
      obtain ⟨v, H', I3, rv, ev, q3⟩ := J.after hq
      subst ev
      exact ⟨rv, V.ref (s.heap.objs.size + 1), H', I3, rfl, q3⟩
    | next => exact hq.elim
    | brk => exact hq.elim
    | cont => exact hq.elim
def tMakeAt (D : Addr) (sp : Sp) (E : L2.St → XK) (t : TA) : TE := fun σ H Q => t σ H fun vs H1 => ∀ x dx, H1 x = none → H1 dx = none → dx ≠ x → sp (.ref x :: (vs ++ [])) (upd (upd H1 dx (.own x)) x (.ins D dx [])) (fun v H2 => v = .non ∧ Q (.ref x) H2) (E σ)
theorem pe_makeAt {E : L2.St → XK} {y : Str} {p pos : Pos} {e : Expr} {es : List Expr} {t : TA} (M : Mk X.K D g) (F : FnOk X.prog X.w X.K X.mg X.base cx k g gd ps sp) (room : Room (k + 1) X.A) (gl : Gl X y) (hm : X.mg y = some (.ref D)) (hb : Binds X.K gd ps []) (px : ∀ σ, PassesAt cx X σ (E σ)) (ha : PA X (e :: es) t)
    (nd : (y == ("__debug__" : Str)) = false := by decide) (se : starEach (e :: es) X.env = (false, eval e X.env) :: starEach es X.env := by rfl) (ss : (backTo pos (starEach es X.env)).any (·.1) = false := by rfl) : PE X (.Call (.Name y p) (e :: es) [] pos) (tMakeAt D sp E t) := by
  constructor
  intro pins s σ H Q I h
  refine wpAny_Call_Name_kw (ld_glob I gl hm ?_ nd)
  exact PySem.W.callWith_K (h₀ := X.base) I.ok.mod.kin M.kp (thn (ha.run pos pins s σ H _ I h) fun us s1 ⟨vs, H1, I1, r, q⟩ => ⟨I1.kIn, mk_runS M F room hb (px σ) I1 r q⟩) se ss
end
end Bw
set_option Elab.async false
set_option linter.all false
set_option maxRecDepth 100000
set_option maxHeartbeats 4000000
namespace Bw
open PySem PySem.Spec PyProof.Rows L2 LamX
/-! ### all doors refuse -/
def words (n : Nat) : List V := List.replicate n (.str "uneven")
def wordsD (n : Nat) : List PyData := List.replicate n (.str "uneven")
theorem dp_words {K : PySem.W.Frag} {H : Hp} : ∀ n, DpAll K H (words n) (wordsD n)
  | 0 => .nil
  | n + 1 => .cons (.str _) (dp_words n)
theorem sh_words : SeqAt.shaped (.list (wordsD 20)) = true := by decide +kernel
theorem eq_words : PyData.eqv (.list (wordsD 20)) (.list (wordsD 20)) = true := by decide +kernel
theorem tabOk0 : TabOk [[0]] 1 := ⟨by decide, by decide, by decide, by decide, fun r hr => by rw [List.mem_singleton.mp hr]; rfl, fun r hr t ht => by
  rw [List.mem_singleton.mp hr] at ht
  rw [List.mem_singleton.mp ht]
  decide, fun _ => 1, fun _ _ => Int.one_pos, fun i j hi hj => by
  have : i = 0 := by omega
  have : j = 0 := by omega
  subst i
  subst j
  rfl⟩
theorem tab0 {H : Hp} {p m : Addr} (ep : H p = none) (em : (upd H p (.tup [.int 0])) m = none) : TabAt (upd (upd H p (.tup [.int 0])) m (.tup [.ref p])) m [[0]] := by
  refine ⟨[p], upd_same, rfl, fun i r e => ?_⟩
  match i, e with
  | 0, e =>
    cases (Option.some.inj e)
    exact ⟨p, rfl, same_upd em _ _ upd_same⟩
  | i + 1, e => simp at e
section
variable {P : Program} {w : World} {K : PySem.W.Frag} {mg : Str → Option Value} {base : Heap} {C CT CW fT fi CB c1 c2 c3 c4 : Addr} {fdi : FuncData}
abbrev s_law_all_refuse : Stmt := topS 143
abbrev n_law_all_refuse : List Str := ["_law_ties", "_law_told", "e", "_law_words"]
theorem sc_law_all_refuse : FnScope n_law_all_refuse ["_law_ties"] (defScope s_law_all_refuse) := ⟨rfl, rfl, rfl, by decide +kernel, rfl, by decide +kernel, by decide +kernel⟩
def spAll (Ts : List (Addr × Str)) : Sp := fun vs H Q _ => ∃ (a : Addr) (R0 : List (List Int)) (n : Nat), vs = [.ref a] ∧ TabAt H a R0 ∧ FmOk R0 n ∧ evenB R0 n = false ∧ Tabs Ts H ∧ ∀ H', ExtN H H' → Tabs Ts H' → Q (.bl true) H'
theorem ok_all {f gA cc Pt : Addr} {fdW : FuncData} {oc kV doc pm ct : Value} {od an : Option Addr} {osl : Array (Option Value)} {Ts : List (Addr × Str)} {CM : Addr} (lk : K.lookup f = some ⟨oc, od, .func (PySem.W.fnOf "_law_all_refuse" "_law_all_refuse" (defArgs s_law_all_refuse) (defBody s_law_all_refuse) (defScope s_law_all_refuse) .none kV doc pm an (.ref cc) ct), osl⟩) (hcd : PySem.W.codeIn K (.ref cc) "_law_all_refuse" = true) (T : Tx mg) (TU : ErrC K mg "Uneven" CT fT CB) (nU : PySem.W.findIn K (.ref CT) "ring" = some none) (tU : PySem.W.exmOne K (.ref CT) (.ref CT) = some true)
    (mkW : Mk K CW fi) (FW : ∀ R0, FnOk P w K mg base (L2.CX P w) 7 fi fdi ["self", "table"] (spBadI CT R0)) (gW : mg "Web" = some (.ref CW)) (bW : Binds K fdi ["self", "table"] [])
    (c_weights_tables : ∀ R0, CalX P w K mg base 7 "weights_tables" ["table"] (spBad CT R0)) (c_turned : ∀ R0, CalX P w K mg base 7 "turned" ["table", "place"] (spBad2 CT R0)) (c_reordered : ∀ R0, CalX P w K mg base 7 "reordered" ["table", "order"] (spBad2 CT R0))
    (c_beside : ∀ R0, CalX P w K mg base 7 "beside" ["one", "other"] (spBad2 CT R0)) (c_beside2 : ∀ R0, CalX P w K mg base 7 "beside" ["one", "other"] (spBes CT R0)) (c_principal : ∀ R0, CalX P w K mg base 7 "principal" ["table"] (spBad CT R0)) (c_opposite : ∀ R0, CalX P w K mg base 7 "opposite" ["table"] (spBad CT R0)) (c_table_text : ∀ R0, CalX P w K mg base 7 "table_text" ["table"] (spBad CT R0))
    (c_kind : ∀ R0, CalX P w K mg base 7 "kind" ["table"] (spBad CT R0)) (m_WebMap : ∀ R0, MakN P w K mg base 8 "WebMap" CM ["self", "table"] (spBadI CT R0)) (c_belt : ∀ R0, CalDX P w K mg base 7 "belt" ["table", "most"] (.int 20) (spBad2 CT R0)) (c_walked : ∀ R0, CalX P w K mg base 7 "walked" ["table", "walk", "parts"] (spBad3 CT R0)) (c_frieze : ∀ R0, CalX P w K mg base 7 "frieze" ["table", "rounds"] (spBad2 CT R0)) (c_ring_length : ∀ R0, CalX P w K mg base 7 "ring_length" ["table", "one", "other"] (spBad3 CT R0))
    (c_law_other_doors : ∀ R0, Cal P w K mg base CX0 11 "_law_other_doors" ["_law_ties"] (spOther CT R0 Ts)) (c_law_is_bar : Cal P w K mg base CX0 1 "_law_is_bar" ["_law_ties", "_law_ring"] spIsBar)
    (WB : WordW K mg base Ts gA CB c1 c2 c3 c4 cc Pt (qL "_law_all_refuse") fdW) : FnOk P w K mg base CX0 12 f (PySem.W.fnOf "_law_all_refuse" "_law_all_refuse" (defArgs s_law_all_refuse) (defBody s_law_all_refuse) (defScope s_law_all_refuse) .none kV doc pm an (.ref cc) ct) ["_law_ties"] (spAll Ts) := by
  refine fn_of lk hcd sc_law_all_refuse (fun vs H Q E h => ?_) (fun A outer s H vs Q E hr h => ?_)
  · obtain ⟨a, R0, n, rfl, _⟩ := h
    rfl
  · obtain ⟨a, R0, n, rfl, hT, O, ev, tb, q⟩ := h
    suffices hh : ∃ t, PSs (cxOf CX0 P w K mg base n_law_all_refuse "_law_all_refuse" (defScope s_law_all_refuse) f (.ref cc) A outer s H E).nox (defBody s_law_all_refuse) t ∧ t { nx := fun _ H' => Q .non H', rt := Q } (L2.start n_law_all_refuse [.ref a]) H by
      obtain ⟨t, h1, h2⟩ := hh
      exact ⟨t, h1.nox, h2⟩
    have hu := hr.units
    refine ⟨_, (pss_cons (ps_set (i := 1) sc_law_all_refuse.nd rfl (.inl rfl) pe_non)
  (pss_cons (ps_try_as (i := 2) rfl rfl sc_law_all_refuse.nd rfl rfl ⟨rfl, by decide, .inl TU.g⟩ L2.takes0 (fun W pn xe tk _ => pss_one (ps_expr (pe_makeAt mkW (FW R0) (hr.mono (by decide)) (by rfl) gW bW (fun σ => passAt tk σ) (pa_cons (pv 0) pa_nil)))) (fun a oe cls d pn hz hf => pss_one (ps_set (i := 1) sc_law_all_refuse.nd rfl (.inl rfl) (pe_xf TU.xf nU hz hf (pv 2)))))
  (pss_cons (ps_set (i := 3) sc_law_all_refuse.nd rfl (.inl rfl) (pe_lst (pa_cons (pe_wd (k := 9) WB rfl hr (by rfl) (lamS_by (sc := defScope s_law_all_refuse) (by decide +kernel)) (fun A outer s H E f c' hr' => pe_calX (c_weights_tables R0) (hr'.mono (by decide)) (by rfl) (passE rfl rfl rfl rfl) (pa_cons (pv 0) pa_nil))) pa_nil)))
  (pss_cons (ps_expr (pe_bm PySem.F.plainAttrs_list PySem.F.slot_list_append PySem.F.type_list_append mt_append (pv 3) (pa_cons (pe_wd (k := 9) WB rfl hr (by rfl) (lamS_by (sc := defScope s_law_all_refuse) (by decide +kernel)) (fun A outer s H E f c' hr' => pe_calX (c_kind R0) (hr'.mono (by decide)) (by rfl) (passE rfl rfl rfl rfl) (pa_cons (pv 0) pa_nil))) pa_nil)))
  (pss_cons (ps_expr (pe_bm PySem.F.plainAttrs_list PySem.F.slot_list_append PySem.F.type_list_append mt_append (pv 3) (pa_cons (pe_wd (k := 9) WB rfl hr (by rfl) (lamS_by (sc := defScope s_law_all_refuse) (by decide +kernel)) (fun A outer s H E f c' hr' => pe_calX (c_turned R0) (hr'.mono (by decide)) (by rfl) (passE rfl rfl rfl rfl) (pa_cons (pv 0) (pa_cons pe_int pa_nil)))) pa_nil)))
  (pss_cons (ps_expr (pe_bm PySem.F.plainAttrs_list PySem.F.slot_list_append PySem.F.type_list_append mt_append (pv 3) (pa_cons (pe_wd (k := 9) WB rfl hr (by rfl) (lamS_by (sc := defScope s_law_all_refuse) (by decide +kernel)) (fun A outer s H E f c' hr' => pe_calX (c_principal R0) (hr'.mono (by decide)) (by rfl) (passE rfl rfl rfl rfl) (pa_cons (pv 0) pa_nil))) pa_nil)))
  (pss_cons (ps_expr (pe_bm PySem.F.plainAttrs_list PySem.F.slot_list_append PySem.F.type_list_append mt_append (pv 3) (pa_cons (pe_wd (k := 9) WB rfl hr (by rfl) (lamS_by (sc := defScope s_law_all_refuse) (by decide +kernel)) (fun A outer s H E f c' hr' => pe_calX (c_opposite R0) (hr'.mono (by decide)) (by rfl) (passE rfl rfl rfl rfl) (pa_cons (pv 0) pa_nil))) pa_nil)))
  (pss_cons (ps_expr (pe_bm PySem.F.plainAttrs_list PySem.F.slot_list_append PySem.F.type_list_append mt_append (pv 3) (pa_cons (pe_wd (k := 9) WB rfl hr (by rfl) (lamS_by (sc := defScope s_law_all_refuse) (by decide +kernel)) (fun A outer s H E f c' hr' => pe_calX (c_frieze R0) (hr'.mono (by decide)) (by rfl) (passE rfl rfl rfl rfl) (pa_cons (pv 0) (pa_cons pe_int pa_nil)))) pa_nil)))
  (pss_cons (ps_expr (pe_bm PySem.F.plainAttrs_list PySem.F.slot_list_append PySem.F.type_list_append mt_append (pv 3) (pa_cons (pe_wd (k := 9) WB rfl hr (by rfl) (lamS_by (sc := defScope s_law_all_refuse) (by decide +kernel)) (fun A outer s H E f c' hr' => pe_calX (c_table_text R0) (hr'.mono (by decide)) (by rfl) (passE rfl rfl rfl rfl) (pa_cons (pv 0) pa_nil))) pa_nil)))
  (pss_cons (ps_expr (pe_bm PySem.F.plainAttrs_list PySem.F.slot_list_append PySem.F.type_list_append mt_append (pv 3) (pa_cons (pe_wd (k := 9) WB rfl hr (by rfl) (lamS_by (sc := defScope s_law_all_refuse) (by decide +kernel)) (fun A outer s H E f c' hr' => pe_calX (c_reordered R0) (hr'.mono (by decide)) (by rfl) (passE rfl rfl rfl rfl) (pa_cons (pv 0) (pa_cons (pe_tup pa_nil) pa_nil)))) pa_nil)))
  (pss_cons (ps_expr (pe_bm PySem.F.plainAttrs_list PySem.F.slot_list_append PySem.F.type_list_append mt_append (pv 3) (pa_cons (pe_wd (k := 9) WB rfl hr (by rfl) (lamS_by (sc := defScope s_law_all_refuse) (by decide +kernel)) (fun A outer s H E f c' hr' => pe_calX (c_ring_length R0) (hr'.mono (by decide)) (by rfl) (passE rfl rfl rfl rfl) (pa_cons (pv 0) (pa_cons pe_int (pa_cons pe_int pa_nil))))) pa_nil)))
  (pss_cons (ps_expr (pe_bm PySem.F.plainAttrs_list PySem.F.slot_list_append PySem.F.type_list_append mt_append (pv 3) (pa_cons (pe_wd (k := 9) WB rfl hr (by rfl) (lamS_by (sc := defScope s_law_all_refuse) (by decide +kernel)) (fun A outer s H E f c' hr' => pe_calX (c_beside R0) (hr'.mono (by decide)) (by rfl) (passE rfl rfl rfl rfl) (pa_cons (pv 0) (pa_cons (pv 0) pa_nil)))) pa_nil)))
  (pss_cons (ps_expr (pe_bm PySem.F.plainAttrs_list PySem.F.slot_list_append PySem.F.type_list_append mt_append (pv 3) (pa_cons (pe_wd (k := 9) WB rfl hr (by rfl) (lamS_by (sc := defScope s_law_all_refuse) (by decide +kernel)) (fun A outer s H E f c' hr' => pe_calX (c_beside2 R0) (hr'.mono (by decide)) (by rfl) (passE rfl rfl rfl rfl) (pa_cons (pe_tup (pa_cons (pe_tup (pa_cons pe_int pa_nil)) pa_nil)) (pa_cons (pv 0) pa_nil)))) pa_nil)))
  (pss_cons (ps_expr (pe_bm PySem.F.plainAttrs_list PySem.F.slot_list_append PySem.F.type_list_append mt_append (pv 3) (pa_cons (pe_wd (k := 9) WB rfl hr (by rfl) (lamS_by (sc := defScope s_law_all_refuse) (by decide +kernel)) (fun A outer s H E f c' hr' => pe_calX (c_walked R0) (hr'.mono (by decide)) (by rfl) (passE rfl rfl rfl rfl) (pa_cons (pv 0) (pa_cons (pe_lst (pa_cons pe_int pa_nil)) (pa_cons (pe_lst pa_nil) pa_nil))))) pa_nil)))
  (pss_cons (ps_expr (pe_bm PySem.F.plainAttrs_list PySem.F.slot_list_append PySem.F.type_list_append mt_append (pv 3) (pa_cons (pe_wd (k := 9) WB rfl hr (by rfl) (lamS_by (sc := defScope s_law_all_refuse) (by decide +kernel)) (fun A outer s H E f c' hr' => pe_calDX (c_belt R0) (hr'.mono (by decide)) (by rfl) (passE rfl rfl rfl rfl) (pa_cons (pv 0) pa_nil))) pa_nil)))
  (pss_cons (ps_expr (pe_bm PySem.F.plainAttrs_list PySem.F.slot_list_append PySem.F.type_list_append mt_append (pv 3) (pa_cons (pe_wd (k := 9) WB rfl hr (by rfl) (lamS_by (sc := defScope s_law_all_refuse) (by decide +kernel)) (fun A outer s H E f c' hr' => pe_mkN (m_WebMap R0) hr' (by rfl) (passE rfl rfl rfl rfl) (pa_cons (pv 0) pa_nil))) pa_nil)))
  (pss_cons (ps_set (i := 3) sc_law_all_refuse.nd rfl (.inl rfl) (pe_op op_cat (pv 3) (pe_cal (c_law_other_doors R0) (hr.mono (by decide)) (by rfl) (pa_cons (pv 0) pa_nil))))
  (pss_one (ps_ret (pe_and (pe_cmpR (op_eqD hu) (pv 3) (pe_op op_rep (pe_lst (pa_cons pe_str pa_nil)) pe_int) (nomark _)) (pe_and (pe_cmpR op_notN (pv 1) pe_non (nomark _)) (pe_one (pe_cal c_law_is_bar (hr.mono (by decide)) (by rfl) (pa_cons (pv 0) (pa_cons (pv 1) pa_nil))))))))))))))))))))))))), ?_⟩
    refine ⟨.ref a, rfl, fun x dx x0 dx0 nxd => ?_⟩
    refine ⟨x, .ref a, rfl, BdT.same (made_same x0 dx0 nxd) (⟨a, n, rfl, hT, O, ev⟩ : BdT R0 H (.ref a)), fun d H1 s1 hd => ?_⟩
    obtain ⟨t, g, hd1, ht1, hb⟩ := hd
    rw [O.wid] at hb
    refine ⟨true, tU, fun _ x' hx => ?_, fun g => nomatch g⟩
    refine ⟨.ref x', rfl, rfl, rfl, d, _, .ref t, rfl, hd1, rfl, ?_⟩
    have D0 : Ow H Ts H1 := (⟨ExtN.refl _, tb⟩ : Ow H Ts H).same ((made_same x0 dx0 nxd).trans s1)
    have hv : BdT R0 H (.ref a) := ⟨a, n, rfl, hT, O, ev⟩
    clear hd1 s1 hx x0 dx0 nxd
    refine ⟨D0.tb, fun H5 x5 tb5 => ?_⟩
    have x5a : ExtN H H5 := D0.ext.trans x5
    refine ⟨.ref a, rfl, .ref a, rfl, (hv.ext x5a), fun d H3 s3 hd => ⟨.str "uneven", (UnD.at TU hd).wide, ?_⟩⟩
    have t5 : H3 t = some (.tup (ringV g)) := s3 _ _ (x5 _ _ ht1 (fun ps z => by cases z))
    have D3 : Ow H Ts H3 := (⟨x5a, tb5⟩ : Ow H Ts H5).same s3
    clear x5 x5a tb5 s3 hd D0
    refine ⟨by show 1 ≤ sizeLine; decide, fun L eL => ?_⟩
    have eL0 := D3.new eL
    have D4_1 := D3.put (o := .lst [.str "uneven"]) eL0 (.inl eL)
    have l4_1 : (upd H3 L (.lst [.str "uneven"])) L = some (.lst [.str "uneven"]) := upd_same
    have t4_1 : (upd H3 L (.lst [.str "uneven"])) t = some (.tup (ringV g)) := same_upd eL _ _ t5
    show tSeq _ _ _ _ (upd H3 L (.lst [.str "uneven"]))
    generalize upd H3 L (.lst [.str "uneven"]) = H4_1 at D4_1 l4_1 t4_1
    clear D3 eL t5
    refine ⟨.ref L, rfl, .inl ⟨rfl, _, SqL.of l4_1⟩, D4_1.tb, fun H5 x5 tb5 => ?_⟩
    have x5a : ExtN H H5 := D4_1.ext.trans x5
    refine ⟨.ref a, rfl, .ref a, rfl, (hv.ext x5a), fun d H3 s3 hd => ⟨.str "uneven", (UnD.at TU hd).wide, ?_⟩⟩
    have D6 : Ow H Ts H3 := (⟨x5a, tb5⟩ : Ow H Ts H5).same s3
    have l6 : H3 L = some (.lst [.str "uneven"]) := s3 _ _ (x5 _ _ l4_1 (fun ps z => by cases z))
    have t6 : H3 t = some (.tup (ringV g)) := s3 _ _ (x5 _ _ t4_1 (fun ps z => by cases z))
    refine ⟨L, _, _, rfl, rfl, l6, by show 1 < sizeLine; decide, ?_⟩
    have D4_2 := D6.put (o := .lst [.str "uneven", .str "uneven"]) eL0 (.inr ⟨_, l6⟩)
    have l4_2 : (upd H3 L (.lst [.str "uneven", .str "uneven"])) L = some (.lst [.str "uneven", .str "uneven"]) := upd_same
    have t4_2 : (upd H3 L (.lst [.str "uneven", .str "uneven"])) t = some (.tup (ringV g)) := by
      rw [upd_ne (fun z => by rw [z, l6] at t6; cases t6)]
      exact t6
    show tSeq _ _ _ _ (upd H3 L (.lst [.str "uneven", .str "uneven"]))
    generalize upd H3 L (.lst [.str "uneven", .str "uneven"]) = H4_2 at D4_2 l4_2 t4_2
    clear D4_1 l4_1 t4_1 x5 x5a tb5 D6 l6 t6 s3 hd
    refine ⟨.ref L, rfl, .inl ⟨rfl, _, SqL.of l4_2⟩, D4_2.tb, fun H5 x5 tb5 => ?_⟩
    have x5a : ExtN H H5 := D4_2.ext.trans x5
    refine ⟨.ref a, rfl, .ref a, .int 9, rfl, (hv.ext x5a), fun d H3 s3 hd => ⟨.str "uneven", (UnD.at TU hd).wide, ?_⟩⟩
    have D6 : Ow H Ts H3 := (⟨x5a, tb5⟩ : Ow H Ts H5).same s3
    have l6 : H3 L = some (.lst [.str "uneven", .str "uneven"]) := s3 _ _ (x5 _ _ l4_2 (fun ps z => by cases z))
    have t6 : H3 t = some (.tup (ringV g)) := s3 _ _ (x5 _ _ t4_2 (fun ps z => by cases z))
    refine ⟨L, _, _, rfl, rfl, l6, by show 2 < sizeLine; decide, ?_⟩
    have D4_3 := D6.put (o := .lst [.str "uneven", .str "uneven", .str "uneven"]) eL0 (.inr ⟨_, l6⟩)
    have l4_3 : (upd H3 L (.lst [.str "uneven", .str "uneven", .str "uneven"])) L = some (.lst [.str "uneven", .str "uneven", .str "uneven"]) := upd_same
    have t4_3 : (upd H3 L (.lst [.str "uneven", .str "uneven", .str "uneven"])) t = some (.tup (ringV g)) := by
      rw [upd_ne (fun z => by rw [z, l6] at t6; cases t6)]
      exact t6
    show tSeq _ _ _ _ (upd H3 L (.lst [.str "uneven", .str "uneven", .str "uneven"]))
    generalize upd H3 L (.lst [.str "uneven", .str "uneven", .str "uneven"]) = H4_3 at D4_3 l4_3 t4_3
    clear D4_2 l4_2 t4_2 x5 x5a tb5 D6 l6 t6 s3 hd
    refine ⟨.ref L, rfl, .inl ⟨rfl, _, SqL.of l4_3⟩, D4_3.tb, fun H5 x5 tb5 => ?_⟩
    have x5a : ExtN H H5 := D4_3.ext.trans x5
    refine ⟨.ref a, rfl, .ref a, rfl, (hv.ext x5a), fun d H3 s3 hd => ⟨.str "uneven", (UnD.at TU hd).wide, ?_⟩⟩
    have D6 : Ow H Ts H3 := (⟨x5a, tb5⟩ : Ow H Ts H5).same s3
    have l6 : H3 L = some (.lst [.str "uneven", .str "uneven", .str "uneven"]) := s3 _ _ (x5 _ _ l4_3 (fun ps z => by cases z))
    have t6 : H3 t = some (.tup (ringV g)) := s3 _ _ (x5 _ _ t4_3 (fun ps z => by cases z))
    refine ⟨L, _, _, rfl, rfl, l6, by show 3 < sizeLine; decide, ?_⟩
    have D4_4 := D6.put (o := .lst [.str "uneven", .str "uneven", .str "uneven", .str "uneven"]) eL0 (.inr ⟨_, l6⟩)
    have l4_4 : (upd H3 L (.lst [.str "uneven", .str "uneven", .str "uneven", .str "uneven"])) L = some (.lst [.str "uneven", .str "uneven", .str "uneven", .str "uneven"]) := upd_same
    have t4_4 : (upd H3 L (.lst [.str "uneven", .str "uneven", .str "uneven", .str "uneven"])) t = some (.tup (ringV g)) := by
      rw [upd_ne (fun z => by rw [z, l6] at t6; cases t6)]
      exact t6
    show tSeq _ _ _ _ (upd H3 L (.lst [.str "uneven", .str "uneven", .str "uneven", .str "uneven"]))
    generalize upd H3 L (.lst [.str "uneven", .str "uneven", .str "uneven", .str "uneven"]) = H4_4 at D4_4 l4_4 t4_4
    clear D4_3 l4_3 t4_3 x5 x5a tb5 D6 l6 t6 s3 hd
    refine ⟨.ref L, rfl, .inl ⟨rfl, _, SqL.of l4_4⟩, D4_4.tb, fun H5 x5 tb5 => ?_⟩
    have x5a : ExtN H H5 := D4_4.ext.trans x5
    refine ⟨.ref a, rfl, .ref a, rfl, (hv.ext x5a), fun d H3 s3 hd => ⟨.str "uneven", (UnD.at TU hd).wide, ?_⟩⟩
    have D6 : Ow H Ts H3 := (⟨x5a, tb5⟩ : Ow H Ts H5).same s3
    have l6 : H3 L = some (.lst [.str "uneven", .str "uneven", .str "uneven", .str "uneven"]) := s3 _ _ (x5 _ _ l4_4 (fun ps z => by cases z))
    have t6 : H3 t = some (.tup (ringV g)) := s3 _ _ (x5 _ _ t4_4 (fun ps z => by cases z))
    refine ⟨L, _, _, rfl, rfl, l6, by show 4 < sizeLine; decide, ?_⟩
    have D4_5 := D6.put (o := .lst [.str "uneven", .str "uneven", .str "uneven", .str "uneven", .str "uneven"]) eL0 (.inr ⟨_, l6⟩)
    have l4_5 : (upd H3 L (.lst [.str "uneven", .str "uneven", .str "uneven", .str "uneven", .str "uneven"])) L = some (.lst [.str "uneven", .str "uneven", .str "uneven", .str "uneven", .str "uneven"]) := upd_same
    have t4_5 : (upd H3 L (.lst [.str "uneven", .str "uneven", .str "uneven", .str "uneven", .str "uneven"])) t = some (.tup (ringV g)) := by
      rw [upd_ne (fun z => by rw [z, l6] at t6; cases t6)]
      exact t6
    show tSeq _ _ _ _ (upd H3 L (.lst [.str "uneven", .str "uneven", .str "uneven", .str "uneven", .str "uneven"]))
    generalize upd H3 L (.lst [.str "uneven", .str "uneven", .str "uneven", .str "uneven", .str "uneven"]) = H4_5 at D4_5 l4_5 t4_5
    clear D4_4 l4_4 t4_4 x5 x5a tb5 D6 l6 t6 s3 hd
    refine ⟨.ref L, rfl, .inl ⟨rfl, _, SqL.of l4_5⟩, D4_5.tb, fun H5 x5 tb5 => ?_⟩
    have x5a : ExtN H H5 := D4_5.ext.trans x5
    refine ⟨.ref a, rfl, .ref a, .int 0, rfl, (hv.ext x5a), fun d H3 s3 hd => ⟨.str "uneven", (UnD.at TU hd).wide, ?_⟩⟩
    have D6 : Ow H Ts H3 := (⟨x5a, tb5⟩ : Ow H Ts H5).same s3
    have l6 : H3 L = some (.lst [.str "uneven", .str "uneven", .str "uneven", .str "uneven", .str "uneven"]) := s3 _ _ (x5 _ _ l4_5 (fun ps z => by cases z))
    have t6 : H3 t = some (.tup (ringV g)) := s3 _ _ (x5 _ _ t4_5 (fun ps z => by cases z))
    refine ⟨L, _, _, rfl, rfl, l6, by show 5 < sizeLine; decide, ?_⟩
    have D4_6 := D6.put (o := .lst [.str "uneven", .str "uneven", .str "uneven", .str "uneven", .str "uneven", .str "uneven"]) eL0 (.inr ⟨_, l6⟩)
    have l4_6 : (upd H3 L (.lst [.str "uneven", .str "uneven", .str "uneven", .str "uneven", .str "uneven", .str "uneven"])) L = some (.lst [.str "uneven", .str "uneven", .str "uneven", .str "uneven", .str "uneven", .str "uneven"]) := upd_same
    have t4_6 : (upd H3 L (.lst [.str "uneven", .str "uneven", .str "uneven", .str "uneven", .str "uneven", .str "uneven"])) t = some (.tup (ringV g)) := by
      rw [upd_ne (fun z => by rw [z, l6] at t6; cases t6)]
      exact t6
    show tSeq _ _ _ _ (upd H3 L (.lst [.str "uneven", .str "uneven", .str "uneven", .str "uneven", .str "uneven", .str "uneven"]))
    generalize upd H3 L (.lst [.str "uneven", .str "uneven", .str "uneven", .str "uneven", .str "uneven", .str "uneven"]) = H4_6 at D4_6 l4_6 t4_6
    clear D4_5 l4_5 t4_5 x5 x5a tb5 D6 l6 t6 s3 hd
    refine ⟨.ref L, rfl, .inl ⟨rfl, _, SqL.of l4_6⟩, D4_6.tb, fun H5 x5 tb5 => ?_⟩
    have x5a : ExtN H H5 := D4_6.ext.trans x5
    refine ⟨.ref a, rfl, .ref a, rfl, (hv.ext x5a), fun d H3 s3 hd => ⟨.str "uneven", (UnD.at TU hd).wide, ?_⟩⟩
    have D6 : Ow H Ts H3 := (⟨x5a, tb5⟩ : Ow H Ts H5).same s3
    have l6 : H3 L = some (.lst [.str "uneven", .str "uneven", .str "uneven", .str "uneven", .str "uneven", .str "uneven"]) := s3 _ _ (x5 _ _ l4_6 (fun ps z => by cases z))
    have t6 : H3 t = some (.tup (ringV g)) := s3 _ _ (x5 _ _ t4_6 (fun ps z => by cases z))
    refine ⟨L, _, _, rfl, rfl, l6, by show 6 < sizeLine; decide, ?_⟩
    have D4_7 := D6.put (o := .lst [.str "uneven", .str "uneven", .str "uneven", .str "uneven", .str "uneven", .str "uneven", .str "uneven"]) eL0 (.inr ⟨_, l6⟩)
    have l4_7 : (upd H3 L (.lst [.str "uneven", .str "uneven", .str "uneven", .str "uneven", .str "uneven", .str "uneven", .str "uneven"])) L = some (.lst [.str "uneven", .str "uneven", .str "uneven", .str "uneven", .str "uneven", .str "uneven", .str "uneven"]) := upd_same
    have t4_7 : (upd H3 L (.lst [.str "uneven", .str "uneven", .str "uneven", .str "uneven", .str "uneven", .str "uneven", .str "uneven"])) t = some (.tup (ringV g)) := by
      rw [upd_ne (fun z => by rw [z, l6] at t6; cases t6)]
      exact t6
    show tSeq _ _ _ _ (upd H3 L (.lst [.str "uneven", .str "uneven", .str "uneven", .str "uneven", .str "uneven", .str "uneven", .str "uneven"]))
    generalize upd H3 L (.lst [.str "uneven", .str "uneven", .str "uneven", .str "uneven", .str "uneven", .str "uneven", .str "uneven"]) = H4_7 at D4_7 l4_7 t4_7
    clear D4_6 l4_6 t4_6 x5 x5a tb5 D6 l6 t6 s3 hd
    refine ⟨.ref L, rfl, .inl ⟨rfl, _, SqL.of l4_7⟩, D4_7.tb, fun H5 x5 tb5 => ?_⟩
    have x5a : ExtN H H5 := D4_7.ext.trans x5
    refine ⟨.ref a, rfl, by show 0 ≤ sizeLine; decide, fun p ep => ⟨.ref a, .ref p, rfl, (hv.ext x5a).same (same_upd ep), fun d H3 s3 hd => ⟨.str "uneven", (UnD.at TU hd).wide, ?_⟩⟩⟩
    have D6 : Ow H Ts H3 := (⟨x5a, tb5⟩ : Ow H Ts H5).same ((same_upd ep).trans s3)
    have l6 : H3 L = some (.lst [.str "uneven", .str "uneven", .str "uneven", .str "uneven", .str "uneven", .str "uneven", .str "uneven"]) := ((same_upd ep).trans s3) _ _ (x5 _ _ l4_7 (fun ps z => by cases z))
    have t6 : H3 t = some (.tup (ringV g)) := ((same_upd ep).trans s3) _ _ (x5 _ _ t4_7 (fun ps z => by cases z))
    refine ⟨L, _, _, rfl, rfl, l6, by show 7 < sizeLine; decide, ?_⟩
    have D4_8 := D6.put (o := .lst [.str "uneven", .str "uneven", .str "uneven", .str "uneven", .str "uneven", .str "uneven", .str "uneven", .str "uneven"]) eL0 (.inr ⟨_, l6⟩)
    have l4_8 : (upd H3 L (.lst [.str "uneven", .str "uneven", .str "uneven", .str "uneven", .str "uneven", .str "uneven", .str "uneven", .str "uneven"])) L = some (.lst [.str "uneven", .str "uneven", .str "uneven", .str "uneven", .str "uneven", .str "uneven", .str "uneven", .str "uneven"]) := upd_same
    have t4_8 : (upd H3 L (.lst [.str "uneven", .str "uneven", .str "uneven", .str "uneven", .str "uneven", .str "uneven", .str "uneven", .str "uneven"])) t = some (.tup (ringV g)) := by
      rw [upd_ne (fun z => by rw [z, l6] at t6; cases t6)]
      exact t6
    show tSeq _ _ _ _ (upd H3 L (.lst [.str "uneven", .str "uneven", .str "uneven", .str "uneven", .str "uneven", .str "uneven", .str "uneven", .str "uneven"]))
    generalize upd H3 L (.lst [.str "uneven", .str "uneven", .str "uneven", .str "uneven", .str "uneven", .str "uneven", .str "uneven", .str "uneven"]) = H4_8 at D4_8 l4_8 t4_8
    clear D4_7 l4_7 t4_7 x5 x5a tb5 D6 l6 t6 s3 hd
    refine ⟨.ref L, rfl, .inl ⟨rfl, _, SqL.of l4_8⟩, D4_8.tb, fun H5 x5 tb5 => ?_⟩
    have x5a : ExtN H H5 := D4_8.ext.trans x5
    refine ⟨.ref a, rfl, .ref a, .int 7, .int 7, rfl, (hv.ext x5a), fun d H3 s3 hd => ⟨.str "uneven", (UnD.at TU hd).wide, ?_⟩⟩
    have D6 : Ow H Ts H3 := (⟨x5a, tb5⟩ : Ow H Ts H5).same s3
    have l6 : H3 L = some (.lst [.str "uneven", .str "uneven", .str "uneven", .str "uneven", .str "uneven", .str "uneven", .str "uneven", .str "uneven"]) := s3 _ _ (x5 _ _ l4_8 (fun ps z => by cases z))
    have t6 : H3 t = some (.tup (ringV g)) := s3 _ _ (x5 _ _ t4_8 (fun ps z => by cases z))
    refine ⟨L, _, _, rfl, rfl, l6, by show 8 < sizeLine; decide, ?_⟩
    have D4_9 := D6.put (o := .lst [.str "uneven", .str "uneven", .str "uneven", .str "uneven", .str "uneven", .str "uneven", .str "uneven", .str "uneven", .str "uneven"]) eL0 (.inr ⟨_, l6⟩)
    have l4_9 : (upd H3 L (.lst [.str "uneven", .str "uneven", .str "uneven", .str "uneven", .str "uneven", .str "uneven", .str "uneven", .str "uneven", .str "uneven"])) L = some (.lst [.str "uneven", .str "uneven", .str "uneven", .str "uneven", .str "uneven", .str "uneven", .str "uneven", .str "uneven", .str "uneven"]) := upd_same
    have t4_9 : (upd H3 L (.lst [.str "uneven", .str "uneven", .str "uneven", .str "uneven", .str "uneven", .str "uneven", .str "uneven", .str "uneven", .str "uneven"])) t = some (.tup (ringV g)) := by
      rw [upd_ne (fun z => by rw [z, l6] at t6; cases t6)]
      exact t6
    show tSeq _ _ _ _ (upd H3 L (.lst [.str "uneven", .str "uneven", .str "uneven", .str "uneven", .str "uneven", .str "uneven", .str "uneven", .str "uneven", .str "uneven"]))
    generalize upd H3 L (.lst [.str "uneven", .str "uneven", .str "uneven", .str "uneven", .str "uneven", .str "uneven", .str "uneven", .str "uneven", .str "uneven"]) = H4_9 at D4_9 l4_9 t4_9
    clear D4_8 l4_8 t4_8 x5 x5a tb5 D6 l6 t6 s3 hd
    refine ⟨.ref L, rfl, .inl ⟨rfl, _, SqL.of l4_9⟩, D4_9.tb, fun H5 x5 tb5 => ?_⟩
    have x5a : ExtN H H5 := D4_9.ext.trans x5
    refine ⟨.ref a, rfl, .ref a, rfl, .ref a, .ref a, rfl, (hv.ext x5a), fun d H3 s3 hd => ⟨.str "uneven", (UnD.at TU hd).wide, ?_⟩⟩
    have D6 : Ow H Ts H3 := (⟨x5a, tb5⟩ : Ow H Ts H5).same s3
    have l6 : H3 L = some (.lst [.str "uneven", .str "uneven", .str "uneven", .str "uneven", .str "uneven", .str "uneven", .str "uneven", .str "uneven", .str "uneven"]) := s3 _ _ (x5 _ _ l4_9 (fun ps z => by cases z))
    have t6 : H3 t = some (.tup (ringV g)) := s3 _ _ (x5 _ _ t4_9 (fun ps z => by cases z))
    refine ⟨L, _, _, rfl, rfl, l6, by show 9 < sizeLine; decide, ?_⟩
    have D4_10 := D6.put (o := .lst [.str "uneven", .str "uneven", .str "uneven", .str "uneven", .str "uneven", .str "uneven", .str "uneven", .str "uneven", .str "uneven", .str "uneven"]) eL0 (.inr ⟨_, l6⟩)
    have l4_10 : (upd H3 L (.lst [.str "uneven", .str "uneven", .str "uneven", .str "uneven", .str "uneven", .str "uneven", .str "uneven", .str "uneven", .str "uneven", .str "uneven"])) L = some (.lst [.str "uneven", .str "uneven", .str "uneven", .str "uneven", .str "uneven", .str "uneven", .str "uneven", .str "uneven", .str "uneven", .str "uneven"]) := upd_same
    have t4_10 : (upd H3 L (.lst [.str "uneven", .str "uneven", .str "uneven", .str "uneven", .str "uneven", .str "uneven", .str "uneven", .str "uneven", .str "uneven", .str "uneven"])) t = some (.tup (ringV g)) := by
      rw [upd_ne (fun z => by rw [z, l6] at t6; cases t6)]
      exact t6
    show tSeq _ _ _ _ (upd H3 L (.lst [.str "uneven", .str "uneven", .str "uneven", .str "uneven", .str "uneven", .str "uneven", .str "uneven", .str "uneven", .str "uneven", .str "uneven"]))
    generalize upd H3 L (.lst [.str "uneven", .str "uneven", .str "uneven", .str "uneven", .str "uneven", .str "uneven", .str "uneven", .str "uneven", .str "uneven", .str "uneven"]) = H4_10 at D4_10 l4_10 t4_10
    clear D4_9 l4_9 t4_9 x5 x5a tb5 D6 l6 t6 s3 hd
    refine ⟨.ref L, rfl, .inl ⟨rfl, _, SqL.of l4_10⟩, D4_10.tb, fun H5 x5 tb5 => ?_⟩
    have x5a : ExtN H H5 := D4_10.ext.trans x5
    refine ⟨by show 1 ≤ sizeLine; decide, fun p ep => ⟨by show 1 ≤ sizeLine; decide, fun m em => ⟨.ref a, rfl, m, [[0]], 1, .ref a, rfl, tab0 ep em, tabOk0, (hv.ext x5a).same ((same_upd ep).trans (same_upd em)), fun d H3 s3 hd => ⟨.str "uneven", (UnD.at TU hd).wide, ?_⟩⟩⟩⟩
    have D6 : Ow H Ts H3 := (⟨x5a, tb5⟩ : Ow H Ts H5).same (((same_upd ep).trans (same_upd em)).trans s3)
    have l6 : H3 L = some (.lst [.str "uneven", .str "uneven", .str "uneven", .str "uneven", .str "uneven", .str "uneven", .str "uneven", .str "uneven", .str "uneven", .str "uneven"]) := (((same_upd ep).trans (same_upd em)).trans s3) _ _ (x5 _ _ l4_10 (fun ps z => by cases z))
    have t6 : H3 t = some (.tup (ringV g)) := (((same_upd ep).trans (same_upd em)).trans s3) _ _ (x5 _ _ t4_10 (fun ps z => by cases z))
    refine ⟨L, _, _, rfl, rfl, l6, by show 10 < sizeLine; decide, ?_⟩
    have D4_11 := D6.put (o := .lst [.str "uneven", .str "uneven", .str "uneven", .str "uneven", .str "uneven", .str "uneven", .str "uneven", .str "uneven", .str "uneven", .str "uneven", .str "uneven"]) eL0 (.inr ⟨_, l6⟩)
    have l4_11 : (upd H3 L (.lst [.str "uneven", .str "uneven", .str "uneven", .str "uneven", .str "uneven", .str "uneven", .str "uneven", .str "uneven", .str "uneven", .str "uneven", .str "uneven"])) L = some (.lst [.str "uneven", .str "uneven", .str "uneven", .str "uneven", .str "uneven", .str "uneven", .str "uneven", .str "uneven", .str "uneven", .str "uneven", .str "uneven"]) := upd_same
    have t4_11 : (upd H3 L (.lst [.str "uneven", .str "uneven", .str "uneven", .str "uneven", .str "uneven", .str "uneven", .str "uneven", .str "uneven", .str "uneven", .str "uneven", .str "uneven"])) t = some (.tup (ringV g)) := by
      rw [upd_ne (fun z => by rw [z, l6] at t6; cases t6)]
      exact t6
    show tSeq _ _ _ _ (upd H3 L (.lst [.str "uneven", .str "uneven", .str "uneven", .str "uneven", .str "uneven", .str "uneven", .str "uneven", .str "uneven", .str "uneven", .str "uneven", .str "uneven"]))
    generalize upd H3 L (.lst [.str "uneven", .str "uneven", .str "uneven", .str "uneven", .str "uneven", .str "uneven", .str "uneven", .str "uneven", .str "uneven", .str "uneven", .str "uneven"]) = H4_11 at D4_11 l4_11 t4_11
    clear D4_10 l4_10 t4_10 x5 x5a tb5 D6 l6 t6 s3 hd
    refine ⟨.ref L, rfl, .inl ⟨rfl, _, SqL.of l4_11⟩, D4_11.tb, fun H5 x5 tb5 => ?_⟩
    have x5a : ExtN H H5 := D4_11.ext.trans x5
    refine ⟨.ref a, rfl, by show 1 ≤ sizeLine; decide, fun p ep => ⟨by show 0 ≤ sizeLine; decide, fun m em => ⟨.ref a, .ref p, .ref m, rfl, (hv.ext x5a).same ((same_upd ep).trans (same_upd em)), fun d H3 s3 hd => ⟨.str "uneven", (UnD.at TU hd).wide, ?_⟩⟩⟩⟩
    have D6 : Ow H Ts H3 := (⟨x5a, tb5⟩ : Ow H Ts H5).same (((same_upd ep).trans (same_upd em)).trans s3)
    have l6 : H3 L = some (.lst [.str "uneven", .str "uneven", .str "uneven", .str "uneven", .str "uneven", .str "uneven", .str "uneven", .str "uneven", .str "uneven", .str "uneven", .str "uneven"]) := (((same_upd ep).trans (same_upd em)).trans s3) _ _ (x5 _ _ l4_11 (fun ps z => by cases z))
    have t6 : H3 t = some (.tup (ringV g)) := (((same_upd ep).trans (same_upd em)).trans s3) _ _ (x5 _ _ t4_11 (fun ps z => by cases z))
    refine ⟨L, _, _, rfl, rfl, l6, by show 11 < sizeLine; decide, ?_⟩
    have D4_12 := D6.put (o := .lst [.str "uneven", .str "uneven", .str "uneven", .str "uneven", .str "uneven", .str "uneven", .str "uneven", .str "uneven", .str "uneven", .str "uneven", .str "uneven", .str "uneven"]) eL0 (.inr ⟨_, l6⟩)
    have l4_12 : (upd H3 L (.lst [.str "uneven", .str "uneven", .str "uneven", .str "uneven", .str "uneven", .str "uneven", .str "uneven", .str "uneven", .str "uneven", .str "uneven", .str "uneven", .str "uneven"])) L = some (.lst [.str "uneven", .str "uneven", .str "uneven", .str "uneven", .str "uneven", .str "uneven", .str "uneven", .str "uneven", .str "uneven", .str "uneven", .str "uneven", .str "uneven"]) := upd_same
    have t4_12 : (upd H3 L (.lst [.str "uneven", .str "uneven", .str "uneven", .str "uneven", .str "uneven", .str "uneven", .str "uneven", .str "uneven", .str "uneven", .str "uneven", .str "uneven", .str "uneven"])) t = some (.tup (ringV g)) := by
      rw [upd_ne (fun z => by rw [z, l6] at t6; cases t6)]
      exact t6
    show tSeq _ _ _ _ (upd H3 L (.lst [.str "uneven", .str "uneven", .str "uneven", .str "uneven", .str "uneven", .str "uneven", .str "uneven", .str "uneven", .str "uneven", .str "uneven", .str "uneven", .str "uneven"]))
    generalize upd H3 L (.lst [.str "uneven", .str "uneven", .str "uneven", .str "uneven", .str "uneven", .str "uneven", .str "uneven", .str "uneven", .str "uneven", .str "uneven", .str "uneven", .str "uneven"]) = H4_12 at D4_12 l4_12 t4_12
    clear D4_11 l4_11 t4_11 x5 x5a tb5 D6 l6 t6 s3 hd
    refine ⟨.ref L, rfl, .inl ⟨rfl, _, SqL.of l4_12⟩, D4_12.tb, fun H5 x5 tb5 => ?_⟩
    have x5a : ExtN H H5 := D4_12.ext.trans x5
    refine ⟨.ref a, rfl, .ref a, .int 20, rfl, (hv.ext x5a), fun d H3 s3 hd => ⟨.str "uneven", (UnD.at TU hd).wide, ?_⟩⟩
    have D6 : Ow H Ts H3 := (⟨x5a, tb5⟩ : Ow H Ts H5).same s3
    have l6 : H3 L = some (.lst [.str "uneven", .str "uneven", .str "uneven", .str "uneven", .str "uneven", .str "uneven", .str "uneven", .str "uneven", .str "uneven", .str "uneven", .str "uneven", .str "uneven"]) := s3 _ _ (x5 _ _ l4_12 (fun ps z => by cases z))
    have t6 : H3 t = some (.tup (ringV g)) := s3 _ _ (x5 _ _ t4_12 (fun ps z => by cases z))
    refine ⟨L, _, _, rfl, rfl, l6, by show 12 < sizeLine; decide, ?_⟩
    have D4_13 := D6.put (o := .lst [.str "uneven", .str "uneven", .str "uneven", .str "uneven", .str "uneven", .str "uneven", .str "uneven", .str "uneven", .str "uneven", .str "uneven", .str "uneven", .str "uneven", .str "uneven"]) eL0 (.inr ⟨_, l6⟩)
    have l4_13 : (upd H3 L (.lst [.str "uneven", .str "uneven", .str "uneven", .str "uneven", .str "uneven", .str "uneven", .str "uneven", .str "uneven", .str "uneven", .str "uneven", .str "uneven", .str "uneven", .str "uneven"])) L = some (.lst [.str "uneven", .str "uneven", .str "uneven", .str "uneven", .str "uneven", .str "uneven", .str "uneven", .str "uneven", .str "uneven", .str "uneven", .str "uneven", .str "uneven", .str "uneven"]) := upd_same
    have t4_13 : (upd H3 L (.lst [.str "uneven", .str "uneven", .str "uneven", .str "uneven", .str "uneven", .str "uneven", .str "uneven", .str "uneven", .str "uneven", .str "uneven", .str "uneven", .str "uneven", .str "uneven"])) t = some (.tup (ringV g)) := by
      rw [upd_ne (fun z => by rw [z, l6] at t6; cases t6)]
      exact t6
    show tSeq _ _ _ _ (upd H3 L (.lst [.str "uneven", .str "uneven", .str "uneven", .str "uneven", .str "uneven", .str "uneven", .str "uneven", .str "uneven", .str "uneven", .str "uneven", .str "uneven", .str "uneven", .str "uneven"]))
    generalize upd H3 L (.lst [.str "uneven", .str "uneven", .str "uneven", .str "uneven", .str "uneven", .str "uneven", .str "uneven", .str "uneven", .str "uneven", .str "uneven", .str "uneven", .str "uneven", .str "uneven"]) = H4_13 at D4_13 l4_13 t4_13
    clear D4_12 l4_12 t4_12 x5 x5a tb5 D6 l6 t6 s3 hd
    refine ⟨.ref L, rfl, .inl ⟨rfl, _, SqL.of l4_13⟩, D4_13.tb, fun H5 x5 tb5 => ?_⟩
    have x5a : ExtN H H5 := D4_13.ext.trans x5
    refine ⟨.ref a, rfl, fun x dx x0 dx0 nxd => ⟨x, .ref a, rfl, (hv.ext x5a).same (made_same x0 dx0 nxd), fun d H3 s3 hd => ⟨.str "uneven", (UnD.at TU hd).wide, ?_⟩⟩⟩
    have D6 : Ow H Ts H3 := (⟨x5a, tb5⟩ : Ow H Ts H5).same ((made_same x0 dx0 nxd).trans s3)
    have l6 : H3 L = some (.lst [.str "uneven", .str "uneven", .str "uneven", .str "uneven", .str "uneven", .str "uneven", .str "uneven", .str "uneven", .str "uneven", .str "uneven", .str "uneven", .str "uneven", .str "uneven"]) := ((made_same x0 dx0 nxd).trans s3) _ _ (x5 _ _ l4_13 (fun ps z => by cases z))
    have t6 : H3 t = some (.tup (ringV g)) := ((made_same x0 dx0 nxd).trans s3) _ _ (x5 _ _ t4_13 (fun ps z => by cases z))
    refine ⟨L, _, _, rfl, rfl, l6, by show 13 < sizeLine; decide, ?_⟩
    have D4_14 := D6.put (o := .lst [.str "uneven", .str "uneven", .str "uneven", .str "uneven", .str "uneven", .str "uneven", .str "uneven", .str "uneven", .str "uneven", .str "uneven", .str "uneven", .str "uneven", .str "uneven", .str "uneven"]) eL0 (.inr ⟨_, l6⟩)
    have l4_14 : (upd H3 L (.lst [.str "uneven", .str "uneven", .str "uneven", .str "uneven", .str "uneven", .str "uneven", .str "uneven", .str "uneven", .str "uneven", .str "uneven", .str "uneven", .str "uneven", .str "uneven", .str "uneven"])) L = some (.lst [.str "uneven", .str "uneven", .str "uneven", .str "uneven", .str "uneven", .str "uneven", .str "uneven", .str "uneven", .str "uneven", .str "uneven", .str "uneven", .str "uneven", .str "uneven", .str "uneven"]) := upd_same
    have t4_14 : (upd H3 L (.lst [.str "uneven", .str "uneven", .str "uneven", .str "uneven", .str "uneven", .str "uneven", .str "uneven", .str "uneven", .str "uneven", .str "uneven", .str "uneven", .str "uneven", .str "uneven", .str "uneven"])) t = some (.tup (ringV g)) := by
      rw [upd_ne (fun z => by rw [z, l6] at t6; cases t6)]
      exact t6
    show tSeq _ _ _ _ (upd H3 L (.lst [.str "uneven", .str "uneven", .str "uneven", .str "uneven", .str "uneven", .str "uneven", .str "uneven", .str "uneven", .str "uneven", .str "uneven", .str "uneven", .str "uneven", .str "uneven", .str "uneven"]))
    generalize upd H3 L (.lst [.str "uneven", .str "uneven", .str "uneven", .str "uneven", .str "uneven", .str "uneven", .str "uneven", .str "uneven", .str "uneven", .str "uneven", .str "uneven", .str "uneven", .str "uneven", .str "uneven"]) = H4_14 at D4_14 l4_14 t4_14
    clear D4_13 l4_13 t4_13 x5 x5a tb5 D6 l6 t6 s3 hd
    refine ⟨.ref L, rfl, .ref a, rfl, .ref a, rfl, hv.ext D4_14.ext, D4_14.tb, fun M H5 x5 tb5 nM lM => ?_⟩
    have l5 : H5 L = some (.lst [.str "uneven", .str "uneven", .str "uneven", .str "uneven", .str "uneven", .str "uneven", .str "uneven", .str "uneven", .str "uneven", .str "uneven", .str "uneven", .str "uneven", .str "uneven", .str "uneven"]) := x5 _ _ l4_14 (fun ps z => by cases z)
    have t5 : H5 t = some (.tup (ringV g)) := x5 _ _ t4_14 (fun ps z => by cases z)
    have x5a : ExtN H H5 := D4_14.ext.trans x5
    refine ⟨L, M, _, _, rfl, rfl, l5, lM, by show 14 + 6 ≤ sizeLine; decide, fun R eR => ?_⟩
    have sR := same_upd (o := .lst ([.str "uneven", .str "uneven", .str "uneven", .str "uneven", .str "uneven", .str "uneven", .str "uneven", .str "uneven", .str "uneven", .str "uneven", .str "uneven", .str "uneven", .str "uneven", .str "uneven"] ++ [.str "uneven", .str "uneven", .str "uneven", .str "uneven", .str "uneven", .str "uneven"])) eR
    have lR : (upd H5 R (.lst ([.str "uneven", .str "uneven", .str "uneven", .str "uneven", .str "uneven", .str "uneven", .str "uneven", .str "uneven", .str "uneven", .str "uneven", .str "uneven", .str "uneven", .str "uneven", .str "uneven"] ++ [.str "uneven", .str "uneven", .str "uneven", .str "uneven", .str "uneven", .str "uneven"]))) R = some (.lst (words 20)) := upd_same
    have W6 : Ow H Ts (upd H5 R (.lst ([.str "uneven", .str "uneven", .str "uneven", .str "uneven", .str "uneven", .str "uneven", .str "uneven", .str "uneven", .str "uneven", .str "uneven", .str "uneven", .str "uneven", .str "uneven", .str "uneven"] ++ [.str "uneven", .str "uneven", .str "uneven", .str "uneven", .str "uneven", .str "uneven"]))) := (⟨x5a, tb5⟩ : Ow H Ts H5).same sR
    have t6 := sR _ _ t5
    generalize upd H5 R (.lst ([.str "uneven", .str "uneven", .str "uneven", .str "uneven", .str "uneven", .str "uneven", .str "uneven", .str "uneven", .str "uneven", .str "uneven", .str "uneven", .str "uneven", .str "uneven", .str "uneven"] ++ [.str "uneven", .str "uneven", .str "uneven", .str "uneven", .str "uneven", .str "uneven"])) = H6 at lR W6 t6 ⊢
    refine ⟨.ref R, rfl, by show 1 ≤ sizeLine; decide, fun q1 e1 => ?_⟩
    have s1 := same_upd (o := .lst [.str "uneven"]) e1
    refine ⟨q1, 20, _, rfl, rfl, upd_same, by decide, by decide, by show 1 * 20 ≤ sizeLine; decide, fun q2 e2 => ?_⟩
    have s2 := same_upd (o := .lst (words 20)) e2
    refine ⟨.list (wordsD 20), .list (wordsD 20), .lst (SqL.of (s2 _ _ (s1 _ _ lR))) (dp_words 20), .lst (SqL.of upd_same) (dp_words 20), sh_words, sh_words, ?_⟩
    rw [eq_words]
    refine ⟨true, rfl, iteT ?_⟩
    refine ⟨.ref t, rfl, rfl, true, rfl, iteT ?_⟩
    have W7 := (W6.same s1).same s2
    exact ⟨.ref a, rfl, .ref t, rfl, a, t, R0, n, g, rfl, hT.ext W7.ext, O, s2 _ _ (s1 _ _ t6), hb, fun H' s' => q H' (W7.same s').ext (W7.same s').tb⟩
end
end Bw
set_option Elab.async false
set_option linter.all false
set_option maxRecDepth 100000
set_option maxHeartbeats 0
namespace Bw
open PySem PySem.Spec PyProof.Rows L2 LamX
/-! ### readings where what was stays -/
def rCatN : R2 := fun x y H Q => ∃ a b xs ys, x = .ref a ∧ y = .ref b ∧ H a = some (.tup xs) ∧ H b = some (.tup ys) ∧ xs.length ≤ 400 ∧ ys.length ≤ 400 ∧ ∀ p H', Same H H' → H' p = some (.tup (xs ++ ys)) → Q (.ref p) H'
theorem o_catN {X : Cx} : OpR X (binaryOp .Add) rCatN := fun pins s σ H x y v u Q I rx ry h => by
  obtain ⟨a, b, xs, ys, rfl, rfl, ha, hb, lx, ly, q⟩ := h
  refine o_cat (K := X.K) rfl pins s σ H _ _ v u Q I rx ry ⟨a, b, xs, ys, rfl, rfl, SqT.of ha, SqT.of hb, Nat.le_of_lt (small1000 (by omega)), fun e => ?_, fun _ e => ?_, fun _ _ p hp => q p _ (same_upd hp) upd_same⟩
  · subst e
    exact q b H (.refl _) hb
  · subst e
    exact q a H (.refl _) (by rw [List.append_nil]; exact ha)
def rSlN : V → Option Int → Option Int → Hp → VK → Prop := fun x lo hi H Q => ∃ a xs, x = .ref a ∧ H a = some (.tup xs) ∧ ∀ p H', Same H H' → H' p = some (.tup (cutV xs lo hi)) → Q (.ref p) H'
theorem cut_take (xs : List V) (n : Nat) : cutV xs none (some (n : Int)) = xs.take n := by
  unfold cutV
  rw [HT.sIx_nat, HT.sIx_none, List.drop_zero, Nat.sub_zero]
  by_cases h : n ≤ xs.length
  · rw [Nat.min_eq_left h]
  · rw [Nat.min_eq_right (by omega), List.take_of_length_le (Nat.le_refl _), List.take_of_length_le (by omega)]
theorem cut_drop (xs : List V) (n : Nat) : cutV xs (some (n : Int)) none = xs.drop n := by
  unfold cutV
  rw [HT.sIx_nat, HT.sIx_none]
  by_cases h : n ≤ xs.length
  · rw [Nat.min_eq_left h, List.take_of_length_le]
    rw [List.length_drop]
    exact Nat.le_refl _
  · rw [Nat.min_eq_right (by omega), List.drop_of_length_le (Nat.le_refl _), List.drop_of_length_le (by omega), List.take_nil]
theorem l_tupN {X : Cx} : SlR X rSlN := by
  intro pins s σ H x v vl vu lo hi sl Q I rx hs pl pu h
  obtain ⟨a, xs, rfl, ha, q⟩ := h
  refine l_tup (K := X.K) rfl pins s σ H _ v vl vu lo hi sl Q I rx hs pl pu ⟨a, xs, rfl, SqT.of ha, fun e => ?_, fun _ p hp => q p _ (same_upd hp) upd_same⟩
  refine q a H (.refl _) ?_
  have : cutV xs lo hi = xs := by
    unfold cutV
    rw [e.1, e.2, List.drop_zero, Nat.sub_zero, List.take_length]
  rw [this]
  exact ha
theorem ent_mat {n : Nat} {B : Nat → Nat → Int} {more : List (List Int)} {i j : Nat} (hi : i < n) (hj : j < n) : ent (matRows n B ++ more) i j = B i j := by
  unfold ent
  have e : (matRows n B ++ more).getD i [] = matRow n (B i) := by
    rw [List.getD_eq_getElem?_getD, List.getElem?_append, if_pos (by rw [matRows_len]; exact hi), matRows_get hi]
    rfl
  rw [e, matRow_getD hj]
theorem tabOk_drawn {n : Nat} {r : Int} {ls : List Int} {B : Nat → Nat → Int} {more : List (List Int)} (n1 : 1 ≤ n) (n4 : n ≤ 4) (g : Good n r ls B) (r1 : 0 ≤ r) (r12 : r ≤ 12) (hm : more.length ≤ 4) (hmo : ∀ x ∈ more, x.length = n ∧ ∀ t ∈ x, -50 ≤ t ∧ t ≤ 50) : TabOk (matRows n B ++ more) n := by
  have hmat : ∀ x ∈ matRows n B, ∃ i, i < n ∧ x = matRow n (B i) := fun x hx => by
    unfold matRows at hx
    obtain ⟨i, hi, rfl⟩ := List.mem_map.mp hx
    exact ⟨i, List.mem_range.mp hi, rfl⟩
  refine ⟨n1, n4, ?_, ?_, fun x hx => ?_, fun x hx t ht => ?_, loadAt ls, fun i hi => ?_, fun i j hi hj => ?_⟩
  · rw [List.length_append, matRows_len]
    omega
  · rw [List.length_append, matRows_len]
    omega
  · rcases List.mem_append.mp hx with hx | hx
    · obtain ⟨i, _, rfl⟩ := hmat x hx
      exact matRow_len ..
    · exact (hmo x hx).1
  · rcases List.mem_append.mp hx with hx | hx
    · obtain ⟨i, _, rfl⟩ := hmat x hx
      unfold matRow at ht
      obtain ⟨j, _, rfl⟩ := List.mem_map.mp ht
      have := g.bd i j
      omega
    · exact (hmo x hx).2 t ht
  · have h : i < ls.length := by
      rw [g.len]
      exact hi
    rw [loadAt_get (List.getElem?_eq_getElem h)]
    have := g.load _ (List.getElem_mem h)
    omega
  · rw [ent_mat hi hj, ent_mat hj hi]
    exact g.ev i j hi hj

structure Sq (rows : List (List Int)) (n : Nat) : Prop where
  len : rows.length = n
  wide : ∀ r ∈ rows, r.length = n
  tie : ∀ r ∈ rows, ∀ t ∈ r, -50 ≤ t ∧ t ≤ 50
theorem TabAt.but' {H H' : Hp} {f l a : Addr} {rows : List (List Int)} (s : SameBut f H H') (hf : FeedAt H f l) (h : TabAt H a rows) : TabAt H' a rows := h.but s hf
theorem sq_mat {n : Nat} {B : Nat → Nat → Int} (h : ∀ i j, i < n → j < n → -50 ≤ B i j ∧ B i j ≤ 50) : Sq (matRows n B) n := by
  have hm : ∀ x ∈ matRows n B, ∃ i, i < n ∧ x = matRow n (B i) := fun x hx => by
    unfold matRows at hx
    obtain ⟨i, hi, rfl⟩ := List.mem_map.mp hx
    exact ⟨i, List.mem_range.mp hi, rfl⟩
  refine ⟨matRows_len .., fun r hr => ?_, fun r hr t ht => ?_⟩
  · obtain ⟨i, _, rfl⟩ := hm r hr
    exact matRow_len ..
  · obtain ⟨i, hi, rfl⟩ := hm r hr
    unfold matRow at ht
    obtain ⟨j, hj, rfl⟩ := List.mem_map.mp ht
    exact h i j hi (List.mem_range.mp hj)
theorem Sq.fm {rows more : List (List Int)} {n : Nat} (S : Sq rows n) (n1 : 1 ≤ n) (n4 : n ≤ 4) (hm : more.length ≤ 4) (hmo : ∀ x ∈ more, x.length = n ∧ ∀ t ∈ x, -50 ≤ t ∧ t ≤ 50) : FmOk (rows ++ more) n := by
  have e := S.len
  refine ⟨n1, n4, by rw [List.length_append]; omega, by rw [List.length_append]; omega, fun r hr => ?_, fun r hr t ht => ?_⟩
  · rcases List.mem_append.mp hr with z | z
    · exact S.wide r z
    · exact (hmo r z).1
  · rcases List.mem_append.mp hr with z | z
    · exact S.tie r z t ht
    · exact (hmo r z).2 t ht
theorem Sq.put {rows : List (List Int)} {n k j : Nat} {r : List Int} {v : Int} (S : Sq rows n) (hr : rows[k]? = some r) (hj : j < n) (hv : -50 ≤ v ∧ v ≤ 50) : Sq (rows.take k ++ [r.take j ++ [v] ++ r.drop (j + 1)] ++ rows.drop (k + 1)) n := by
  have hk := (List.getElem?_eq_some_iff.mp hr).1
  have hm := List.mem_of_getElem? hr
  have lr := S.wide r hm
  have e := S.len
  refine ⟨?_, fun x hx => ?_, fun x hx t ht => ?_⟩
  · rw [List.length_append, List.length_append, List.length_take, List.length_drop, List.length_singleton]
    omega
  · rcases List.mem_append.mp hx with z | z
    · rcases List.mem_append.mp z with z | z
      · exact S.wide x (List.mem_of_mem_take z)
      · rw [List.mem_singleton.mp z, List.length_append, List.length_append, List.length_take, List.length_drop, List.length_singleton]
        omega
    · exact S.wide x (List.mem_of_mem_drop z)
  · rcases List.mem_append.mp hx with z | z
    · rcases List.mem_append.mp z with z | z
      · exact S.tie x (List.mem_of_mem_take z) t ht
      · rw [List.mem_singleton.mp z] at ht
        rcases List.mem_append.mp ht with y | y
        · rcases List.mem_append.mp y with y | y
          · exact S.tie r hm t (List.mem_of_mem_take y)
          · rw [List.mem_singleton.mp y]
            exact hv
        · exact S.tie r hm t (List.mem_of_mem_drop y)
    · exact S.tie x (List.mem_of_mem_drop z) t ht
/-- the table of rows kept, one put anew -/
theorem tab_put {H : Hp} {p q : Addr} {as : List Addr} {rows : List (List Int)} {k : Nat} {r : List Int} (hp : H p = some (.tup ((as.take k).map V.ref ++ [V.ref q] ++ (as.drop (k + 1)).map V.ref))) (hal : as.length = rows.length) (hk : k < rows.length) (has : ∀ (i : Nat) (r : List Int), rows[i]? = some r → ∃ b, as[i]? = some b ∧ H b = some (.tup (r.map V.int))) (hq : H q = some (.tup (r.map V.int))) : TabAt H p (rows.take k ++ [r] ++ rows.drop (k + 1)) := by
  refine ⟨as.take k ++ [q] ++ as.drop (k + 1), by rw [hp, List.map_append, List.map_append]; rfl, ?_, fun i s e => ?_⟩
  · simp only [List.length_append, List.length_take, List.length_drop, List.length_cons, List.length_nil, hal]
  · rw [List.append_assoc] at e ⊢
    rw [List.getElem?_append] at e ⊢
    rw [List.length_take] at e ⊢
    rw [hal]
    have m1 : min k rows.length = k := by omega
    rw [m1] at e ⊢
    by_cases c : i < k
    · rw [if_pos c] at e ⊢
      rw [List.getElem?_take_of_lt c] at e ⊢
      exact has i s e
    · rw [if_neg c] at e ⊢
      by_cases z : i - k = 0
      · rw [z] at e ⊢
        cases (Option.some.inj e)
        exact ⟨q, rfl, hq⟩
      · obtain ⟨m, hm⟩ : ∃ m, i - k = m + 1 := ⟨i - k - 1, by omega⟩
        rw [hm, List.singleton_append, List.getElem?_cons_succ, List.getElem?_drop] at e ⊢
        exact has _ s e
section
variable {P : Program} {w : World} {K : PySem.W.Frag} {mg : Str → Option Value} {base : Heap} {CT : Addr}
abbrev s_law : Stmt := topS 144
abbrev n_law : List Str := ["_law_script", "_law_feed_here", "_law_many", "_law_ties", "_law_way", "_law_at", "_law_spot", "_law_row", "_law_rows", "_law_i", "_law_j", "_law_side", "_law_ring", "_law_load", "_law_gaps", "_law_k", "_law_one"]
theorem sc_law : FnScope n_law ["_law_script"] (defScope s_law) := ⟨rfl, rfl, rfl, by decide +kernel, rfl, by decide +kernel, by decide +kernel⟩
def spLaw (K : PySem.W.Frag) (P1 P2 : Addr) : Sp := fun vs H Q _ => ∃ (a : Addr) (ns : List Int), vs = [.ref a] ∧ SqL K H a (ns.map V.int) ∧ ns.length ≤ 63 ∧ H P1 = some (.tbl #[]) ∧ H P2 = some (.tbl #[]) ∧ ∀ H', Q (.bl true) H'
abbrev TsL (P1 P2 : Addr) : List (Addr × Str) := [(P1, qL "_law_all_refuse"), (P2, qL "_law_other_doors")]
theorem ok_law {f P1 P2 : Addr} {fd : FuncData} (F : Fun K "law" "law" s_law f fd) (T : Tx mg)
    (c_law_feed : Cal P w K mg base CX0 1 "_law_feed" ["_law_script"] (spFeed K)) (c_law_draw : Cal P w K mg base CX0 1 "_law_draw" ["_law_feed_here", "_law_many"] spDraw)
    (c_law_even : Cal P w K mg base CX0 3 "_law_even" ["_law_feed_here", "_law_many", "_law_reach"] spEven) (c_law_roots : Cal P w K mg base CX0 2 "_law_roots" ["_law_feed_here", "_law_ties", "_law_most", "_law_reach"] spRoots)
    (c_barred : Cal P w K mg base CX0 4 "barred" ["table"] spBarX) (c_weights_tables : Cal P w K mg base CX0 6 "weights_tables" ["table"] spWeights) (c_law_all_refuse : Cal P w K mg base CX0 12 "_law_all_refuse" ["_law_ties"] (spAll (TsL P1 P2))) (c_law_is_bar : Cal P w K mg base CX0 1 "_law_is_bar" ["_law_ties", "_law_ring"] spIsBar) :
    FnOk P w K mg base CX0 13 f fd ["_law_script"] (spLaw K P1 P2) := by
  refine F.ok sc_law (fun vs H Q E h => ?_) (fun cdv A outer s H vs Q E hr h => ?_)
  · obtain ⟨a, ns, rfl, _⟩ := h
    rfl
  · obtain ⟨a, ns, rfl, hS, hlen, hP1, hP2, q⟩ := h
    have hu := hr.units
    refine ⟨_, (pss_cons (ps_set (i := 1) sc_law.nd rfl (.inl rfl) (pe_cal c_law_feed (hr.mono (by decide)) (by rfl) (pa_cons (pv 0) pa_nil)))
  (pss_cons (ps_set (i := 2) sc_law.nd rfl (.inr rfl) (pe_op op_add pe_int (pe_cal c_law_draw (hr.mono (by decide)) (by rfl) (pa_cons (pv 1) (pa_cons pe_int pa_nil)))))
  (pss_cons (ps_set (i := 3) sc_law.nd rfl (.inr rfl) (pe_cal c_law_even (hr.mono (by decide)) (by rfl) (pa_cons (pv 1) (pa_cons (pv 2) (pa_cons pe_int pa_nil)))))
  (pss_cons (ps_set (i := 4) sc_law.nd rfl (.inl rfl) (pe_cal c_law_draw (hr.mono (by decide)) (by rfl) (pa_cons (pv 1) (pa_cons pe_int pa_nil))))
  (C8.pss_cut (ps_if (pt_cmpR op_eq (pv 4) pe_int (nomark _))
    (pss_cons (ps_par (i := 5) (j := 6) (by rfl) sc_law.nd rfl rfl (by decide) rfl rfl (pa_cons (pe_cal c_law_draw (hr.mono (by decide)) (by rfl) (pa_cons (pv 1) (pa_cons (pv 2) pa_nil))) (pa_cons (pe_cal c_law_draw (hr.mono (by decide)) (by rfl) (pa_cons (pv 1) (pa_cons (pv 2) pa_nil))) pa_nil)) (by rfl))
    (pss_cons (ps_set (i := 7) sc_law.nd rfl (.inl rfl) (pe_op (o_catN) (pe_op (o_catN) (pe_slice (l_tupN) (pe_ix (i_tup (K := K)) (pv 3) (pv 5) (fun _ _ => rfl)) po_none (po_some (pv 6))) (pe_tup (pa_cons (pe_op op_sub (pe_cal c_law_draw (hr.mono (by decide)) (by rfl) (pa_cons (pv 1) (pa_cons pe_int pa_nil))) pe_int) pa_nil))) (pe_slice (l_tupN) (pe_ix (i_tup (K := K)) (pv 3) (pv 5) (fun _ _ => rfl)) (po_some (pe_op op_add (pv 6) pe_int)) po_none)))
    (pss_one (ps_set (i := 3) sc_law.nd rfl (.inr rfl) (pe_op (o_catN) (pe_op (o_catN) (pe_slice (l_tupN) (pv 3) po_none (po_some (pv 5))) (pe_tup (pa_cons (pv 7) pa_nil))) (pe_slice (l_tupN) (pv 3) (po_some (pe_op op_add (pv 5) pe_int)) po_none))))))
    pss_nil)
  (C8.pss_cut (ps_if (pt_cmpR op_eq (pv 4) pe_int (nomark _))
    (pss_cons (ps_setLc (i := 8) (own := [("_law_k", 15)]) (by rfl) sc_law.nd rfl rfl (sw_true rfl rfl rfl (by decide +kernel)) (pi_range1 (by rfl) T.range (pa_cons (pv 2) pa_nil)) (blkOk_by (own := [("_law_k", 15)]) (N := n_law) (sc := defScope s_law) (by decide +kernel)) (fun _ _ _ _ _ => (pg_name (i := 15) sc_law.nd rfl (.inl rfl))) (fun _ _ _ _ _ => pts_nil) (fun _ _ _ _ _ => (pe_op op_rep (pe_lst (pa_cons pe_int pa_nil)) (pv 2))))
    (pss_cons (ps_for PassesOwn.never rfl (pi_range1 (by rfl) T.range (pa_cons (pv 2) pa_nil)) (pg_name (i := 9) sc_law.nd rfl (.inr rfl))
      (pss_one (ps_for PassesOwn.never rfl (pi_range2 (by rfl) T.range (pa_cons (pe_op op_add (pv 9) pe_int) (pa_cons (pv 2) pa_nil))) (pg_name (i := 10) sc_law.nd rfl (.inl rfl))
        (pss_cons (ps_asg (pe_op op_sub (pe_cal c_law_draw (hr.mono (by decide)) (by rfl) (pa_cons (pv 1) (pa_cons pe_int pa_nil))) pe_int) (pg_sub (pe_ix (i_list (K := K)) (pv 8) (pv 9) (fun _ _ => rfl)) (pv 10) set_list))
        (pss_cons (ps_set (i := 11) sc_law.nd rfl (.inl rfl) (pe_op op_sub (pe_callTy call_int1 (by rfl) T.int (by decide +kernel) (pa_cons (pe_cmpR op_lt (pe_ix (i_list (K := K)) (pe_ix (i_list (K := K)) (pv 8) (pv 9) (fun _ _ => rfl)) (pv 10) (fun _ _ => rfl)) pe_int (nomark _)) pa_nil)) (pe_callTy call_int1 (by rfl) T.int (by decide +kernel) (pa_cons (pe_cmpR op_gt (pe_ix (i_list (K := K)) (pe_ix (i_list (K := K)) (pv 8) (pv 9) (fun _ _ => rfl)) (pv 10) (fun _ _ => rfl)) pe_int (nomark _)) pa_nil))))
        (pss_one (ps_asg (pe_op op_mul (pv 11) (pe_op op_add pe_int (pe_cal c_law_draw (hr.mono (by decide)) (by rfl) (pa_cons (pv 1) (pa_cons pe_int pa_nil))))) (pg_sub (pe_ix (i_list (K := K)) (pv 8) (pv 10) (fun _ _ => rfl)) (pv 9) set_list))))))))
    (pss_one (ps_set (i := 3) sc_law.nd rfl (.inr rfl) (pe_callTy (c_tup (K := K)) (by rfl) T.tuple (by decide +kernel) (pa_cons (pe_lc (own := [("_law_row", 7)]) (by rfl) sc_law.nd (p_list (K := K) (pv 8)) (blkOk_by (own := [("_law_row", 7)]) (N := n_law) (sc := defScope s_law) (by decide +kernel)) (fun _ _ _ _ _ => (pg_name (i := 7) sc_law.nd rfl (.inl rfl))) (fun _ _ _ _ _ => pts_nil) (fun _ _ _ _ _ => (pe_callTy (c_tup (K := K)) (by rfl) T.tuple (by decide +kernel) (pa_cons (pv 7) pa_nil)))) pa_nil))))))
    pss_nil)
  (pss_cons (ps_set (i := 3) sc_law.nd rfl (.inr rfl) (pe_cal c_law_roots (hr.mono (by decide)) (by rfl) (pa_cons (pv 1) (pa_cons (pv 3) (pa_cons pe_int (pa_cons pe_int pa_nil))))))
  (pss_cons (ps_set (i := 12) sc_law.nd rfl (.inl rfl) (pe_cal c_barred (hr.mono (by decide)) (by rfl) (pa_cons (pv 3) pa_nil)))
  (pss_cons (ps_if (pt_cmpR op_notN (pv 12) pe_non (nomark _))
    (pss_one (ps_ret (pe_and (pe_cal c_law_all_refuse (hr.mono (by decide)) (by rfl) (pa_cons (pv 3) pa_nil)) (pe_one (pe_cal c_law_is_bar (hr.mono (by decide)) (by rfl) (pa_cons (pv 3) (pa_cons (pv 12) pa_nil)))))))
    pss_nil)
  (pss_cons (ps_set (i := 13) sc_law.nd rfl (.inr rfl) (pe_cal c_weights_tables (hr.mono (by decide)) (by rfl) (pa_cons (pv 3) pa_nil)))
  (pss_cons (ps_if (PW.pt (pw_or (pt_not (pt_val (pe_callB (c_isi (K := K)) (by rfl) T.isinstance (by decide +kernel) (pa_cons (pv 13) (pa_cons (pe_bltn (v := .ty "tuple") (by rfl) T.tuple (by decide +kernel) rfl) pa_nil))))) (pw_or1 (pt_cmpR op_ne (pe_callB (c_len (K := K)) (by rfl) T.len PySem.boot_len (pa_cons (pv 13) pa_nil)) (pv 2) (nomark _)))))
    (pss_one (ps_ret pe_bl))
    pss_nil)
  (pss_cons (ps_if (pt_not (pt_val (pe_callB (c_all (K := K) rfl) (by rfl) T.all (by decide +kernel) (pa_cons (pe_lc (own := [("_law_one", 16)]) (by rfl) sc_law.nd (p_tup (K := K) (pv 13)) (blkOk_by (own := [("_law_one", 16)]) (N := n_law) (sc := defScope s_law) (by decide +kernel)) (fun _ _ _ _ _ => (pg_name (i := 16) sc_law.nd rfl (.inl rfl))) (fun _ _ _ _ _ => pts_nil) (fun _ _ _ _ _ => (pe_and (pe_callB (c_isi (K := K)) (by rfl) T.isinstance (by decide +kernel) (pa_cons (pv 16) (pa_cons (pe_bltn (v := .ty "int") (by rfl) T.int (by decide +kernel) rfl) pa_nil))) (pe_one (pe_cmpR op_gt (pv 16) pe_int (nomark _)))))) pa_nil))))
    (pss_one (ps_ret pe_bl))
    pss_nil)
  (pss_cons (ps_for PassesOwn.never rfl (pi_range1 (by rfl) T.range (pa_cons (pv 2) pa_nil)) (pg_name (i := 9) sc_law.nd rfl (.inr rfl))
    (pss_cons (ps_setLc (i := 14) (own := [("_law_j", 10)]) (by rfl) sc_law.nd rfl rfl (sw_true rfl rfl rfl (by decide +kernel)) (pi_range1 (by rfl) T.range (pa_cons (pv 2) pa_nil)) (blkOk_by (own := [("_law_j", 10)]) (N := n_law) (sc := defScope s_law) (by decide +kernel)) (fun _ _ _ _ _ => (pg_name (i := 10) sc_law.nd rfl (.inl rfl))) (fun _ _ _ _ _ => pts_nil) (fun _ _ _ _ _ => (pe_op op_add (pe_op op_mul (pe_ix (i_tup (K := K)) (pv 13) (pv 9) (fun _ _ => rfl)) (pe_ix (i_tup (K := K)) (pe_ix (i_tup (K := K)) (pv 3) (pv 9) (fun _ _ => rfl)) (pv 10) (fun _ _ => rfl))) (pe_op op_mul (pe_ix (i_tup (K := K)) (pv 13) (pv 10) (fun _ _ => rfl)) (pe_ix (i_tup (K := K)) (pe_ix (i_tup (K := K)) (pv 3) (pv 10) (fun _ _ => rfl)) (pv 9) (fun _ _ => rfl))))))
    (pss_one (ps_if (pt_cmpR (op_neD hu) (pv 14) (pe_op op_rep (pe_lst (pa_cons pe_int pa_nil)) (pv 2)) (nomark _))
      (pss_one (ps_ret pe_bl))
      pss_nil))))
  (pss_one (ps_ret pe_bl))))))))))))))), ?_⟩
    refine ⟨.ref a, rfl, a, ns, rfl, hS, fun f l H1 s1 nf hf1 => ?_⟩
    have tb1 : Tabs (TsL P1 P2) H1 := fun p hp => by
      rcases List.mem_cons.mp hp with rfl | hp
      · exact TabS.nil (s1 _ _ hP1)
      · rw [List.mem_singleton.mp hp]
        exact TabS.nil (s1 _ _ hP2)
    clear hS hP1 hP2 s1
    refine ⟨.ref f, rfl, f, l, _, rfl, hf1, by decide, by decide, fun u H2 u0 u4 sb2 hf2 => ⟨_, _, rfl, rfl, ?_⟩⟩
    have tb2 := Tabs.but sb2 hf1 tb1
    obtain ⟨n, hn⟩ : ∃ n : Nat, 1 + u = (n : Int) := ⟨(1 + u).toNat, by omega⟩
    rw [show (fun i j : Int => V.int (i + j)) 1 u = V.int (n : Int) from congrArg V.int hn]
    have n1 : 1 ≤ n := by omega
    have n4 : n ≤ 4 := by omega
    clear hn u0 u4
    refine ⟨.ref f, rfl, .int n, rfl, f, l, n, 2, rfl, hf2, n4, by decide, by decide, fun a1 ls B H3 sb3 hf3 hT3 g3 => ?_⟩
    have tb3 := Tabs.but sb3 hf2 tb2
    refine ⟨.ref f, rfl, f, l, _, rfl, hf3, by decide, by decide, fun way H4 w0 w3 sb4 hf4 => ?_⟩
    have tb4 := Tabs.but sb4 hf3 tb3
    have hT4 := hT3.but sb4 hf3
    have S4 : Sq (matRows n B) n := sq_mat fun i j _ _ => by have := g3.bd i j; omega
    generalize matRows n B = rows4 at hT4 S4
    clear hT3 hf1 hf2 hf3 tb1 tb2 tb3 sb2 sb3 sb4 g3
    refine ⟨fun σ H' => ∃ (y5 y6 y7 : Option V) (t : Addr) (rows : List (List Int)), σ = [some (.ref a), some (.ref f), some (.int n), some (.ref t), some (.int way), y5, y6, y7, none, none, none, none, none, none, none, none, none] ∧ Sq rows n ∧ TabAt H' t rows ∧ FeedAt H' f l ∧ Tabs (TsL P1 P2) H', ?_, ?_⟩
    · refine ⟨.int way, rfl, rfl, _, rfl, ite2 (fun _ => ?_) (fun _ => ⟨_, _, _, a1, rows4, rfl, S4, hT4, hf4, tb4⟩)⟩
      refine ⟨.ref f, rfl, .int n, rfl, f, l, _, rfl, hf4, by omega, by omega, fun k0 H5 k1 k2 sb5 hf5 => ⟨.ref f, rfl, .int n, rfl, f, l, _, rfl, hf5, by omega, by omega, fun j0 H6 j1 j2 sb6 hf6 => ⟨_, _, rfl, ?_⟩⟩⟩
      obtain ⟨k, rfl⟩ : ∃ k : Nat, k0 = (k : Int) := ⟨k0.toNat, by omega⟩
      obtain ⟨j, rfl⟩ : ∃ j : Nat, j0 = (j : Int) := ⟨j0.toNat, by omega⟩
      have hj : j < n := by omega
      have l4 := S4.len
      have hk : k < rows4.length := by omega
      have hT6 := (hT4.but sb5 hf4).but sb6 hf5
      have tb6 := Tabs.but sb6 hf5 (Tabs.but sb5 hf4 tb4)
      obtain ⟨as, ha, hal, has⟩ := hT6
      have er : rows4[k]? = some rows4[k] := List.getElem?_eq_getElem hk
      generalize rows4[k] = r at er
      obtain ⟨c, ec, hc⟩ := has k r er
      have ecv : (as.map V.ref)[k]? = some (.ref c) := by rw [List.getElem?_map, ec]; rfl
      have lr := S4.wide r (List.mem_of_getElem? er)
      have ejj : (j : Int) + 1 = ((j + 1 : Nat) : Int) := by omega
      have ekk : (k : Int) + 1 = ((k + 1 : Nat) : Int) := by omega
      clear sb5 sb6 hf5 hf4 tb4 hT4
      refine ⟨.ref a1, rfl, .int k, rfl, a1, _, k, .ref c, rfl, rfl, SqT.of ha, atI_nat ecv, .int j, rfl, j, rfl, c, _, rfl, hc, fun p7 H7 s7 h7 => ?_⟩
      rw [cut_take] at h7
      refine ⟨.ref f, rfl, f, l, _, rfl, hf6.same s7, by decide, by decide, fun d H8 d0 d9 sb8 hf8 => ⟨_, _, rfl, rfl, by show 1 ≤ sizeLine; decide, fun q eq => ?_⟩⟩
      have sq := same_upd (o := .tup [.int (d - 4)]) eq
      have K9 : ∀ b xs, H6 b = some (.tup xs) → (upd H8 q (.tup [.int (d - 4)])) b = some (.tup xs) := fun b xs e => sq _ _ (sb8 _ _ ((hf6.same s7).tup (s7 _ _ e)) (s7 _ _ e))
      have h9 := sq _ _ (sb8 _ _ ((hf6.same s7).tup h7) h7)
      have tb9 := (Tabs.but sb8 (hf6.same s7) (tb6.ext s7)).ext sq
      have hf9 := hf8.same sq
      have q9 : (upd H8 q (.tup [.int (d - 4)])) q = some (.tup [.int (d - 4)]) := upd_same
      refine ⟨p7, q, _, _, rfl, rfl, h9, q9, by rw [List.length_take, List.length_map]; omega, by show 1 ≤ 400; decide, fun p10 H10 s10 h10 => ?_⟩
      refine ⟨.ref a1, rfl, .int k, rfl, a1, _, k, .ref c, rfl, rfl, SqT.of (s10 _ _ (K9 _ _ ha)), atI_nat ecv, .int j, rfl, _, _, rfl, rfl, (j : Int) + 1, rfl, c, _, rfl, s10 _ _ (K9 _ _ hc), fun p11 H11 s11 h11 => ?_⟩
      rw [ejj, cut_drop] at h11
      refine ⟨p10, p11, _, _, rfl, rfl, s11 _ _ h10, h11, by rw [List.length_append, List.length_take, List.length_map]; show _ + 1 ≤ 400; omega, by rw [List.length_drop, List.length_map]; omega, fun p12 H12 s12 h12 => ?_⟩
      have h12' : H12 p12 = some (.tup ((r.take j ++ [d - 4] ++ r.drop (j + 1)).map V.int)) := by
        rw [h12, List.map_append, List.map_append, List.map_take, List.map_drop]
        rfl
      have s92 := (s10.trans s11).trans s12
      have K12 : ∀ b xs, H6 b = some (.tup xs) → H12 b = some (.tup xs) := fun b xs e => s92 _ _ (K9 _ _ e)
      have hf12 := hf9.same s92
      have tb12 := tb9.ext s92
      clear h12 h11 h10 h9 q9 K9 hf9 tb9 s92 s12 s11 s10
      refine ⟨.ref a1, rfl, .int k, rfl, k, rfl, a1, _, rfl, K12 _ _ ha, fun p13 H13 s13 h13 => ?_⟩
      rw [cut_take] at h13
      refine ⟨.ref p12, rfl, by show 1 ≤ sizeLine; decide, fun q2 eq2 => ?_⟩
      have sq2 := same_upd (o := .tup [.ref p12]) eq2
      refine ⟨p13, q2, _, _, rfl, rfl, sq2 _ _ h13, upd_same, by rw [List.length_take, List.length_map]; omega, by show 1 ≤ 400; decide, fun p14 H14 s14 h14 => ?_⟩
      refine ⟨.ref a1, rfl, .int k, rfl, _, _, rfl, rfl, (k : Int) + 1, rfl, a1, _, rfl, s14 _ _ (sq2 _ _ (s13 _ _ (K12 _ _ ha))), fun p15 H15 s15 h15 => ?_⟩
      rw [ekk, cut_drop] at h15
      refine ⟨p14, p15, _, _, rfl, rfl, s15 _ _ h14, h15, by rw [List.length_append, List.length_take, List.length_map]; show _ + 1 ≤ 400; omega, by rw [List.length_drop, List.length_map]; omega, fun p16 H16 s16 h16 => ?_⟩
      have s126 := (((s13.trans sq2).trans s14).trans s15).trans s16
      rw [← List.map_take, ← List.map_drop] at h16
      exact ⟨_, _, _, p16, _, rfl, S4.put er hj (by omega), tab_put (q := p12) h16 hal hk (fun i r e => by
        obtain ⟨b, e1, e2⟩ := has i r e
        exact ⟨b, e1, s126 _ _ (K12 _ _ e2)⟩) (s126 _ _ h12'), hf12.same s126, tb12.ext s126⟩
    · rintro σ H5 ⟨y5, y6, y7, t, rows5, rfl, S5, hT5, hf5, tb5⟩
      clear hT4 hf4 tb4 S4
      refine ⟨fun σ H' => ∃ (y8 y9 y10 y11 : Option V) (t : Addr) (rows : List (List Int)), σ = [some (.ref a), some (.ref f), some (.int n), some (.ref t), some (.int way), y5, y6, y7, y8, y9, y10, y11, none, none, none, none, none] ∧ Sq rows n ∧ TabAt H' t rows ∧ FeedAt H' f l ∧ Tabs (TsL P1 P2) H', ?_, ?_⟩
      · refine ⟨.int way, rfl, rfl, _, rfl, ite2 (fun _ => ?_) (fun _ => ⟨_, _, _, _, t, rows5, rfl, S5, hT5, hf5, tb5⟩)⟩
        refine ⟨.int n, rfl, n, rfl, by omega, by omega, fun R eR => ?_⟩
        have nRf : R ≠ f := hf5.ne eR
        refine lc_range (fun i H' => ∃ as : List Addr, as.length = i ∧ as.Nodup ∧ (∀ b ∈ as, H5 b = none ∧ b ≠ R ∧ H' b = some (.lst ((matRow n fun _ => 0).map V.int))) ∧ H' R = some (.lst (as.map V.ref)) ∧ SameBut f H5 H' ∧ FeedAt H' f l) ⟨[], rfl, List.nodup_nil, by simp, upd_same, (SameBut.refl _ _).updN eR, hf5.put nRf (hf5.ne2 eR)⟩ ?_ ?_
        · rintro i H6 hi ⟨as, ea, nd, has, eR3, sb3, hf3⟩
          refine ⟨rfl, ?_⟩
          refine ⟨by show 1 ≤ sizeLine; decide, fun z ez => ⟨.int n, rfl, z, n, _, rfl, rfl, upd_same, by omega, by omega, ?_, fun b eb => ?_⟩⟩
          · show 1 * ((n : Int)).toNat ≤ sizeLine
            exact Nat.le_of_lt (small1000 (by omega))
          · have sz := same_upd (o := .lst [.int 0]) ez
            have sb := same_upd (o := .lst (List.replicate ((n : Int)).toNat [V.int 0]).flatten) eb
            have b3 : H6 b = none := sz.free eb
            have b0 : H5 b = none := sb3.none hf3 b3
            have nbR : b ≠ R := Ne.symm (ne_of_none eR3 b3)
            refine ⟨as.map V.ref, sb _ _ (sz _ _ eR3), by rw [List.length_map]; exact small1000 (by omega), as ++ [b], by rw [List.length_append, ea]; rfl, ?_, ?_, ?_, ((sb3.trans (sz.trans sb).but).updN eR), (hf3.same (sz.trans sb)).put nRf (hf5.ne2 eR)⟩
            · refine List.nodup_append.mpr ⟨nd, by simp, ?_⟩
              intro u hu v hv e
              rw [List.mem_singleton.mp hv] at e
              subst e
              have := (has _ hu).2.2
              rw [b3] at this
              cases this
            · intro u hu
              rcases List.mem_append.mp hu with hu | hu
              · obtain ⟨u0, u2, u3⟩ := has u hu
                exact ⟨u0, u2, by rw [upd_ne u2]; exact sb _ _ (sz _ _ u3)⟩
              · rw [List.mem_singleton.mp hu]
                refine ⟨b0, nbR, ?_⟩
                rw [upd_ne nbR, upd_same, Int.toNat_natCast, rep_flat]
            · rw [upd_same, List.map_append]
              rfl
        · rintro H6 ⟨as, ea, nd, has, eR3, sb3, hf3⟩
          have rw0 : RowsAt H6 as n fun _ _ => 0 := ⟨ea, nd, fun i b e => (has b (List.mem_of_getElem? e)).2.2⟩
          have hb0 : ∀ b ∈ as, H5 b = none ∧ b ≠ R := fun b hb => ⟨(has b hb).1, (has b hb).2.1⟩
          clear has
          refine ⟨.int n, rfl, n, rfl, by omega, by omega, for_range (fun i σ H' => ∃ (y9 y10 y11 : Option V) (B : Nat → Nat → Int), σ = [some (.ref a), some (.ref f), some (.int n), some (.ref t), some (.int way), y5, y6, y7, some (.ref R), y9, y10, y11, none, none, none, none, none] ∧ SameBut f H5 H' ∧ FeedAt H' f l ∧ H' R = some (.lst (as.map V.ref)) ∧ RowsAt H' as n B ∧ ∀ i j, -50 ≤ B i j ∧ B i j ≤ 50)
            ⟨none, none, none, _, rfl, sb3, hf3, eR3, rw0, fun _ _ => ⟨by decide, by decide⟩⟩ ?_ ?_⟩
          · rintro i σ H7 hi ⟨y9, y10, y11, B, rfl, sb7, hf7, eR7, rw7, bd7⟩
            have hi : i < n := hi
            have e0 : (0 : Int) + (i : Int) = (i : Int) := by omega
            rw [e0]
            refine ⟨_, rfl, _, _, rfl, rfl, _, rfl, _, n, rfl, ⟨by omega, by omega, by omega, by omega⟩, for_range (fun j σ H' => ∃ (y10 y11 : Option V) (B : Nat → Nat → Int), σ = [some (.ref a), some (.ref f), some (.int n), some (.ref t), some (.int way), y5, y6, y7, some (.ref R), some (.int (i : Int)), y10, y11, none, none, none, none, none] ∧ SameBut f H5 H' ∧ FeedAt H' f l ∧ H' R = some (.lst (as.map V.ref)) ∧ RowsAt H' as n B ∧ ∀ i j, -50 ≤ B i j ∧ B i j ≤ 50)
              ⟨y10, y11, B, rfl, sb7, hf7, eR7, rw7, bd7⟩ ?_ ?_⟩
            · rintro j σ H8 hj ⟨y10, y11, B, rfl, sb8, hf8, eR8, rw8, bd8⟩
              obtain ⟨J, hJ⟩ : ∃ J : Nat, (i : Int) + 1 + (j : Int) = (J : Int) := ⟨i + 1 + j, by omega⟩
              rw [hJ]
              have hJn : J < n := by omega
              obtain ⟨bi, hbi⟩ : ∃ b, as[i]? = some b := ⟨_, List.getElem?_eq_getElem (by omega)⟩
              obtain ⟨bj, hbj⟩ : ∃ b, as[J]? = some b := ⟨_, List.getElem?_eq_getElem (by omega)⟩
              have gbi : (as.map V.ref)[i]? = some (.ref bi) := by rw [List.getElem?_map, hbi]; rfl
              have gbj : (as.map V.ref)[J]? = some (.ref bj) := by rw [List.getElem?_map, hbj]; rfl
              obtain ⟨bi0, biR⟩ := hb0 bi (List.mem_of_getElem? hbi)
              obtain ⟨bj0, bjR⟩ := hb0 bj (List.mem_of_getElem? hbj)
              refine ⟨.ref f, rfl, f, l, _, rfl, hf8, by decide, by decide, fun v H9 v0 v5 sb9 hf9 => ⟨_, _, rfl, rfl, ?_⟩⟩
              have eR9 := sb9 _ _ nRf eR8
              have rw9 : RowsAt H9 as n B := ⟨rw8.1, rw8.2.1, fun k b e => sb9 _ _ (hf5.ne (hb0 b (List.mem_of_getElem? e)).1) (rw8.2.2 k b e)⟩
              have sb9 : SameBut f H5 H9 := sb8.trans sb9
              refine ⟨_, rfl, _, rfl, R, _, i, _, rfl, rfl, SqL.of eR9, atI_nat gbi, _, rfl, bi, _, J, J, rfl, rfl, rw9.2.2 i bi hbi, ?_, ?_⟩
              · unfold ixN
                rw [if_pos (by omega), List.length_map, matRow_len, if_pos (by omega), Int.toNat_natCast]
              have rw10 := RowsAt.put rw9 (j := J) hbi (v - 2)
              have eR10 := (upd_ne (H := H9) (o := .lst (((matRow n (B i)).map V.int).set J (V.int (v - 2)))) (Ne.symm biR)).trans eR9
              have sb10 := sb9.updN (o := .lst (((matRow n (B i)).map V.int).set J (V.int (v - 2)))) bi0
              have hf10 := hf9.put (o := .lst (((matRow n (B i)).map V.int).set J (V.int (v - 2)))) (hf5.ne bi0) (hf5.ne2 bi0)
              have bd10 : ∀ x y, -50 ≤ put2 B i J (v - 2) x y ∧ put2 B i J (v - 2) x y ≤ 50 := fun x y => by
                unfold put2
                split
                · omega
                · exact bd8 x y
              show tSeq _ _ _ _ (upd H9 bi (.lst (((matRow n (B i)).map V.int).set J (V.int (v - 2)))))
              generalize upd H9 bi (.lst (((matRow n (B i)).map V.int).set J (V.int (v - 2)))) = H10 at rw10 eR10 sb10 hf10
              generalize put2 B i J (v - 2) = B10 at rw10 bd10
              have gx : ((matRow n (B10 i)).map V.int)[J]? = some (.int (B10 i J)) := by
                rw [List.getElem?_map, matRow_get hJn]
                rfl
              refine ⟨_, rfl, _, rfl, R, _, i, _, rfl, rfl, SqL.of eR10, atI_nat gbi, _, rfl, bi, _, J, _, rfl, rfl, SqL.of (rw10.2.2 i bi hbi), atI_nat gx, _, _, rfl, rfl, .inr ⟨_, rfl, ?_⟩⟩
              refine ⟨_, rfl, _, rfl, R, _, i, _, rfl, rfl, SqL.of eR10, atI_nat gbi, _, rfl, bi, _, J, _, rfl, rfl, SqL.of (rw10.2.2 i bi hbi), atI_nat gx, _, _, rfl, rfl, .inr ⟨_, rfl, _, _, rfl, rfl, ?_⟩⟩
              refine ⟨_, rfl, .ref f, rfl, f, l, _, rfl, hf10, by decide, by decide, fun d H11 d0 d3 sb11 hf11 => ⟨_, _, rfl, rfl, _, _, rfl, rfl, .inr ⟨by omega, by omega⟩, ?_⟩⟩
              have eR11 := sb11 _ _ nRf eR10
              have rw11 : RowsAt H11 as n B10 := ⟨rw10.1, rw10.2.1, fun k b e => sb11 _ _ (hf5.ne (hb0 b (List.mem_of_getElem? e)).1) (rw10.2.2 k b e)⟩
              have sb11 : SameBut f H5 H11 := sb10.trans sb11
              refine ⟨_, rfl, _, rfl, R, _, J, _, rfl, rfl, SqL.of eR11, atI_nat gbj, _, rfl, bj, _, i, i, rfl, rfl, rw11.2.2 J bj hbj, ?_, ?_⟩
              · unfold ixN
                rw [if_pos (by omega), List.length_map, matRow_len, if_pos (by omega), Int.toNat_natCast]
              refine ⟨_, _, _, rfl, sb11.updN bj0, hf11.put (hf5.ne bj0) (hf5.ne2 bj0), (upd_ne (Ne.symm bjR)).trans eR11, RowsAt.put rw11 hbj _, fun x y => ?_⟩
              unfold put2
              split
              · split <;> split <;> omega
              · exact bd10 x y
            · rintro σ H8 ⟨y10, y11, B, rfl, rest⟩
              exact ⟨_, _, _, B, rfl, rest⟩
          · rintro σ H7 ⟨y9, y10, y11, B, rfl, sb7, hf7, eR7, rw7, bd7⟩
            refine ⟨_, rfl, R, rfl, ⟨_, SqL.of eR7⟩, fun D eD => ?_⟩
            have D0 : H5 D = none := sb7.none hf7 eD
            have nDR : R ≠ D := ne_of_none eR7 eD
            refine lc_list (K := K) (a := R) (xs := as.map V.ref) (fun i H' => ∃ ts : List Addr, ts.length = i ∧ (∀ (k : Nat) (b : Addr), ts[k]? = some b → H' b = some (.tup ((matRow n (B k)).map V.int))) ∧ H' D = some (.lst (ts.map V.ref)) ∧ (∀ b o, b ≠ D → H7 b = some o → H' b = some o)) ⟨[], rfl, by simp, upd_same, fun b o nb e => by rw [upd_ne nb]; exact e⟩ (fun i H' _ ⟨ts, _, _, _, k⟩ => SqL.of (k _ _ nDR eR7)) ?_ ?_
            · rintro i v H8 hv ⟨ts, et, hts, eD8, k8⟩
              obtain ⟨b, ei, rfl⟩ := ref_at hv
              have hb8 : H8 b = some (.lst ((matRow n (B i)).map V.int)) := k8 _ _ (ne_of_none (rw7.2.2 i b ei) eD) (rw7.2.2 i b ei)
              refine ⟨rfl, .ref b, rfl, b, _, rfl, .inl ⟨SqL.of hb8, fun p ep => ?_⟩⟩
              have sp := same_upd (o := .tup ((matRow n (B i)).map V.int)) ep
              have npD : p ≠ D := Ne.symm (ne_of_none eD8 ep)
              refine ⟨ts.map V.ref, sp _ _ eD8, by rw [List.length_map]; exact small1000 (by have := (List.getElem?_eq_some_iff.mp ei).1; omega), ts ++ [p], by rw [List.length_append, et]; rfl, fun k c e => ?_, ?_, fun c o nc e => ?_⟩
              · rw [List.getElem?_append] at e
                split at e
                · have hc := hts k c e
                  have ncD : c ≠ D := ne_of hc eD8 (by intro z; cases z)
                  rw [upd_ne ncD]
                  exact sp _ _ hc
                · next hk =>
                  have : k = i := by
                    have h2 := (List.getElem?_eq_some_iff.mp e).1
                    rw [List.length_singleton] at h2
                    omega
                  subst this
                  have : c = p := by
                    have z : k - ts.length = 0 := by omega
                    rw [z] at e
                    exact (Option.some.inj e).symm
                  subst this
                  rw [upd_ne npD, upd_same]
              · rw [upd_same, List.map_append]
                rfl
              · rw [upd_ne nc]
                exact sp _ _ (k8 _ _ nc e)
            · rintro H8 ⟨ts, et, hts, eD8, k8⟩
              refine ⟨D, _, rfl, .inl ⟨SqL.of eD8, fun p ep => ?_⟩⟩
              have sa := same_upd (o := .tup (ts.map V.ref)) ep
              have sb8 : SameBut f H5 H8 := fun b o nb e => k8 _ _ (ne_of_none e D0) (sb7 _ _ nb e)
              have hf8 : FeedAt H8 f l := by
                obtain ⟨ns, i, n, m, c, a1, a2, a3, a4⟩ := hf7
                exact ⟨ns, i, n, m, c, a1, k8 _ _ (ne_of_none a2 eD) a2, k8 _ _ (ne_of_none a3 eD) a3, a4⟩
              refine ⟨_, _, _, _, p, matRows n B, rfl, sq_mat fun i j _ _ => bd7 i j, ⟨ts, upd_same, ?_, fun i r e => ?_⟩, hf8.same sa, (Tabs.but sb8 hf5 tb5).ext sa⟩
              · rw [matRows_len, et, List.length_map]
                exact rw7.1
              · have hi : i < n := by
                  have := (List.getElem?_eq_some_iff.mp e).1
                  rw [matRows_len] at this
                  exact this
                rw [matRows_get hi] at e
                cases e
                have ht : i < ts.length := by
                  rw [et, List.length_map, rw7.1]
                  exact hi
                exact ⟨_, List.getElem?_eq_getElem ht, sa _ _ (hts i _ (List.getElem?_eq_getElem ht))⟩
      · rintro σ H6 ⟨y8, y9, y10, y11, t6, rows6, rfl, S6, hT6, hf6, tb6⟩
        clear hT5 hf5 tb5 S5
        have l6 := S6.len
        refine ⟨.ref f, rfl, .ref t6, rfl, f, l, t6, rows6, n, 3, 5, rfl, hf6, hT6, n1, n4, by omega, by omega, S6.wide, by decide, by decide, by decide, fun tt more H7 sb7 hf7 hT7 hm hmo => ?_⟩
        have tb7 := Tabs.but sb7 hf6 tb6
        have O := S6.fm n1 n4 (show more.length ≤ 4 by omega) (fun x hx => ⟨(hmo x hx).1, fun t ht => by have := (hmo x hx).2 t ht; omega⟩)
        generalize rows6 ++ more = R0 at O hT7
        refine ⟨.ref tt, rfl, tt, R0, n, rfl, hT7, O, fun ev H8 s8 => ?_, fun r g H8 s8 hr8 hb => ?_⟩
        · refine ⟨.non, rfl, rfl, _, rfl, iteF ?_⟩
          have O' := O.tab ev
          have hT8 := hT7.same s8
          have hl := O.len
          refine ⟨.ref tt, rfl, tt, R0, n, rfl, hT8, O', fun p W H9 s9 hp WT => ?_⟩
          refine ⟨.ref p, rfl, _, _, _, _, true, rfl, .ty "tuple", .base (.tup hp), kit_ty (by decide +kernel), true, rfl, iteF ?_⟩
          refine ⟨.ref p, rfl, p, _, rfl, .inr (SqT.of hp), .int n, rfl, rfl, _, rfl, ite2 (fun z => absurd z ?_) (fun _ => ?_)⟩
          · rw [List.length_map, List.length_range, decide_eq_true rfl]
            decide
          refine ⟨.ref p, rfl, p, rfl, ⟨_, SqT.of hp⟩, fun D eD => ?_⟩
          refine lc_tup (K := K) (a := p) (xs := (List.range n).map fun i => V.int (W i)) (fun j H' => H' D = some (.lst ((List.replicate j true).map V.bl)) ∧ Same H9 H') ⟨upd_same, same_upd eD⟩ (fun j H' _ ⟨_, k⟩ => SqT.of (k _ _ hp)) ?_ ?_
          · rintro j v H10 hv ⟨e1, k1⟩
            rw [List.getElem?_map] at hv
            obtain ⟨u, eu, rfl⟩ := Option.map_eq_some_iff.mp hv
            have hj := (List.getElem?_eq_some_iff.mp eu).1
            rw [List.length_range] at hj
            rw [List.getElem?_range hj] at eu
            cases eu
            have wp := WT.pos j hj
            refine ⟨rfl, .int (W j), rfl, _, _, _, _, true, rfl, .ty "int", .base (.int (W j)), kit_ty (by decide +kernel), true, rfl, ?_⟩
            have ed : (fun i j : Int => V.bl (decide (j < i))) (W j : Int) 0 = V.bl true := by
              show V.bl (decide ((0 : Int) < (W j : Int))) = V.bl true
              rw [decide_eq_true (show (0 : Int) < (W j : Int) by omega)]
            refine ⟨.int (W j), rfl, _, _, rfl, rfl, _, e1, by rw [List.length_map, List.length_replicate]; exact small1000 (by omega), ?_, Same.updN k1 eD⟩
            rw [upd_same, List.replicate_succ', List.map_append, ed]
            rfl
          · rintro H10 ⟨e1, k1⟩
            rw [List.length_map, List.length_range] at e1
            refine ⟨D, _, rfl, SqL.of e1, _, rfl, ?_⟩
            have ea : (List.replicate n true).all id = true := List.all_eq_true.mpr fun b hb => by rw [(List.mem_replicate.mp hb).2]; rfl
            rw [ea]
            refine iteF ?_
            have hp10 := k1 _ _ hp
            have hT10 := (hT8.same s9).same k1
            clear e1 k1 s9 hp hT8
            refine ⟨.int n, rfl, n, rfl, by omega, by omega, for_range (fun i σ H' => ∃ (y9 y14 : Option V), σ = [some (.ref a), some (.ref f), some (.int n), some (.ref tt), some (.int way), y5, y6, y7, y8, y9, y10, y11, some .non, some (.ref p), y14, none, none] ∧ Same H10 H') ⟨_, _, rfl, .refl _⟩ ?_ ?_⟩
            · rintro i σ H11 hi ⟨y9, y14, rfl, s11⟩
              have hi : i < n := hi
              have e0 : (0 : Int) + (i : Int) = (i : Int) := by omega
              rw [e0]
              have hp11 := s11 _ _ hp10
              have hT11 := hT10.same s11
              refine ⟨.int n, rfl, n, rfl, by omega, by omega, fun D2 eD2 => ?_⟩
              refine lc_range (fun j H' => H' D2 = some (.lst ((List.replicate j (0 : Int)).map V.int)) ∧ Same H11 H') ⟨upd_same, same_upd eD2⟩ ?_ ?_
              · rintro j H12 hj ⟨e1, k1⟩
                have hj : j < n := by omega
                have gW : ∀ x, x < n → ((List.range n).map fun i => V.int (W i))[x]? = some (.int (W x)) := fun x hx => by
                  rw [List.getElem?_map, List.getElem?_range hx]
                  rfl
                obtain ⟨as, bi, f1, f2, f3⟩ := (hT11.same k1).row (show i < R0.length by omega)
                obtain ⟨as', bj, f1', f2', f3'⟩ := (hT11.same k1).row (show j < R0.length by omega)
                have bd1 := O.bd (show i < R0.length by omega) hj
                have bd2 := O.bd (show j < R0.length by omega) hi
                have hp12 := k1 _ _ hp11
                have evij := WT.ev i j hi hj
                refine ⟨rfl, ?_⟩
                rw [show (0 : Int) + (j : Int) = (j : Int) by omega]
                refine ⟨.ref p, rfl, _, rfl, p, _, i, .int (W i), rfl, rfl, SqT.of hp12, atI_nat (gW i hi), .ref tt, rfl, _, rfl, tt, _, i, .ref bi, rfl, rfl, SqT.of f1, atI_nat f2, _, rfl, bi, _, j, _, rfl, rfl, SqT.of f3, atI_nat (ent_get O.wide (by omega) hj), _, _, rfl, rfl, .inr ⟨by omega, by omega⟩, ?_⟩
                refine ⟨.ref p, rfl, _, rfl, p, _, j, .int (W j), rfl, rfl, SqT.of hp12, atI_nat (gW j hj), .ref tt, rfl, _, rfl, tt, _, j, .ref bj, rfl, rfl, SqT.of f1', atI_nat f2', _, rfl, bj, _, i, _, rfl, rfl, SqT.of f3', atI_nat (ent_get O.wide (by omega) hi), _, _, rfl, rfl, .inr ⟨by omega, by omega⟩, _, _, rfl, rfl, ?_⟩
                refine ⟨_, e1, by rw [List.length_map, List.length_replicate]; exact small1000 (by omega), ?_, Same.updN k1 eD2⟩
                have ez : (fun i j : Int => V.int (i + j)) ((W i : Int) * ent R0 i j) ((W j : Int) * ent R0 j i) = V.int 0 := by
                  show V.int ((W i : Int) * ent R0 i j + (W j : Int) * ent R0 j i) = V.int 0
                  rw [evij, Int.add_left_neg]
                rw [upd_same, List.replicate_succ', List.map_append]
                exact congrArg (fun z => some (HO.lst (_ ++ [z]))) ez
              · rintro H12 ⟨e1, k1⟩
                refine ⟨.ref D2, rfl, by show 1 ≤ sizeLine; decide, fun z ez => ⟨.int n, rfl, z, n, _, rfl, rfl, upd_same, by omega, by omega, ?_, fun b eb => ?_⟩⟩
                · show 1 * ((n : Int)).toNat ≤ sizeLine
                  exact Nat.le_of_lt (small1000 (by omega))
                have sz := same_upd (o := .lst [.int 0]) ez
                have sb := same_upd (o := .lst (List.replicate ((n : Int)).toNat [V.int 0]).flatten) eb
                have eb2 : (upd (upd H12 z (.lst [.int 0])) b (.lst (List.replicate ((n : Int)).toNat [V.int 0]).flatten)) b = some (.lst ((List.replicate n (0 : Int)).map V.int)) := by
                  rw [upd_same, Int.toNat_natCast, zeros_flat]
                refine ⟨.list ((List.replicate n (0 : Int)).map PyData.int), .list ((List.replicate n (0 : Int)).map PyData.int), .lst (SqL.of (sb _ _ (sz _ _ e1))) (intsD _), .lst (SqL.of eb2) (intsD _), shaped_lst (ints_lay _) (by have := ints_depth (List.replicate n (0 : Int)); omega), shaped_lst (ints_lay _) (by have := ints_depth (List.replicate n (0 : Int)); omega), _, rfl, ite2 (fun y => absurd y ?_) (fun _ => ⟨_, _, rfl, s11.trans (k1.trans (sz.trans sb))⟩)⟩
                have e : PyData.eqv (.list ((List.replicate n (0 : Int)).map PyData.int)) (.list ((List.replicate n (0 : Int)).map PyData.int)) = decide ((List.replicate n (0 : Int)) = List.replicate n 0) := ints_eqv _ _
                rw [e, decide_eq_true rfl]
                decide
            · rintro σ H11 ⟨y9, y14, rfl, s11⟩
              exact q _
        · refine ⟨.ref r, rfl, rfl, _, rfl, iteT ?_⟩
          refine ⟨.ref tt, rfl, tt, R0, n, rfl, hT7.same s8, O, hb.no, tb7.ext s8, fun H9 x9 tb9 => ⟨true, rfl, iteT ?_⟩⟩
          exact ⟨.ref tt, rfl, .ref r, rfl, tt, r, R0, n, g, rfl, (hT7.same s8).ext x9, O, x9 _ _ hr8 (fun ps z => by cases z), hb, fun H' _ => q H'⟩
end
end Bw
set_option Elab.async false
set_option linter.all false
set_option maxRecDepth 100000
set_option maxHeartbeats 2000000
/-! ### the end where several defs hold lambdas -/
namespace LamX
open PySem PySem.Spec PyProof.Rows L2
theorem walk_ofOwns {l : PySem.W.OpenLaw} {n k : Nat} {q : Program} {loose : List Str} {XP : (Str → Option Value) → Heap → Prop} {YP : World → Heap → Prop} {d : DefRec} {K : Params → PySem.W.Frag} {CX : World → CXT} {x : Str}
    (hn : l.most = some n) (hn2 : n ≤ sizeLine) (hdf : d.params.defaults = []) (hr : Room k callerA) (hY : ∀ (w : World) (h : Heap), YP w h → (K w.params).In h)
    (F : ∀ (w : World) (mg : Str → Option Value) (fa : Addr) (h : Heap), YP w h → (K w.params).In h → h.Ns mainGlobals mg → mg d.name = some (.ref fa) → (∀ (y : Str) (f : Addr), ((recsOf q).any fun e => e.name == y) = true → mg y = some (.ref f) → OwnTab (K w.params) f h) → LawAtS l w (K w.params) (CX w) k n x mg fa h)
    (hCX : ∀ (w : World) (H : Hp) (s : Shared) (e : Value) (s' : Shared), CX w [] H s (fun _ _ _ => False) e s' → False) :
    PySem.W.WalkO q loose XP YP l.row.toRowW d [] (fun f vs => PySem.call f vs) := by
  refine Att.attach_callB hn hdf fun w s₀ s₁ mg mb fa o pm cd doc a vs ns G Y ho hd hcd hmg hobj hints hlen hbits hg => ?_
  have KX := hY w _ Y
  have own : ∀ (y : Str) (f : Addr), ((recsOf q).any fun e => e.name == y) = true → mg y = some (.ref f) → OwnTab (K w.params) f s₁.heap := fun y f hrec hmy c P o1 fd1 e dd vs1 sl k1 k2 k3 k4 k5 => by
    obtain ⟨dL, hm, hn1⟩ := List.any_eq_true.mp hrec
    have hn2 : dL.name = y := beq_iff_eq.mp hn1
    obtain ⟨a', o', fd', c', P', h1, h2, h3, h4, h5, h6⟩ := G.T.tab dL hm
    rw [hn2, hmy] at h1
    cases h1
    have g1 := KX _ _ k1
    rw [g1] at h2
    cases h2
    rw [k2] at h3
    cases h3
    rw [k3] at h4
    cases h4
    obtain ⟨⟨oc, vc, e1, _, e3, e4⟩, hP⟩ := h6
    have g2 := KX _ _ k4
    rw [g2] at e1
    cases e1
    cases e3
    rw [k5] at e4
    cases e4
    exact hP
  obtain ⟨fd, cs, sp, hT, nT, C, hb, hsp, hF⟩ := F w mg fa _ Y KX G.T.g hmg own
  exact law_callTs KX G.T.g G.T.b G.T.builtins G.T.nolimit hg hT nT C G.T.bmain hobj hints (Nat.le_trans hlen hn2) hr hF hb (fun H hH hS => hsp H a ns hlen hbits hH hS) fun H e s' => hCX w H s₁ e s'
end LamX
set_option Elab.async false
set_option linter.all false
set_option maxRecDepth 100000
set_option maxHeartbeats 4000000
namespace Bw
open PySem PySem.Spec PyProof.Rows L2
theorem all_mk {l : PySem.W.OpenLaw} {w : World} {K : PySem.W.Frag} {h : Heap} {mg : Str → Option Value} {fa : Addr} (X : K.In h) (G : h.Ns mainGlobals mg) (hfa : mg "law" = some (.ref fa)) (own_law_all_refuse : ∀ f, mg "_law_all_refuse" = some (.ref f) → LamX.OwnTab K f h) (own_law_other_doors : ∀ f, mg "_law_other_doors" = some (.ref f) → LamX.OwnTab K f h)
    {C_BudError : Addr}
    {C_Uneven : Addr}
    {C_NoPart : Addr}
    {C_NoPlace : Addr}
    {C_Lacking : Addr}
    {C_NothingLeft : Addr}
    {C_Sum : Addr}
    {C_Web : Addr}
    {C_WebMap : Addr}
    {od_is_number an_is_number : Option Addr} {sl_is_number : Array (Option Value)} {oc_is_number kV_is_number dc_is_number pm_is_number cd_is_number ct_is_number : Value} {f_is_number : Addr}
    {od_is_row an_is_row : Option Addr} {sl_is_row : Array (Option Value)} {oc_is_row kV_is_row dc_is_row pm_is_row cd_is_row ct_is_row : Value} {f_is_row : Addr}
    {od_check_form an_check_form : Option Addr} {sl_check_form : Array (Option Value)} {oc_check_form kV_check_form dc_check_form pm_check_form cd_check_form ct_check_form : Value} {f_check_form : Addr}
    {od_check_table an_check_table : Option Addr} {sl_check_table : Array (Option Value)} {oc_check_table kV_check_table dc_check_table pm_check_table cd_check_table ct_check_table : Value} {f_check_table : Addr}
    {od_bud_count an_bud_count : Option Addr} {sl_bud_count : Array (Option Value)} {oc_bud_count kV_bud_count dc_bud_count pm_bud_count cd_bud_count ct_bud_count : Value} {f_bud_count : Addr}
    {od_unlike_rows an_unlike_rows : Option Addr} {sl_unlike_rows : Array (Option Value)} {oc_unlike_rows kV_unlike_rows dc_unlike_rows pm_unlike_rows cd_unlike_rows ct_unlike_rows : Value} {f_unlike_rows : Addr}
    {od_pair_bars an_pair_bars : Option Addr} {sl_pair_bars : Array (Option Value)} {oc_pair_bars kV_pair_bars dc_pair_bars pm_pair_bars cd_pair_bars ct_pair_bars : Value} {f_pair_bars : Addr}
    {od_ring_bars an_ring_bars : Option Addr} {sl_ring_bars : Array (Option Value)} {oc_ring_bars kV_ring_bars dc_ring_bars pm_ring_bars cd_ring_bars ct_ring_bars : Value} {f_ring_bars : Addr}
    {od_barred an_barred : Option Addr} {sl_barred : Array (Option Value)} {oc_barred kV_barred dc_barred pm_barred cd_barred ct_barred : Value} {f_barred : Addr}
    {od_common an_common : Option Addr} {sl_common : Array (Option Value)} {oc_common kV_common dc_common pm_common cd_common ct_common : Value} {f_common : Addr}
    {od_lot_weights an_lot_weights : Option Addr} {sl_lot_weights : Array (Option Value)} {oc_lot_weights kV_lot_weights dc_lot_weights pm_lot_weights cd_lot_weights ct_lot_weights : Value} {f_lot_weights : Addr}
    {od_weights an_weights : Option Addr} {sl_weights : Array (Option Value)} {oc_weights kV_weights dc_weights pm_weights cd_weights ct_weights : Value} {f_weights : Addr}
    {od_turned an_turned : Option Addr} {sl_turned : Array (Option Value)} {oc_turned kV_turned dc_turned pm_turned cd_turned ct_turned : Value} {f_turned : Addr}
    {od_reordered an_reordered : Option Addr} {sl_reordered : Array (Option Value)} {oc_reordered kV_reordered dc_reordered pm_reordered cd_reordered ct_reordered : Value} {f_reordered : Addr}
    {od_beside an_beside : Option Addr} {sl_beside : Array (Option Value)} {oc_beside kV_beside dc_beside pm_beside cd_beside ct_beside : Value} {f_beside : Addr}
    {od_principal an_principal : Option Addr} {sl_principal : Array (Option Value)} {oc_principal kV_principal dc_principal pm_principal cd_principal ct_principal : Value} {f_principal : Addr}
    {od_opposite an_opposite : Option Addr} {sl_opposite : Array (Option Value)} {oc_opposite kV_opposite dc_opposite pm_opposite cd_opposite ct_opposite : Value} {f_opposite : Addr}
    {od_table_text an_table_text : Option Addr} {sl_table_text : Array (Option Value)} {oc_table_text kV_table_text dc_table_text pm_table_text cd_table_text ct_table_text : Value} {f_table_text : Addr}
    {od_kind an_kind : Option Addr} {sl_kind : Array (Option Value)} {oc_kind kV_kind dc_kind pm_kind cd_kind ct_kind : Value} {f_kind : Addr}
    {od_walked an_walked : Option Addr} {sl_walked : Array (Option Value)} {oc_walked kV_walked dc_walked pm_walked cd_walked ct_walked : Value} {f_walked : Addr}
    {od_frieze an_frieze : Option Addr} {sl_frieze : Array (Option Value)} {oc_frieze kV_frieze dc_frieze pm_frieze cd_frieze ct_frieze : Value} {f_frieze : Addr}
    {od_inner an_inner : Option Addr} {sl_inner : Array (Option Value)} {oc_inner kV_inner dc_inner pm_inner cd_inner ct_inner : Value} {f_inner : Addr}
    {od_parted an_parted : Option Addr} {sl_parted : Array (Option Value)} {oc_parted kV_parted dc_parted pm_parted cd_parted ct_parted : Value} {f_parted : Addr}
    {od_ring_length an_ring_length : Option Addr} {sl_ring_length : Array (Option Value)} {oc_ring_length kV_ring_length dc_ring_length pm_ring_length cd_ring_length ct_ring_length : Value} {f_ring_length : Addr}
    {od_endless_holds an_endless_holds : Option Addr} {sl_endless_holds : Array (Option Value)} {oc_endless_holds kV_endless_holds dc_endless_holds pm_endless_holds cd_endless_holds ct_endless_holds : Value} {f_endless_holds : Addr}
    {od_map_holds an_map_holds : Option Addr} {sl_map_holds : Array (Option Value)} {oc_map_holds kV_map_holds dc_map_holds pm_map_holds cd_map_holds ct_map_holds : Value} {f_map_holds : Addr}
    {od_gathered an_gathered : Option Addr} {sl_gathered : Array (Option Value)} {oc_gathered kV_gathered dc_gathered pm_gathered cd_gathered ct_gathered : Value} {f_gathered : Addr}
    {od_constant an_constant : Option Addr} {sl_constant : Array (Option Value)} {oc_constant kV_constant dc_constant pm_constant cd_constant ct_constant : Value} {f_constant : Addr}
    {od_law_feed an_law_feed : Option Addr} {sl_law_feed : Array (Option Value)} {oc_law_feed kV_law_feed dc_law_feed pm_law_feed cd_law_feed ct_law_feed : Value} {f_law_feed : Addr}
    {od_law_draw an_law_draw : Option Addr} {sl_law_draw : Array (Option Value)} {oc_law_draw kV_law_draw dc_law_draw pm_law_draw cd_law_draw ct_law_draw : Value} {f_law_draw : Addr}
    {od_law_pick an_law_pick : Option Addr} {sl_law_pick : Array (Option Value)} {oc_law_pick kV_law_pick dc_law_pick pm_law_pick cd_law_pick ct_law_pick : Value} {f_law_pick : Addr}
    {od_law_word an_law_word : Option Addr} {sl_law_word : Array (Option Value)} {oc_law_word kV_law_word dc_law_word pm_law_word cd_law_word ct_law_word : Value} {f_law_word : Addr}
    {od_law_gcd an_law_gcd : Option Addr} {sl_law_gcd : Array (Option Value)} {oc_law_gcd kV_law_gcd dc_law_gcd pm_law_gcd cd_law_gcd ct_law_gcd : Value} {f_law_gcd : Addr}
    {od_law_even an_law_even : Option Addr} {sl_law_even : Array (Option Value)} {oc_law_even kV_law_even dc_law_even pm_law_even cd_law_even ct_law_even : Value} {f_law_even : Addr}
    {od_law_roots an_law_roots : Option Addr} {sl_law_roots : Array (Option Value)} {oc_law_roots kV_law_roots dc_law_roots pm_law_roots cd_law_roots ct_law_roots : Value} {f_law_roots : Addr}
    {od_law_is_bar an_law_is_bar : Option Addr} {sl_law_is_bar : Array (Option Value)} {oc_law_is_bar kV_law_is_bar dc_law_is_bar pm_law_is_bar cd_law_is_bar ct_law_is_bar : Value} {f_law_is_bar : Addr}
    {od_law_other_doors an_law_other_doors : Option Addr} {sl_law_other_doors : Array (Option Value)} {oc_law_other_doors kV_law_other_doors dc_law_other_doors pm_law_other_doors ct_law_other_doors : Value} {f_law_other_doors : Addr}
    {cc_law_other_doors Pt_law_other_doors : Addr} {oc2_law_other_doors : Value} {od2_law_other_doors : Option Addr} {vs_law_other_doors : Array Value} {sl2_law_other_doors : Array (Option Value)}
    {od_law_all_refuse an_law_all_refuse : Option Addr} {sl_law_all_refuse : Array (Option Value)} {oc_law_all_refuse kV_law_all_refuse dc_law_all_refuse pm_law_all_refuse ct_law_all_refuse : Value} {f_law_all_refuse : Addr}
    {cc_law_all_refuse Pt_law_all_refuse : Addr} {oc2_law_all_refuse : Value} {od2_law_all_refuse : Option Addr} {vs_law_all_refuse : Array Value} {sl2_law_all_refuse : Array (Option Value)}
    {od_law an_law : Option Addr} {sl_law : Array (Option Value)} {oc_law kV_law dc_law pm_law cd_law ct_law : Value} {f_law : Addr}
    {od_bud_init an_bud_init : Option Addr} {sl_bud_init : Array (Option Value)} {oc_bud_init kV_bud_init dc_bud_init pm_bud_init cd_bud_init ct_bud_init : Value} {f_bud_init : Addr}
    {od_uneven_init an_uneven_init : Option Addr} {sl_uneven_init : Array (Option Value)} {oc_uneven_init kV_uneven_init dc_uneven_init pm_uneven_init cd_uneven_init ct_uneven_init : Value} {f_uneven_init : Addr}
    {od_web_init an_web_init : Option Addr} {sl_web_init : Array (Option Value)} {oc_web_init kV_web_init dc_web_init pm_web_init cd_web_init ct_web_init : Value} {f_web_init : Addr}
    {od_webmap_init an_webmap_init : Option Addr} {sl_webmap_init : Array (Option Value)} {oc_webmap_init kV_webmap_init dc_webmap_init pm_webmap_init cd_webmap_init ct_webmap_init : Value} {f_webmap_init : Addr}
    {t_MOST_TIE : Tok}
    {t_MOST_BUDS : Tok}
    {t_MOST_ROOTS : Tok}
    {t_MOST_WALK : Tok}
    {t_WIDE : Tok}
    {nm_Uneven q_Uneven : Str} {N_Uneven : Addr} {bs_Uneven : List Value} {sn_Uneven : List Str} {sub_Uneven : List Value} {ab_Uneven : Bool} {col_Uneven : Option Bool} {dd_Uneven : Option Addr} {m0_Uneven m1_Uneven m2_Uneven m3_Uneven m5_Uneven : Option Value}
    {od_init an_init odT : Option Addr} {sl_init slT : Array (Option Value)} {oc_init kV_init dc_init pm_init cd_init ct_init ocT : Value} {f_init T_init e_init : Addr} {nT nE : Nat} {odE : Option Addr} {slE : Array (Option Value)}
    {od_belt an_belt : Option Addr} {sl_belt : Array (Option Value)} {oc_belt dc_belt pm_belt cd_belt ct_belt : Value} {f_belt D_belt : Addr} {t_most : Tok}
    {od_leaned an_leaned : Option Addr} {sl_leaned : Array (Option Value)} {oc_leaned dc_leaned pm_leaned cd_leaned ct_leaned : Value} {f_leaned D_leaned : Addr}
    (a_BudError : PySem.W.nsIn K mainGlobals "BudError" = some (some (.ref C_BudError)))
    (a_Uneven : PySem.W.nsIn K mainGlobals "Uneven" = some (some (.ref C_Uneven)))
    (a_NoPart : PySem.W.nsIn K mainGlobals "NoPart" = some (some (.ref C_NoPart)))
    (a_NoPlace : PySem.W.nsIn K mainGlobals "NoPlace" = some (some (.ref C_NoPlace)))
    (a_Lacking : PySem.W.nsIn K mainGlobals "Lacking" = some (some (.ref C_Lacking)))
    (a_NothingLeft : PySem.W.nsIn K mainGlobals "NothingLeft" = some (some (.ref C_NothingLeft)))
    (a_Sum : PySem.W.nsIn K mainGlobals "Sum" = some (some (.ref C_Sum)))
    (a_Web : PySem.W.nsIn K mainGlobals "Web" = some (some (.ref C_Web)))
    (a_WebMap : PySem.W.nsIn K mainGlobals "WebMap" = some (some (.ref C_WebMap)))
    (a_is_number : PySem.W.nsIn K mainGlobals "is_number" = some (some (.ref f_is_number)))
    (l_is_number : K.lookup f_is_number = some ⟨oc_is_number, od_is_number, .func (PySem.W.fnOf "is_number" "is_number" (defArgs s_is_number) (defBody s_is_number) (defScope s_is_number) .none kV_is_number dc_is_number pm_is_number an_is_number cd_is_number ct_is_number), sl_is_number⟩)
    (c_is_number : PySem.W.codeIn K cd_is_number "is_number" = true)
    (k_is_number : PySem.W.keepIn K (.ref f_is_number) = true)
    (a_is_row : PySem.W.nsIn K mainGlobals "is_row" = some (some (.ref f_is_row)))
    (l_is_row : K.lookup f_is_row = some ⟨oc_is_row, od_is_row, .func (PySem.W.fnOf "is_row" "is_row" (defArgs s_is_row) (defBody s_is_row) (defScope s_is_row) .none kV_is_row dc_is_row pm_is_row an_is_row cd_is_row ct_is_row), sl_is_row⟩)
    (c_is_row : PySem.W.codeIn K cd_is_row "is_row" = true)
    (k_is_row : PySem.W.keepIn K (.ref f_is_row) = true)
    (a_check_form : PySem.W.nsIn K mainGlobals "check_form" = some (some (.ref f_check_form)))
    (l_check_form : K.lookup f_check_form = some ⟨oc_check_form, od_check_form, .func (PySem.W.fnOf "check_form" "check_form" (defArgs s_check_form) (defBody s_check_form) (defScope s_check_form) .none kV_check_form dc_check_form pm_check_form an_check_form cd_check_form ct_check_form), sl_check_form⟩)
    (c_check_form : PySem.W.codeIn K cd_check_form "check_form" = true)
    (k_check_form : PySem.W.keepIn K (.ref f_check_form) = true)
    (a_check_table : PySem.W.nsIn K mainGlobals "check_table" = some (some (.ref f_check_table)))
    (l_check_table : K.lookup f_check_table = some ⟨oc_check_table, od_check_table, .func (PySem.W.fnOf "check_table" "check_table" (defArgs s_check_table) (defBody s_check_table) (defScope s_check_table) .none kV_check_table dc_check_table pm_check_table an_check_table cd_check_table ct_check_table), sl_check_table⟩)
    (c_check_table : PySem.W.codeIn K cd_check_table "check_table" = true)
    (k_check_table : PySem.W.keepIn K (.ref f_check_table) = true)
    (a_bud_count : PySem.W.nsIn K mainGlobals "bud_count" = some (some (.ref f_bud_count)))
    (l_bud_count : K.lookup f_bud_count = some ⟨oc_bud_count, od_bud_count, .func (PySem.W.fnOf "bud_count" "bud_count" (defArgs s_bud_count) (defBody s_bud_count) (defScope s_bud_count) .none kV_bud_count dc_bud_count pm_bud_count an_bud_count cd_bud_count ct_bud_count), sl_bud_count⟩)
    (c_bud_count : PySem.W.codeIn K cd_bud_count "bud_count" = true)
    (k_bud_count : PySem.W.keepIn K (.ref f_bud_count) = true)
    (a_unlike_rows : PySem.W.nsIn K mainGlobals "unlike_rows" = some (some (.ref f_unlike_rows)))
    (l_unlike_rows : K.lookup f_unlike_rows = some ⟨oc_unlike_rows, od_unlike_rows, .func (PySem.W.fnOf "unlike_rows" "unlike_rows" (defArgs s_unlike_rows) (defBody s_unlike_rows) (defScope s_unlike_rows) .none kV_unlike_rows dc_unlike_rows pm_unlike_rows an_unlike_rows cd_unlike_rows ct_unlike_rows), sl_unlike_rows⟩)
    (c_unlike_rows : PySem.W.codeIn K cd_unlike_rows "unlike_rows" = true)
    (k_unlike_rows : PySem.W.keepIn K (.ref f_unlike_rows) = true)
    (a_pair_bars : PySem.W.nsIn K mainGlobals "pair_bars" = some (some (.ref f_pair_bars)))
    (l_pair_bars : K.lookup f_pair_bars = some ⟨oc_pair_bars, od_pair_bars, .func (PySem.W.fnOf "pair_bars" "pair_bars" (defArgs s_pair_bars) (defBody s_pair_bars) (defScope s_pair_bars) .none kV_pair_bars dc_pair_bars pm_pair_bars an_pair_bars cd_pair_bars ct_pair_bars), sl_pair_bars⟩)
    (c_pair_bars : PySem.W.codeIn K cd_pair_bars "pair_bars" = true)
    (k_pair_bars : PySem.W.keepIn K (.ref f_pair_bars) = true)
    (a_ring_bars : PySem.W.nsIn K mainGlobals "ring_bars" = some (some (.ref f_ring_bars)))
    (l_ring_bars : K.lookup f_ring_bars = some ⟨oc_ring_bars, od_ring_bars, .func (PySem.W.fnOf "ring_bars" "ring_bars" (defArgs s_ring_bars) (defBody s_ring_bars) (defScope s_ring_bars) .none kV_ring_bars dc_ring_bars pm_ring_bars an_ring_bars cd_ring_bars ct_ring_bars), sl_ring_bars⟩)
    (c_ring_bars : PySem.W.codeIn K cd_ring_bars "ring_bars" = true)
    (k_ring_bars : PySem.W.keepIn K (.ref f_ring_bars) = true)
    (a_barred : PySem.W.nsIn K mainGlobals "barred" = some (some (.ref f_barred)))
    (l_barred : K.lookup f_barred = some ⟨oc_barred, od_barred, .func (PySem.W.fnOf "barred" "barred" (defArgs s_barred) (defBody s_barred) (defScope s_barred) .none kV_barred dc_barred pm_barred an_barred cd_barred ct_barred), sl_barred⟩)
    (c_barred : PySem.W.codeIn K cd_barred "barred" = true)
    (k_barred : PySem.W.keepIn K (.ref f_barred) = true)
    (a_common : PySem.W.nsIn K mainGlobals "common" = some (some (.ref f_common)))
    (l_common : K.lookup f_common = some ⟨oc_common, od_common, .func (PySem.W.fnOf "common" "common" (defArgs s_common) (defBody s_common) (defScope s_common) .none kV_common dc_common pm_common an_common cd_common ct_common), sl_common⟩)
    (c_common : PySem.W.codeIn K cd_common "common" = true)
    (k_common : PySem.W.keepIn K (.ref f_common) = true)
    (a_lot_weights : PySem.W.nsIn K mainGlobals "lot_weights" = some (some (.ref f_lot_weights)))
    (l_lot_weights : K.lookup f_lot_weights = some ⟨oc_lot_weights, od_lot_weights, .func (PySem.W.fnOf "lot_weights" "lot_weights" (defArgs s_lot_weights) (defBody s_lot_weights) (defScope s_lot_weights) .none kV_lot_weights dc_lot_weights pm_lot_weights an_lot_weights cd_lot_weights ct_lot_weights), sl_lot_weights⟩)
    (c_lot_weights : PySem.W.codeIn K cd_lot_weights "lot_weights" = true)
    (k_lot_weights : PySem.W.keepIn K (.ref f_lot_weights) = true)
    (a_weights : PySem.W.nsIn K mainGlobals "weights" = some (some (.ref f_weights)))
    (l_weights : K.lookup f_weights = some ⟨oc_weights, od_weights, .func (PySem.W.fnOf "weights" "weights" (defArgs s_weights) (defBody s_weights) (defScope s_weights) .none kV_weights dc_weights pm_weights an_weights cd_weights ct_weights), sl_weights⟩)
    (c_weights : PySem.W.codeIn K cd_weights "weights" = true)
    (k_weights : PySem.W.keepIn K (.ref f_weights) = true)
    (a_turned : PySem.W.nsIn K mainGlobals "turned" = some (some (.ref f_turned)))
    (l_turned : K.lookup f_turned = some ⟨oc_turned, od_turned, .func (PySem.W.fnOf "turned" "turned" (defArgs s_turned) (defBody s_turned) (defScope s_turned) .none kV_turned dc_turned pm_turned an_turned cd_turned ct_turned), sl_turned⟩)
    (c_turned : PySem.W.codeIn K cd_turned "turned" = true)
    (k_turned : PySem.W.keepIn K (.ref f_turned) = true)
    (a_reordered : PySem.W.nsIn K mainGlobals "reordered" = some (some (.ref f_reordered)))
    (l_reordered : K.lookup f_reordered = some ⟨oc_reordered, od_reordered, .func (PySem.W.fnOf "reordered" "reordered" (defArgs s_reordered) (defBody s_reordered) (defScope s_reordered) .none kV_reordered dc_reordered pm_reordered an_reordered cd_reordered ct_reordered), sl_reordered⟩)
    (c_reordered : PySem.W.codeIn K cd_reordered "reordered" = true)
    (k_reordered : PySem.W.keepIn K (.ref f_reordered) = true)
    (a_beside : PySem.W.nsIn K mainGlobals "beside" = some (some (.ref f_beside)))
    (l_beside : K.lookup f_beside = some ⟨oc_beside, od_beside, .func (PySem.W.fnOf "beside" "beside" (defArgs s_beside) (defBody s_beside) (defScope s_beside) .none kV_beside dc_beside pm_beside an_beside cd_beside ct_beside), sl_beside⟩)
    (c_beside : PySem.W.codeIn K cd_beside "beside" = true)
    (k_beside : PySem.W.keepIn K (.ref f_beside) = true)
    (a_principal : PySem.W.nsIn K mainGlobals "principal" = some (some (.ref f_principal)))
    (l_principal : K.lookup f_principal = some ⟨oc_principal, od_principal, .func (PySem.W.fnOf "principal" "principal" (defArgs s_principal) (defBody s_principal) (defScope s_principal) .none kV_principal dc_principal pm_principal an_principal cd_principal ct_principal), sl_principal⟩)
    (c_principal : PySem.W.codeIn K cd_principal "principal" = true)
    (k_principal : PySem.W.keepIn K (.ref f_principal) = true)
    (a_opposite : PySem.W.nsIn K mainGlobals "opposite" = some (some (.ref f_opposite)))
    (l_opposite : K.lookup f_opposite = some ⟨oc_opposite, od_opposite, .func (PySem.W.fnOf "opposite" "opposite" (defArgs s_opposite) (defBody s_opposite) (defScope s_opposite) .none kV_opposite dc_opposite pm_opposite an_opposite cd_opposite ct_opposite), sl_opposite⟩)
    (c_opposite : PySem.W.codeIn K cd_opposite "opposite" = true)
    (k_opposite : PySem.W.keepIn K (.ref f_opposite) = true)
    (a_table_text : PySem.W.nsIn K mainGlobals "table_text" = some (some (.ref f_table_text)))
    (l_table_text : K.lookup f_table_text = some ⟨oc_table_text, od_table_text, .func (PySem.W.fnOf "table_text" "table_text" (defArgs s_table_text) (defBody s_table_text) (defScope s_table_text) .none kV_table_text dc_table_text pm_table_text an_table_text cd_table_text ct_table_text), sl_table_text⟩)
    (c_table_text : PySem.W.codeIn K cd_table_text "table_text" = true)
    (k_table_text : PySem.W.keepIn K (.ref f_table_text) = true)
    (a_kind : PySem.W.nsIn K mainGlobals "kind" = some (some (.ref f_kind)))
    (l_kind : K.lookup f_kind = some ⟨oc_kind, od_kind, .func (PySem.W.fnOf "kind" "kind" (defArgs s_kind) (defBody s_kind) (defScope s_kind) .none kV_kind dc_kind pm_kind an_kind cd_kind ct_kind), sl_kind⟩)
    (c_kind : PySem.W.codeIn K cd_kind "kind" = true)
    (k_kind : PySem.W.keepIn K (.ref f_kind) = true)
    (a_walked : PySem.W.nsIn K mainGlobals "walked" = some (some (.ref f_walked)))
    (l_walked : K.lookup f_walked = some ⟨oc_walked, od_walked, .func (PySem.W.fnOf "walked" "walked" (defArgs s_walked) (defBody s_walked) (defScope s_walked) .none kV_walked dc_walked pm_walked an_walked cd_walked ct_walked), sl_walked⟩)
    (c_walked : PySem.W.codeIn K cd_walked "walked" = true)
    (k_walked : PySem.W.keepIn K (.ref f_walked) = true)
    (a_frieze : PySem.W.nsIn K mainGlobals "frieze" = some (some (.ref f_frieze)))
    (l_frieze : K.lookup f_frieze = some ⟨oc_frieze, od_frieze, .func (PySem.W.fnOf "frieze" "frieze" (defArgs s_frieze) (defBody s_frieze) (defScope s_frieze) .none kV_frieze dc_frieze pm_frieze an_frieze cd_frieze ct_frieze), sl_frieze⟩)
    (c_frieze : PySem.W.codeIn K cd_frieze "frieze" = true)
    (k_frieze : PySem.W.keepIn K (.ref f_frieze) = true)
    (a_inner : PySem.W.nsIn K mainGlobals "inner" = some (some (.ref f_inner)))
    (l_inner : K.lookup f_inner = some ⟨oc_inner, od_inner, .func (PySem.W.fnOf "inner" "inner" (defArgs s_inner) (defBody s_inner) (defScope s_inner) .none kV_inner dc_inner pm_inner an_inner cd_inner ct_inner), sl_inner⟩)
    (c_inner : PySem.W.codeIn K cd_inner "inner" = true)
    (k_inner : PySem.W.keepIn K (.ref f_inner) = true)
    (a_parted : PySem.W.nsIn K mainGlobals "parted" = some (some (.ref f_parted)))
    (l_parted : K.lookup f_parted = some ⟨oc_parted, od_parted, .func (PySem.W.fnOf "parted" "parted" (defArgs s_parted) (defBody s_parted) (defScope s_parted) .none kV_parted dc_parted pm_parted an_parted cd_parted ct_parted), sl_parted⟩)
    (c_parted : PySem.W.codeIn K cd_parted "parted" = true)
    (k_parted : PySem.W.keepIn K (.ref f_parted) = true)
    (a_ring_length : PySem.W.nsIn K mainGlobals "ring_length" = some (some (.ref f_ring_length)))
    (l_ring_length : K.lookup f_ring_length = some ⟨oc_ring_length, od_ring_length, .func (PySem.W.fnOf "ring_length" "ring_length" (defArgs s_ring_length) (defBody s_ring_length) (defScope s_ring_length) .none kV_ring_length dc_ring_length pm_ring_length an_ring_length cd_ring_length ct_ring_length), sl_ring_length⟩)
    (c_ring_length : PySem.W.codeIn K cd_ring_length "ring_length" = true)
    (k_ring_length : PySem.W.keepIn K (.ref f_ring_length) = true)
    (a_endless_holds : PySem.W.nsIn K mainGlobals "endless_holds" = some (some (.ref f_endless_holds)))
    (l_endless_holds : K.lookup f_endless_holds = some ⟨oc_endless_holds, od_endless_holds, .func (PySem.W.fnOf "endless_holds" "endless_holds" (defArgs s_endless_holds) (defBody s_endless_holds) (defScope s_endless_holds) .none kV_endless_holds dc_endless_holds pm_endless_holds an_endless_holds cd_endless_holds ct_endless_holds), sl_endless_holds⟩)
    (c_endless_holds : PySem.W.codeIn K cd_endless_holds "endless_holds" = true)
    (k_endless_holds : PySem.W.keepIn K (.ref f_endless_holds) = true)
    (a_map_holds : PySem.W.nsIn K mainGlobals "map_holds" = some (some (.ref f_map_holds)))
    (l_map_holds : K.lookup f_map_holds = some ⟨oc_map_holds, od_map_holds, .func (PySem.W.fnOf "map_holds" "map_holds" (defArgs s_map_holds) (defBody s_map_holds) (defScope s_map_holds) .none kV_map_holds dc_map_holds pm_map_holds an_map_holds cd_map_holds ct_map_holds), sl_map_holds⟩)
    (c_map_holds : PySem.W.codeIn K cd_map_holds "map_holds" = true)
    (k_map_holds : PySem.W.keepIn K (.ref f_map_holds) = true)
    (a_gathered : PySem.W.nsIn K mainGlobals "gathered" = some (some (.ref f_gathered)))
    (l_gathered : K.lookup f_gathered = some ⟨oc_gathered, od_gathered, .func (PySem.W.fnOf "gathered" "gathered" (defArgs s_gathered) (defBody s_gathered) (defScope s_gathered) .none kV_gathered dc_gathered pm_gathered an_gathered cd_gathered ct_gathered), sl_gathered⟩)
    (c_gathered : PySem.W.codeIn K cd_gathered "gathered" = true)
    (k_gathered : PySem.W.keepIn K (.ref f_gathered) = true)
    (a_constant : PySem.W.nsIn K mainGlobals "constant" = some (some (.ref f_constant)))
    (l_constant : K.lookup f_constant = some ⟨oc_constant, od_constant, .func (PySem.W.fnOf "constant" "constant" (defArgs s_constant) (defBody s_constant) (defScope s_constant) .none kV_constant dc_constant pm_constant an_constant cd_constant ct_constant), sl_constant⟩)
    (c_constant : PySem.W.codeIn K cd_constant "constant" = true)
    (k_constant : PySem.W.keepIn K (.ref f_constant) = true)
    (a_law_feed : PySem.W.nsIn K mainGlobals "_law_feed" = some (some (.ref f_law_feed)))
    (l_law_feed : K.lookup f_law_feed = some ⟨oc_law_feed, od_law_feed, .func (PySem.W.fnOf "_law_feed" "_law_feed" (defArgs s_law_feed) (defBody s_law_feed) (defScope s_law_feed) .none kV_law_feed dc_law_feed pm_law_feed an_law_feed cd_law_feed ct_law_feed), sl_law_feed⟩)
    (c_law_feed : PySem.W.codeIn K cd_law_feed "_law_feed" = true)
    (k_law_feed : PySem.W.keepIn K (.ref f_law_feed) = true)
    (a_law_draw : PySem.W.nsIn K mainGlobals "_law_draw" = some (some (.ref f_law_draw)))
    (l_law_draw : K.lookup f_law_draw = some ⟨oc_law_draw, od_law_draw, .func (PySem.W.fnOf "_law_draw" "_law_draw" (defArgs s_law_draw) (defBody s_law_draw) (defScope s_law_draw) .none kV_law_draw dc_law_draw pm_law_draw an_law_draw cd_law_draw ct_law_draw), sl_law_draw⟩)
    (c_law_draw : PySem.W.codeIn K cd_law_draw "_law_draw" = true)
    (k_law_draw : PySem.W.keepIn K (.ref f_law_draw) = true)
    (a_law_pick : PySem.W.nsIn K mainGlobals "_law_pick" = some (some (.ref f_law_pick)))
    (l_law_pick : K.lookup f_law_pick = some ⟨oc_law_pick, od_law_pick, .func (PySem.W.fnOf "_law_pick" "_law_pick" (defArgs s_law_pick) (defBody s_law_pick) (defScope s_law_pick) .none kV_law_pick dc_law_pick pm_law_pick an_law_pick cd_law_pick ct_law_pick), sl_law_pick⟩)
    (c_law_pick : PySem.W.codeIn K cd_law_pick "_law_pick" = true)
    (k_law_pick : PySem.W.keepIn K (.ref f_law_pick) = true)
    (a_law_word : PySem.W.nsIn K mainGlobals "_law_word" = some (some (.ref f_law_word)))
    (l_law_word : K.lookup f_law_word = some ⟨oc_law_word, od_law_word, .func (PySem.W.fnOf "_law_word" "_law_word" (defArgs s_law_word) (defBody s_law_word) (defScope s_law_word) .none kV_law_word dc_law_word pm_law_word an_law_word cd_law_word ct_law_word), sl_law_word⟩)
    (c_law_word : PySem.W.codeIn K cd_law_word "_law_word" = true)
    (k_law_word : PySem.W.keepIn K (.ref f_law_word) = true)
    (a_law_gcd : PySem.W.nsIn K mainGlobals "_law_gcd" = some (some (.ref f_law_gcd)))
    (l_law_gcd : K.lookup f_law_gcd = some ⟨oc_law_gcd, od_law_gcd, .func (PySem.W.fnOf "_law_gcd" "_law_gcd" (defArgs s_law_gcd) (defBody s_law_gcd) (defScope s_law_gcd) .none kV_law_gcd dc_law_gcd pm_law_gcd an_law_gcd cd_law_gcd ct_law_gcd), sl_law_gcd⟩)
    (c_law_gcd : PySem.W.codeIn K cd_law_gcd "_law_gcd" = true)
    (k_law_gcd : PySem.W.keepIn K (.ref f_law_gcd) = true)
    (a_law_even : PySem.W.nsIn K mainGlobals "_law_even" = some (some (.ref f_law_even)))
    (l_law_even : K.lookup f_law_even = some ⟨oc_law_even, od_law_even, .func (PySem.W.fnOf "_law_even" "_law_even" (defArgs s_law_even) (defBody s_law_even) (defScope s_law_even) .none kV_law_even dc_law_even pm_law_even an_law_even cd_law_even ct_law_even), sl_law_even⟩)
    (c_law_even : PySem.W.codeIn K cd_law_even "_law_even" = true)
    (k_law_even : PySem.W.keepIn K (.ref f_law_even) = true)
    (a_law_roots : PySem.W.nsIn K mainGlobals "_law_roots" = some (some (.ref f_law_roots)))
    (l_law_roots : K.lookup f_law_roots = some ⟨oc_law_roots, od_law_roots, .func (PySem.W.fnOf "_law_roots" "_law_roots" (defArgs s_law_roots) (defBody s_law_roots) (defScope s_law_roots) .none kV_law_roots dc_law_roots pm_law_roots an_law_roots cd_law_roots ct_law_roots), sl_law_roots⟩)
    (c_law_roots : PySem.W.codeIn K cd_law_roots "_law_roots" = true)
    (k_law_roots : PySem.W.keepIn K (.ref f_law_roots) = true)
    (a_law_is_bar : PySem.W.nsIn K mainGlobals "_law_is_bar" = some (some (.ref f_law_is_bar)))
    (l_law_is_bar : K.lookup f_law_is_bar = some ⟨oc_law_is_bar, od_law_is_bar, .func (PySem.W.fnOf "_law_is_bar" "_law_is_bar" (defArgs s_law_is_bar) (defBody s_law_is_bar) (defScope s_law_is_bar) .none kV_law_is_bar dc_law_is_bar pm_law_is_bar an_law_is_bar cd_law_is_bar ct_law_is_bar), sl_law_is_bar⟩)
    (c_law_is_bar : PySem.W.codeIn K cd_law_is_bar "_law_is_bar" = true)
    (k_law_is_bar : PySem.W.keepIn K (.ref f_law_is_bar) = true)
    (a_law_other_doors : PySem.W.nsIn K mainGlobals "_law_other_doors" = some (some (.ref f_law_other_doors)))
    (l_law_other_doors : K.lookup f_law_other_doors = some ⟨oc_law_other_doors, od_law_other_doors, .func (PySem.W.fnOf "_law_other_doors" "_law_other_doors" (defArgs s_law_other_doors) (defBody s_law_other_doors) (defScope s_law_other_doors) .none kV_law_other_doors dc_law_other_doors pm_law_other_doors an_law_other_doors (.ref cc_law_other_doors) ct_law_other_doors), sl_law_other_doors⟩)
    (c_law_other_doors : PySem.W.codeIn K (.ref cc_law_other_doors) "_law_other_doors" = true)
    (k_law_other_doors : PySem.W.keepIn K (.ref f_law_other_doors) = true)
    (a_law_all_refuse : PySem.W.nsIn K mainGlobals "_law_all_refuse" = some (some (.ref f_law_all_refuse)))
    (l_law_all_refuse : K.lookup f_law_all_refuse = some ⟨oc_law_all_refuse, od_law_all_refuse, .func (PySem.W.fnOf "_law_all_refuse" "_law_all_refuse" (defArgs s_law_all_refuse) (defBody s_law_all_refuse) (defScope s_law_all_refuse) .none kV_law_all_refuse dc_law_all_refuse pm_law_all_refuse an_law_all_refuse (.ref cc_law_all_refuse) ct_law_all_refuse), sl_law_all_refuse⟩)
    (c_law_all_refuse : PySem.W.codeIn K (.ref cc_law_all_refuse) "_law_all_refuse" = true)
    (k_law_all_refuse : PySem.W.keepIn K (.ref f_law_all_refuse) = true)
    (a_law : PySem.W.nsIn K mainGlobals "law" = some (some (.ref f_law)))
    (l_law : K.lookup f_law = some ⟨oc_law, od_law, .func (PySem.W.fnOf "law" "law" (defArgs s_law) (defBody s_law) (defScope s_law) .none kV_law dc_law pm_law an_law cd_law ct_law), sl_law⟩)
    (c_law : PySem.W.codeIn K cd_law "law" = true)
    (k_law : PySem.W.keepIn K (.ref f_law) = true)
    (a_bud_init : PySem.W.findIn K (.ref C_BudError) "__init__" = some (some (.ref f_bud_init)))
    (l_bud_init : K.lookup f_bud_init = some ⟨oc_bud_init, od_bud_init, .func (PySem.W.fnOf "__init__" "BudError.__init__" (defArgs s_bud_init) (defBody s_bud_init) (defScope s_bud_init) .none kV_bud_init dc_bud_init pm_bud_init an_bud_init cd_bud_init ct_bud_init), sl_bud_init⟩)
    (c_bud_init : PySem.W.codeIn K cd_bud_init "BudError.__init__" = true)
    (k_bud_init : PySem.W.keepIn K (.ref f_bud_init) = true)
    (a_uneven_init : PySem.W.findIn K (.ref C_Uneven) "__init__" = some (some (.ref f_uneven_init)))
    (l_uneven_init : K.lookup f_uneven_init = some ⟨oc_uneven_init, od_uneven_init, .func (PySem.W.fnOf "__init__" "Uneven.__init__" (defArgs s_uneven_init) (defBody s_uneven_init) (defScope s_uneven_init) .none kV_uneven_init dc_uneven_init pm_uneven_init an_uneven_init cd_uneven_init ct_uneven_init), sl_uneven_init⟩)
    (c_uneven_init : PySem.W.codeIn K cd_uneven_init "Uneven.__init__" = true)
    (k_uneven_init : PySem.W.keepIn K (.ref f_uneven_init) = true)
    (a_web_init : PySem.W.findIn K (.ref C_Web) "__init__" = some (some (.ref f_web_init)))
    (l_web_init : K.lookup f_web_init = some ⟨oc_web_init, od_web_init, .func (PySem.W.fnOf "__init__" "Web.__init__" (defArgs s_web_init) (defBody s_web_init) (defScope s_web_init) .none kV_web_init dc_web_init pm_web_init an_web_init cd_web_init ct_web_init), sl_web_init⟩)
    (c_web_init : PySem.W.codeIn K cd_web_init "Web.__init__" = true)
    (k_web_init : PySem.W.keepIn K (.ref f_web_init) = true)
    (a_webmap_init : PySem.W.findIn K (.ref C_WebMap) "__init__" = some (some (.ref f_webmap_init)))
    (l_webmap_init : K.lookup f_webmap_init = some ⟨oc_webmap_init, od_webmap_init, .func (PySem.W.fnOf "__init__" "WebMap.__init__" (defArgs s_webmap_init) (defBody s_webmap_init) (defScope s_webmap_init) .none kV_webmap_init dc_webmap_init pm_webmap_init an_webmap_init cd_webmap_init ct_webmap_init), sl_webmap_init⟩)
    (c_webmap_init : PySem.W.codeIn K cd_webmap_init "WebMap.__init__" = true)
    (k_webmap_init : PySem.W.keepIn K (.ref f_webmap_init) = true)
    (z_len : PySem.W.nsIn K mainGlobals "len" = some none)
    (z_range : PySem.W.nsIn K mainGlobals "range" = some none)
    (z_zip : PySem.W.nsIn K mainGlobals "zip" = some none)
    (z_abs : PySem.W.nsIn K mainGlobals "abs" = some none)
    (z_all : PySem.W.nsIn K mainGlobals "all" = some none)
    (z_any : PySem.W.nsIn K mainGlobals "any" = some none)
    (z_max : PySem.W.nsIn K mainGlobals "max" = some none)
    (z_min : PySem.W.nsIn K mainGlobals "min" = some none)
    (z_sorted : PySem.W.nsIn K mainGlobals "sorted" = some none)
    (z_isinstance : PySem.W.nsIn K mainGlobals "isinstance" = some none)
    (z_int : PySem.W.nsIn K mainGlobals "int" = some none)
    (z_bool : PySem.W.nsIn K mainGlobals "bool" = some none)
    (z_tuple : PySem.W.nsIn K mainGlobals "tuple" = some none)
    (z_list : PySem.W.nsIn K mainGlobals "list" = some none)
    (z_dict : PySem.W.nsIn K mainGlobals "dict" = some none)
    (z_str : PySem.W.nsIn K mainGlobals "str" = some none)
    (z_ValueError : PySem.W.nsIn K mainGlobals "ValueError" = some none)
    (z_IndexError : PySem.W.nsIn K mainGlobals "IndexError" = some none)
    (z_enumerate : PySem.W.nsIn K mainGlobals "enumerate" = some none)
    (i_MOST_TIE : PySem.W.nsIn K mainGlobals "MOST_TIE" = some (some (.int 50 t_MOST_TIE)))
    (i_MOST_BUDS : PySem.W.nsIn K mainGlobals "MOST_BUDS" = some (some (.int 4 t_MOST_BUDS)))
    (i_MOST_ROOTS : PySem.W.nsIn K mainGlobals "MOST_ROOTS" = some (some (.int 4 t_MOST_ROOTS)))
    (i_MOST_WALK : PySem.W.nsIn K mainGlobals "MOST_WALK" = some (some (.int 60 t_MOST_WALK)))
    (i_WIDE : PySem.W.nsIn K mainGlobals "WIDE" = some (some (.int 400 t_WIDE)))
    (z_set : PySem.W.nsIn K mainGlobals "set" = some none)
    (sg : PySem.W.specialIn K (.ref C_BudError) "__getattribute__" = some (some (.builtin "type.__getattribute__")))
    (tyB : PySem.W.typeIn K (.ref C_BudError) = some (.type "type"))
    (rdB : PySem.W.readsIn K C_BudError (.type "type") = true)
    (fcB : PySem.W.findCls K (.ref C_BudError) (.type "type") "__init__" = some (.val (.ref f_bud_init)))
    (vv : PySem.W.findCls K (.type "ValueError") (.type "type") "__init__" = some (.val (.builtin "ValueError.__init__")))
    (eB : PySem.W.subIn K (.ref C_BudError) (.type "BaseException") = some true)
    (hB : PySem.W.hasDictIn K C_BudError = true)
    (xL_Uneven : K.lookup C_Uneven = some (excClassObj nm_Uneven q_Uneven C_Uneven N_Uneven bs_Uneven [.ref C_BudError, .type "ValueError", .type "Exception", .type "BaseException", .type "object"] true sn_Uneven sub_Uneven ab_Uneven col_Uneven dd_Uneven m0_Uneven m1_Uneven m2_Uneven m3_Uneven m5_Uneven "ValueError.__new__"))
    (sa_Uneven : PySem.W.findIn K (.ref C_Uneven) "__setattr__" = some (some (.builtin "object.__setattr__")))
    (ga_Uneven : PySem.W.findIn K (.ref C_Uneven) "__getattribute__" = some (some (.builtin "BaseException.__getattribute__")))
    (gg_Uneven : PySem.W.findIn K (.ref C_Uneven) "__getattr__" = some none)
    (nw_Uneven : PySem.W.findIn K (.ref C_Uneven) "word" = some none)
    (tI_Uneven : PySem.W.typeIn K (.ref f_uneven_init) = some (.type "function"))
    (kC_Uneven : PySem.W.keepIn K (.ref C_Uneven) = true)
    (eC_Uneven : PySem.W.subIn K (.ref C_Uneven) (.type "BaseException") = some true)
    (tC_Uneven : PySem.W.typeIn K (.ref C_Uneven) = some (.type "type"))
    (hC_Uneven : PySem.W.hasDictIn K C_Uneven = true)
    (sC_Uneven : PySem.W.subIn K (.ref C_Uneven) (.ref C_BudError) = some true)
    (nf_Uneven : PySem.W.findIn K (.ref C_Uneven) "ring" = some none)
    (sl_Uneven : PySem.W.subIn K (.ref C_Uneven) (.ref C_Uneven) = some true)
    (a_init : PySem.W.findIn K (.ref C_Sum) "__init__" = some (some (.ref f_init)))
    (l_init : K.lookup f_init = some ⟨oc_init, od_init, .func (PySem.W.fnOf "__init__" "Sum.__init__" (defArgs s_init) (defBody s_init) (defScope s_init) (.ref T_init) kV_init dc_init pm_init an_init cd_init ct_init), sl_init⟩)
    (c_init : PySem.W.codeIn K cd_init "Sum.__init__" = true)
    (k_init : PySem.W.keepIn K (.ref f_init) = true)
    (lT : K.lookup T_init = some ⟨ocT, odT, .seq #[.ref e_init] nT, slT⟩)
    (fn_init : PySem.W.isFn K (.ref f_init) = true)
    (lE : K.lookup e_init = some ⟨.type "tuple", odE, .seq #[] nE, slE⟩)
    (mk : PySem.W.makesIn K C_Sum = true)
    (kc : PySem.W.keepIn K (.ref C_Sum) = true)
    (pg : PySem.W.plainGet K C_Sum Str.empty = true)
    (hd : PySem.W.hasDictIn K C_Sum = true)
    (po : PySem.W.plainOver K C_Sum = true)
    (sa : PySem.W.findIn K (.ref C_Sum) "__setattr__" = some (some (.builtin "object.__setattr__")))
    (nw : PySem.W.findIn K (.ref C_Sum) "width" = some none)
    (np : PySem.W.findIn K (.ref C_Sum) "products" = some none)
    (hcl : PySem.W.findIn K (.ref C_Sum) "__class__" = some (some (.builtin "object.__class__")))
    (hgt : PySem.W.specialIn K (.builtin "object.__class__") "__get__" = some (some (.builtin "getset_descriptor.__get__")))
    (htk : PySem.W.takesIn K (.builtin "object.__class__") = some true)
    (hmr : PySem.W.mroIn K C_Sum (.type "object") = some true)
    (slf : PySem.W.kitOne K (.ref C_Sum) (.ref C_Sum) = some true)
    (a_belt : PySem.W.nsIn K mainGlobals "belt" = some (some (.ref f_belt)))
    (l_belt : K.lookup f_belt = some ⟨oc_belt, od_belt, .func (PySem.W.fnOf "belt" "belt" (defArgs s_belt) (defBody s_belt) (defScope s_belt) .none (.ref D_belt) dc_belt pm_belt an_belt cd_belt ct_belt), sl_belt⟩)
    (c_belt : PySem.W.codeIn K cd_belt "belt" = true)
    (k_belt : PySem.W.keepIn K (.ref f_belt) = true)
    (ns_most : PySem.W.nsIn K D_belt "most" = some (some (.int 20 t_most)))
    (a_leaned : PySem.W.nsIn K mainGlobals "leaned" = some (some (.ref f_leaned)))
    (l_leaned : K.lookup f_leaned = some ⟨oc_leaned, od_leaned, .func (PySem.W.fnOf "leaned" "leaned" (defArgs s_leaned) (defBody s_leaned) (defScope s_leaned) .none (.ref D_leaned) dc_leaned pm_leaned an_leaned cd_leaned ct_leaned), sl_leaned⟩)
    (c_leaned : PySem.W.codeIn K cd_leaned "leaned" = true)
    (k_leaned : PySem.W.keepIn K (.ref f_leaned) = true)
    (ns_greatest : PySem.W.nsIn K D_leaned "greatest" = some (some (.bool false)))
    (mkW : PySem.W.makesIn K C_Web = true)
    (kcW : PySem.W.keepIn K (.ref C_Web) = true)
    (pgW : PySem.W.plainGet K C_Web Str.empty = true)
    (hdW : PySem.W.hasDictIn K C_Web = true)
    (poW : PySem.W.plainOver K C_Web = true)
    (saW : PySem.W.findIn K (.ref C_Web) "__setattr__" = some (some (.builtin "object.__setattr__")))
    (mkQ : PySem.W.makesIn K C_WebMap = true)
    (kcQ : PySem.W.keepIn K (.ref C_WebMap) = true)
    (pgQ : PySem.W.plainGet K C_WebMap Str.empty = true)
    (hdQ : PySem.W.hasDictIn K C_WebMap = true)
    (poQ : PySem.W.plainOver K C_WebMap = true)
    (saQ : PySem.W.findIn K (.ref C_WebMap) "__setattr__" = some (some (.builtin "object.__setattr__")))
    (fn_web_init : PySem.W.isFn K (.ref f_web_init) = true)
    (fn_webmap_init : PySem.W.isFn K (.ref f_webmap_init) = true)
    (a_wt : PySem.W.nsIn K mainGlobals "weights_tables" = some (some (.ref f_weights)))
    (cl_law_all_refuse : K.lookup cc_law_all_refuse = some ⟨oc2_law_all_refuse, od2_law_all_refuse, .fields vs_law_all_refuse, sl2_law_all_refuse⟩)
    (v11_law_all_refuse : vs_law_all_refuse[11]? = some (.ref Pt_law_all_refuse))
    (hd_law_all_refuse : PySem.W.codeHdIn K cc_law_all_refuse Pt_law_all_refuse = true)
    (nP_law_all_refuse : K.lookup Pt_law_all_refuse = none)
    (cl_law_other_doors : K.lookup cc_law_other_doors = some ⟨oc2_law_other_doors, od2_law_other_doors, .fields vs_law_other_doors, sl2_law_other_doors⟩)
    (v11_law_other_doors : vs_law_other_doors[11]? = some (.ref Pt_law_other_doors))
    (hd_law_other_doors : PySem.W.codeHdIn K cc_law_other_doors Pt_law_other_doors = true)
    (nP_law_other_doors : K.lookup Pt_law_other_doors = none)
    (nPP_law_all_refuse_law_other_doors : Pt_law_all_refuse ≠ Pt_law_other_doors)
    : LamX.LawAtS l w K CX0 13 63 "_law_script" mg fa h := by
  have e := hfa.symm.trans (PySem.W.mg_of X G a_law)
  cases e
  have T : Tx mg := { len := PySem.W.mg_none_of X G z_len, range := PySem.W.mg_none_of X G z_range, zip := PySem.W.mg_none_of X G z_zip, abs := PySem.W.mg_none_of X G z_abs, all := PySem.W.mg_none_of X G z_all, any := PySem.W.mg_none_of X G z_any, max := PySem.W.mg_none_of X G z_max, min := PySem.W.mg_none_of X G z_min, sorted := PySem.W.mg_none_of X G z_sorted, isinstance := PySem.W.mg_none_of X G z_isinstance, int := PySem.W.mg_none_of X G z_int, bool := PySem.W.mg_none_of X G z_bool, tuple := PySem.W.mg_none_of X G z_tuple, list := PySem.W.mg_none_of X G z_list, dict := PySem.W.mg_none_of X G z_dict, str := PySem.W.mg_none_of X G z_str, ValueError := PySem.W.mg_none_of X G z_ValueError, IndexError := PySem.W.mg_none_of X G z_IndexError, enumerate := PySem.W.mg_none_of X G z_enumerate, MOST_TIE := ⟨_, PySem.W.mg_of X G i_MOST_TIE⟩, MOST_BUDS := ⟨_, PySem.W.mg_of X G i_MOST_BUDS⟩, MOST_ROOTS := ⟨_, PySem.W.mg_of X G i_MOST_ROOTS⟩, MOST_WALK := ⟨_, PySem.W.mg_of X G i_MOST_WALK⟩, WIDE := ⟨_, PySem.W.mg_of X G i_WIDE⟩ }
  have F_is_number := fun_mk (st := s_is_number) l_is_number c_is_number k_is_number
  have b_is_number := F_is_number.binds (ps := ["thing"]) fun _ _ _ _ _ _ us hl => match us, hl with | [_], _ => rfl
  have F_is_row := fun_mk (st := s_is_row) l_is_row c_is_row k_is_row
  have b_is_row := F_is_row.binds (ps := ["row", "many"]) fun _ _ _ _ _ _ us hl => match us, hl with | [_, _], _ => rfl
  have F_check_form := fun_mk (st := s_check_form) l_check_form c_check_form k_check_form
  have b_check_form := F_check_form.binds (ps := ["table"]) fun _ _ _ _ _ _ us hl => match us, hl with | [_], _ => rfl
  have F_check_table := fun_mk (st := s_check_table) l_check_table c_check_table k_check_table
  have b_check_table := F_check_table.binds (ps := ["table"]) fun _ _ _ _ _ _ us hl => match us, hl with | [_], _ => rfl
  have F_bud_count := fun_mk (st := s_bud_count) l_bud_count c_bud_count k_bud_count
  have b_bud_count := F_bud_count.binds (ps := ["table"]) fun _ _ _ _ _ _ us hl => match us, hl with | [_], _ => rfl
  have F_unlike_rows := fun_mk (st := s_unlike_rows) l_unlike_rows c_unlike_rows k_unlike_rows
  have b_unlike_rows := F_unlike_rows.binds (ps := ["many", "length"]) fun _ _ _ _ _ _ us hl => match us, hl with | [_, _], _ => rfl
  have F_pair_bars := fun_mk (st := s_pair_bars) l_pair_bars c_pair_bars k_pair_bars
  have b_pair_bars := F_pair_bars.binds (ps := ["table", "i", "j"]) fun _ _ _ _ _ _ us hl => match us, hl with | [_, _, _], _ => rfl
  have F_ring_bars := fun_mk (st := s_ring_bars) l_ring_bars c_ring_bars k_ring_bars
  have b_ring_bars := F_ring_bars.binds (ps := ["table", "ring"]) fun _ _ _ _ _ _ us hl => match us, hl with | [_, _], _ => rfl
  have F_barred := fun_mk (st := s_barred) l_barred c_barred k_barred
  have b_barred := F_barred.binds (ps := ["table"]) fun _ _ _ _ _ _ us hl => match us, hl with | [_], _ => rfl
  have F_common := fun_mk (st := s_common) l_common c_common k_common
  have b_common := F_common.binds (ps := ["one", "other"]) fun _ _ _ _ _ _ us hl => match us, hl with | [_, _], _ => rfl
  have F_lot_weights := fun_mk (st := s_lot_weights) l_lot_weights c_lot_weights k_lot_weights
  have b_lot_weights := F_lot_weights.binds (ps := ["table", "first"]) fun _ _ _ _ _ _ us hl => match us, hl with | [_, _], _ => rfl
  have F_weights := fun_mk (st := s_weights) l_weights c_weights k_weights
  have b_weights := F_weights.binds (ps := ["table"]) fun _ _ _ _ _ _ us hl => match us, hl with | [_], _ => rfl
  have F_turned := fun_mk (st := s_turned) l_turned c_turned k_turned
  have b_turned := F_turned.binds (ps := ["table", "place"]) fun _ _ _ _ _ _ us hl => match us, hl with | [_, _], _ => rfl
  have F_reordered := fun_mk (st := s_reordered) l_reordered c_reordered k_reordered
  have b_reordered := F_reordered.binds (ps := ["table", "order"]) fun _ _ _ _ _ _ us hl => match us, hl with | [_, _], _ => rfl
  have F_beside := fun_mk (st := s_beside) l_beside c_beside k_beside
  have b_beside := F_beside.binds (ps := ["one", "other"]) fun _ _ _ _ _ _ us hl => match us, hl with | [_, _], _ => rfl
  have F_principal := fun_mk (st := s_principal) l_principal c_principal k_principal
  have b_principal := F_principal.binds (ps := ["table"]) fun _ _ _ _ _ _ us hl => match us, hl with | [_], _ => rfl
  have F_opposite := fun_mk (st := s_opposite) l_opposite c_opposite k_opposite
  have b_opposite := F_opposite.binds (ps := ["table"]) fun _ _ _ _ _ _ us hl => match us, hl with | [_], _ => rfl
  have F_table_text := fun_mk (st := s_table_text) l_table_text c_table_text k_table_text
  have b_table_text := F_table_text.binds (ps := ["table"]) fun _ _ _ _ _ _ us hl => match us, hl with | [_], _ => rfl
  have F_kind := fun_mk (st := s_kind) l_kind c_kind k_kind
  have b_kind := F_kind.binds (ps := ["table"]) fun _ _ _ _ _ _ us hl => match us, hl with | [_], _ => rfl
  have F_walked := fun_mk (st := s_walked) l_walked c_walked k_walked
  have b_walked := F_walked.binds (ps := ["table", "walk", "parts"]) fun _ _ _ _ _ _ us hl => match us, hl with | [_, _, _], _ => rfl
  have F_frieze := fun_mk (st := s_frieze) l_frieze c_frieze k_frieze
  have b_frieze := F_frieze.binds (ps := ["table", "rounds"]) fun _ _ _ _ _ _ us hl => match us, hl with | [_, _], _ => rfl
  have F_inner := fun_mk (st := s_inner) l_inner c_inner k_inner
  have b_inner := F_inner.binds (ps := ["table", "walk"]) fun _ _ _ _ _ _ us hl => match us, hl with | [_, _], _ => rfl
  have F_parted := fun_mk (st := s_parted) l_parted c_parted k_parted
  have b_parted := F_parted.binds (ps := ["table", "lean", "inner"]) fun _ _ _ _ _ _ us hl => match us, hl with | [_, _, _], _ => rfl
  have F_ring_length := fun_mk (st := s_ring_length) l_ring_length c_ring_length k_ring_length
  have b_ring_length := F_ring_length.binds (ps := ["table", "one", "other"]) fun _ _ _ _ _ _ us hl => match us, hl with | [_, _, _], _ => rfl
  have F_endless_holds := fun_mk (st := s_endless_holds) l_endless_holds c_endless_holds k_endless_holds
  have b_endless_holds := F_endless_holds.binds (ps := ["table", "walk", "one", "other"]) fun _ _ _ _ _ _ us hl => match us, hl with | [_, _, _, _], _ => rfl
  have F_map_holds := fun_mk (st := s_map_holds) l_map_holds c_map_holds k_map_holds
  have b_map_holds := F_map_holds.binds (ps := ["table", "rows"]) fun _ _ _ _ _ _ us hl => match us, hl with | [_, _], _ => rfl
  have F_gathered := fun_mk (st := s_gathered) l_gathered c_gathered k_gathered
  have b_gathered := F_gathered.binds (ps := ["terms"]) fun _ _ _ _ _ _ us hl => match us, hl with | [_], _ => rfl
  have F_constant := fun_mk (st := s_constant) l_constant c_constant k_constant
  have b_constant := F_constant.binds (ps := ["width", "many"]) fun _ _ _ _ _ _ us hl => match us, hl with | [_, _], _ => rfl
  have F_law_feed := fun_mk (st := s_law_feed) l_law_feed c_law_feed k_law_feed
  have b_law_feed := F_law_feed.binds (ps := ["_law_script"]) fun _ _ _ _ _ _ us hl => match us, hl with | [_], _ => rfl
  have F_law_draw := fun_mk (st := s_law_draw) l_law_draw c_law_draw k_law_draw
  have b_law_draw := F_law_draw.binds (ps := ["_law_feed_here", "_law_many"]) fun _ _ _ _ _ _ us hl => match us, hl with | [_, _], _ => rfl
  have F_law_pick := fun_mk (st := s_law_pick) l_law_pick c_law_pick k_law_pick
  have b_law_pick := F_law_pick.binds (ps := ["_law_feed_here", "_law_row"]) fun _ _ _ _ _ _ us hl => match us, hl with | [_, _], _ => rfl
  have F_law_word := fun_mk (st := s_law_word) l_law_word c_law_word k_law_word
  have b_law_word := F_law_word.binds (ps := ["_law_asked"]) fun _ _ _ _ _ _ us hl => match us, hl with | [_], _ => rfl
  have F_law_gcd := fun_mk (st := s_law_gcd) l_law_gcd c_law_gcd k_law_gcd
  have b_law_gcd := F_law_gcd.binds (ps := ["_law_one", "_law_other"]) fun _ _ _ _ _ _ us hl => match us, hl with | [_, _], _ => rfl
  have F_law_even := fun_mk (st := s_law_even) l_law_even c_law_even k_law_even
  have b_law_even := F_law_even.binds (ps := ["_law_feed_here", "_law_many", "_law_reach"]) fun _ _ _ _ _ _ us hl => match us, hl with | [_, _, _], _ => rfl
  have F_law_roots := fun_mk (st := s_law_roots) l_law_roots c_law_roots k_law_roots
  have b_law_roots := F_law_roots.binds (ps := ["_law_feed_here", "_law_ties", "_law_most", "_law_reach"]) fun _ _ _ _ _ _ us hl => match us, hl with | [_, _, _, _], _ => rfl
  have F_law_is_bar := fun_mk (st := s_law_is_bar) l_law_is_bar c_law_is_bar k_law_is_bar
  have b_law_is_bar := F_law_is_bar.binds (ps := ["_law_ties", "_law_ring"]) fun _ _ _ _ _ _ us hl => match us, hl with | [_, _], _ => rfl
  have F_law_other_doors := fun_mk (st := s_law_other_doors) l_law_other_doors c_law_other_doors k_law_other_doors
  have b_law_other_doors := F_law_other_doors.binds (ps := ["_law_ties"]) fun _ _ _ _ _ _ us hl => match us, hl with | [_], _ => rfl
  have F_law_all_refuse := fun_mk (st := s_law_all_refuse) l_law_all_refuse c_law_all_refuse k_law_all_refuse
  have b_law_all_refuse := F_law_all_refuse.binds (ps := ["_law_ties"]) fun _ _ _ _ _ _ us hl => match us, hl with | [_], _ => rfl
  have F_law := fun_mk (st := s_law) l_law c_law k_law
  have F_bud_init := fun_mk (st := s_bud_init) l_bud_init c_bud_init k_bud_init
  have b_bud_init := F_bud_init.binds (ps := ["self", "word"]) fun _ _ _ _ _ _ us hl => match us, hl with | [_, _], _ => rfl
  have F_uneven_init := fun_mk (st := s_uneven_init) l_uneven_init c_uneven_init k_uneven_init
  have b_uneven_init := F_uneven_init.binds (ps := ["self", "ring"]) fun _ _ _ _ _ _ us hl => match us, hl with | [_, _], _ => rfl
  have F_web_init := fun_mk (st := s_web_init) l_web_init c_web_init k_web_init
  have b_web_init := F_web_init.binds (ps := ["self", "table"]) fun _ _ _ _ _ _ us hl => match us, hl with | [_, _], _ => rfl
  have F_webmap_init := fun_mk (st := s_webmap_init) l_webmap_init c_webmap_init k_webmap_init
  have b_webmap_init := F_webmap_init.binds (ps := ["self", "table"]) fun _ _ _ _ _ _ us hl => match us, hl with | [_, _], _ => rfl
  have g_is_number := PySem.W.mg_of X G a_is_number
  have g_is_row := PySem.W.mg_of X G a_is_row
  have g_check_form := PySem.W.mg_of X G a_check_form
  have g_check_table := PySem.W.mg_of X G a_check_table
  have g_bud_count := PySem.W.mg_of X G a_bud_count
  have g_unlike_rows := PySem.W.mg_of X G a_unlike_rows
  have g_pair_bars := PySem.W.mg_of X G a_pair_bars
  have g_ring_bars := PySem.W.mg_of X G a_ring_bars
  have g_barred := PySem.W.mg_of X G a_barred
  have g_common := PySem.W.mg_of X G a_common
  have g_lot_weights := PySem.W.mg_of X G a_lot_weights
  have g_weights := PySem.W.mg_of X G a_weights
  have g_turned := PySem.W.mg_of X G a_turned
  have g_reordered := PySem.W.mg_of X G a_reordered
  have g_beside := PySem.W.mg_of X G a_beside
  have g_principal := PySem.W.mg_of X G a_principal
  have g_opposite := PySem.W.mg_of X G a_opposite
  have g_table_text := PySem.W.mg_of X G a_table_text
  have g_kind := PySem.W.mg_of X G a_kind
  have g_walked := PySem.W.mg_of X G a_walked
  have g_frieze := PySem.W.mg_of X G a_frieze
  have g_inner := PySem.W.mg_of X G a_inner
  have g_parted := PySem.W.mg_of X G a_parted
  have g_ring_length := PySem.W.mg_of X G a_ring_length
  have g_endless_holds := PySem.W.mg_of X G a_endless_holds
  have g_map_holds := PySem.W.mg_of X G a_map_holds
  have g_gathered := PySem.W.mg_of X G a_gathered
  have g_constant := PySem.W.mg_of X G a_constant
  have g_law_feed := PySem.W.mg_of X G a_law_feed
  have g_law_draw := PySem.W.mg_of X G a_law_draw
  have g_law_pick := PySem.W.mg_of X G a_law_pick
  have g_law_word := PySem.W.mg_of X G a_law_word
  have g_law_gcd := PySem.W.mg_of X G a_law_gcd
  have g_law_even := PySem.W.mg_of X G a_law_even
  have g_law_roots := PySem.W.mg_of X G a_law_roots
  have g_law_is_bar := PySem.W.mg_of X G a_law_is_bar
  have g_law_other_doors := PySem.W.mg_of X G a_law_other_doors
  have g_law_all_refuse := PySem.W.mg_of X G a_law_all_refuse
  have g_law := PySem.W.mg_of X G a_law
  have TB : ClsFn K mg "BudError" "__init__" C_BudError f_bud_init := ⟨PySem.W.mg_of X G a_BudError, sg, tyB, rdB, fcB, k_bud_init⟩
  have ox_Uneven : OexC K C_Uneven := ⟨⟨nm_Uneven, q_Uneven, N_Uneven, bs_Uneven, _, sn_Uneven, sub_Uneven, ab_Uneven, col_Uneven, dd_Uneven, m0_Uneven, m1_Uneven, m2_Uneven, m3_Uneven, m5_Uneven, xL_Uneven, rfl⟩, sa_Uneven, eC_Uneven, tC_Uneven, kC_Uneven⟩
  have T_Uneven : ErrC K mg "Uneven" C_Uneven f_uneven_init C_BudError := ⟨PySem.W.mg_of X G a_Uneven, ox_Uneven, a_uneven_init, tI_Uneven, nw_Uneven, ⟨ga_Uneven, gg_Uneven, eC_Uneven, hC_Uneven⟩, PySem.W.exm_ref eB hB tyB sC_Uneven⟩
  have te_Uneven : PySem.W.exmOne K (.ref C_Uneven) (.ref C_Uneven) = some true := PySem.W.exm_ref eC_Uneven hC_Uneven tC_Uneven sl_Uneven
  have S : SumC K mg C_Sum := ⟨PySem.W.mg_of X G a_Sum, ⟨pg, hd, po, sa⟩, nw, np, hcl, hgt, htk, hmr, slf, kc⟩
  have F_init : FunD K "__init__" "Sum.__init__" (defArgs s_init) (defBody s_init) (defScope s_init) [.ref e_init] [] f_init _ := ⟨⟨oc_init, od_init, .ref T_init, kV_init, dc_init, pm_init, an_init, cd_init, ct_init, sl_init, rfl, l_init, c_init, .inr ⟨by simp, T_init, _, [.ref e_init], nT, rfl, lT, rfl, .cons rfl .nil⟩, .inl rfl⟩, k_init⟩
  obtain ⟨ds, vds, b_init⟩ := F_init.binds1 (ps := ["self", "width", "terms"]) 3 1 (by simp) rfl (fun T kV doc pm an cdv ct us its hl hi => match us, its, hl, hi with | [_, _, _], [_], _, _ => ⟨_, rfl, rfl⟩)
  have vds : Vals [] ds := vds
  cases vds
  have F_belt : FunD K "belt" "belt" (defArgs s_belt) (defBody s_belt) (defScope s_belt) [] [("most", .int 20)] f_belt _ := ⟨⟨oc_belt, od_belt, .none, .ref D_belt, dc_belt, pm_belt, an_belt, cd_belt, ct_belt, sl_belt, rfl, l_belt, c_belt, .inl ⟨rfl, rfl⟩, .inr ⟨D_belt, rfl, fun q hq => by
    rw [List.mem_singleton.mp hq]
    exact ⟨_, ns_most, t_most, rfl⟩⟩⟩, k_belt⟩
  obtain ⟨ds_belt, vds_belt, b_belt⟩ := F_belt.binds0 (ps := ["table", "most"]) 1 (by simp) rfl (fun D doc pm an cdv ct us ks hl hk => match us, ks, hl, hk with | [_], [_], _, _ => ⟨_, _, _, _, _, _, rfl, rfl, rfl⟩)
  have F_leaned : FunD K "leaned" "leaned" (defArgs s_leaned) (defBody s_leaned) (defScope s_leaned) [] [("greatest", .bl false)] f_leaned _ := ⟨⟨oc_leaned, od_leaned, .none, .ref D_leaned, dc_leaned, pm_leaned, an_leaned, cd_leaned, ct_leaned, sl_leaned, rfl, l_leaned, c_leaned, .inl ⟨rfl, rfl⟩, .inr ⟨D_leaned, rfl, fun q hq => by
    rw [List.mem_singleton.mp hq]
    exact ⟨_, ns_greatest, rfl⟩⟩⟩, k_leaned⟩
  obtain ⟨ds_leaned, vds_leaned, b_leaned⟩ := F_leaned.binds0 (ps := ["table", "walk", "numbers", "greatest"]) 3 (by simp) rfl (fun D doc pm an cdv ct us ks hl hk => match us, ks, hl, hk with | [_, _, _], [_], _, _ => ⟨_, _, _, _, _, _, rfl, rfl, rfl⟩)
  have hcs : ∀ p ∈ [(cc_law_all_refuse, Pt_law_all_refuse), (cc_law_other_doors, Pt_law_other_doors)], p = (cc_law_all_refuse, Pt_law_all_refuse) ∨ p = (cc_law_other_doors, Pt_law_other_doors) := fun p hp => by
    simpa using hp
  refine ⟨PySem.W.fnOf "law" "law" (defArgs s_law) (defBody s_law) (defScope s_law) .none kV_law dc_law pm_law an_law cd_law ct_law, [(cc_law_all_refuse, Pt_law_all_refuse), (cc_law_other_doors, Pt_law_other_doors)], spLaw K Pt_law_all_refuse Pt_law_other_doors, fun p hp => ?_, fun p hp => ?_, fun p hp => ?_, fun s v => .of_eq rfl, fun H a ns hl _ hT hS => ⟨a, ns, rfl, hS, hl, hT _ (List.mem_cons_self ..), hT _ (List.mem_cons_of_mem _ (List.mem_cons_self ..)), fun _ => rfl⟩, fun base _ _ TBs => ?_⟩
  · rcases hcs p hp with e | e
    · rw [e]
      exact own_law_all_refuse _ g_law_all_refuse cc_law_all_refuse Pt_law_all_refuse _ _ _ _ _ _ l_law_all_refuse rfl rfl cl_law_all_refuse v11_law_all_refuse
    · rw [e]
      exact own_law_other_doors _ g_law_other_doors cc_law_other_doors Pt_law_other_doors _ _ _ _ _ _ l_law_other_doors rfl rfl cl_law_other_doors v11_law_other_doors
  · rcases hcs p hp with e | e
    · rw [e]
      exact nP_law_all_refuse
    · rw [e]
      exact nP_law_other_doors
  · rcases hcs p hp with e | e
    · rw [e]
      exact PySem.W.codeHd_of_K X hd_law_all_refuse
    · rw [e]
      exact PySem.W.codeHd_of_K X hd_law_other_doors
  have FBI : FnOk l.prog w K mg base CX0 1 f_bud_init _ ["self", "word"] (spBudInit K) := ok_budinit F_bud_init T vv
  have FS : FnOk l.prog w K mg base CX0 2 f_uneven_init _ ["self", "ring"] (spErrInit1 K "uneven" "ring") := ok_unevinit F_uneven_init T TB FBI b_bud_init
  have cDraw : Cal l.prog w K mg base CX0 1 "_law_draw" ["_law_feed_here", "_law_many"] spDraw := ⟨_, _, ok_draw F_law_draw T, g_law_draw, k_law_draw, b_law_draw⟩
  have cFeed : Cal l.prog w K mg base CX0 1 "_law_feed" ["_law_script"] (spFeed K) := ⟨_, _, ok_feed F_law_feed T, g_law_feed, k_law_feed, b_law_feed⟩
  have cPick : Cal l.prog w K mg base CX0 2 "_law_pick" ["_law_feed_here", "_law_row"] spPick := ⟨_, _, ok_pick (j := 0) F_law_pick T cDraw, g_law_pick, k_law_pick, b_law_pick⟩
  have cGcd : Cal l.prog w K mg base CX0 1 "_law_gcd" ["_law_one", "_law_other"] spGcd := ⟨_, _, ok_gcd F_law_gcd T, g_law_gcd, k_law_gcd, b_law_gcd⟩
  have cEven : Cal l.prog w K mg base CX0 3 "_law_even" ["_law_feed_here", "_law_many", "_law_reach"] spEven := ⟨_, _, ok_even (k := 0) F_law_even T cDraw cPick cGcd, g_law_even, k_law_even, b_law_even⟩
  have cRoots : Cal l.prog w K mg base CX0 2 "_law_roots" ["_law_feed_here", "_law_ties", "_law_most", "_law_reach"] spRoots := ⟨_, _, ok_roots (k := 0) F_law_roots T cDraw, g_law_roots, k_law_roots, b_law_roots⟩
  have cNum : Cal l.prog w K mg base CX0 1 "is_number" ["thing"] spIsNum := ⟨_, _, ok_isnum F_is_number T, g_is_number, k_is_number, b_is_number⟩
  have cRow : Cal l.prog w K mg base CX0 2 "is_row" ["row", "many"] spIsRow := ⟨_, _, ok_isrow F_is_row T cNum, g_is_row, k_is_row, b_is_row⟩
  have cForm : Cal l.prog w K mg base CX0 3 "check_form" ["table"] spGood := ⟨_, _, ok_form F_check_form T cRow, g_check_form, k_check_form, b_check_form⟩
  have cFormF : Cal l.prog w K mg base CX0 3 "check_form" ["table"] spFm := ⟨_, _, ok_formF F_check_form T cRow, g_check_form, k_check_form, b_check_form⟩
  have cBuds : Cal l.prog w K mg base CX0 1 "bud_count" ["table"] spBuds := ⟨_, _, ok_buds F_bud_count T, g_bud_count, k_bud_count, b_bud_count⟩
  have cPair : Cal l.prog w K mg base CX0 1 "pair_bars" ["table", "i", "j"] spPair := ⟨_, _, ok_pair F_pair_bars T, g_pair_bars, k_pair_bars, b_pair_bars⟩
  have cUnl : Cal l.prog w K mg base CX0 1 "unlike_rows" ["many", "length"] spUnlike := ⟨_, _, ok_unlike F_unlike_rows T, g_unlike_rows, k_unlike_rows, b_unlike_rows⟩
  have cRing : Cal l.prog w K mg base CX0 1 "ring_bars" ["table", "ring"] spRing := ⟨_, _, ok_ring F_ring_bars T, g_ring_bars, k_ring_bars, b_ring_bars⟩
  have cPairG : Cal l.prog w K mg base CX0 1 "pair_bars" ["table", "i", "j"] spPairG := ⟨_, _, ok_pairG F_pair_bars T, g_pair_bars, k_pair_bars, b_pair_bars⟩
  have cUnlG : Cal l.prog w K mg base CX0 1 "unlike_rows" ["many", "length"] spUnlikeG := ⟨_, _, ok_unlikeG F_unlike_rows T, g_unlike_rows, k_unlike_rows, b_unlike_rows⟩
  have cRingG : Cal l.prog w K mg base CX0 1 "ring_bars" ["table", "ring"] spRingG := ⟨_, _, ok_ringG F_ring_bars T, g_ring_bars, k_ring_bars, b_ring_bars⟩
  have cBar : Cal l.prog w K mg base CX0 4 "barred" ["table"] spGood := ⟨_, _, ok_barred F_barred T cForm cBuds cPair cUnl cRing, g_barred, k_barred, b_barred⟩
  have cBarX : Cal l.prog w K mg base CX0 4 "barred" ["table"] spBarX := ⟨_, _, ok_barX F_barred T cFormF cBuds cPairG cUnlG cRingG, g_barred, k_barred, b_barred⟩
  have cChk : Cal l.prog w K mg base CX0 5 "check_table" ["table"] spGood := ⟨_, _, ok_check F_check_table T cBar, g_check_table, k_check_table, b_check_table⟩
  have cChkX : ∀ R0, CalX l.prog w K mg base 6 "check_table" ["table"] (spBad C_Uneven R0) := fun R0 => ⟨_, _, ok_chkD F_check_table T_Uneven nf_Uneven FS b_uneven_init cBarX, g_check_table, k_check_table, b_check_table⟩
  have x_turned : ∀ R0, CalX l.prog w K mg base 7 "turned" ["table", "place"] (spBad2 C_Uneven R0) := fun R0 => ⟨_, _, d_turned F_turned (cChkX R0), g_turned, k_turned, b_turned⟩
  have x_reordered : ∀ R0, CalX l.prog w K mg base 7 "reordered" ["table", "order"] (spBad2 C_Uneven R0) := fun R0 => ⟨_, _, d_reordered F_reordered (cChkX R0), g_reordered, k_reordered, b_reordered⟩
  have x_beside : ∀ R0, CalX l.prog w K mg base 7 "beside" ["one", "other"] (spBad2 C_Uneven R0) := fun R0 => ⟨_, _, d_beside F_beside (cChkX R0), g_beside, k_beside, b_beside⟩
  have x_principal : ∀ R0, CalX l.prog w K mg base 7 "principal" ["table"] (spBad C_Uneven R0) := fun R0 => ⟨_, _, d_principal F_principal (cChkX R0), g_principal, k_principal, b_principal⟩
  have x_opposite : ∀ R0, CalX l.prog w K mg base 7 "opposite" ["table"] (spBad C_Uneven R0) := fun R0 => ⟨_, _, d_opposite F_opposite (cChkX R0), g_opposite, k_opposite, b_opposite⟩
  have x_table_text : ∀ R0, CalX l.prog w K mg base 7 "table_text" ["table"] (spBad C_Uneven R0) := fun R0 => ⟨_, _, d_table_text F_table_text (cChkX R0), g_table_text, k_table_text, b_table_text⟩
  have x_kind : ∀ R0, CalX l.prog w K mg base 7 "kind" ["table"] (spBad C_Uneven R0) := fun R0 => ⟨_, _, d_kind F_kind (cChkX R0), g_kind, k_kind, b_kind⟩
  have x_walked : ∀ R0, CalX l.prog w K mg base 7 "walked" ["table", "walk", "parts"] (spBad3 C_Uneven R0) := fun R0 => ⟨_, _, d_walked F_walked (cChkX R0), g_walked, k_walked, b_walked⟩
  have x_frieze : ∀ R0, CalX l.prog w K mg base 7 "frieze" ["table", "rounds"] (spBad2 C_Uneven R0) := fun R0 => ⟨_, _, d_frieze F_frieze (cChkX R0), g_frieze, k_frieze, b_frieze⟩
  have x_parted : ∀ R0, CalX l.prog w K mg base 7 "parted" ["table", "lean", "inner"] (spBad3 C_Uneven R0) := fun R0 => ⟨_, _, d_parted F_parted (cChkX R0), g_parted, k_parted, b_parted⟩
  have x_ring_length : ∀ R0, CalX l.prog w K mg base 7 "ring_length" ["table", "one", "other"] (spBad3 C_Uneven R0) := fun R0 => ⟨_, _, d_ring_length F_ring_length (cChkX R0), g_ring_length, k_ring_length, b_ring_length⟩
  have x_endless_holds : ∀ R0, CalX l.prog w K mg base 7 "endless_holds" ["table", "walk", "one", "other"] (spBad4 C_Uneven R0) := fun R0 => ⟨_, _, d_endless_holds F_endless_holds (cChkX R0), g_endless_holds, k_endless_holds, b_endless_holds⟩
  have x_inner : ∀ R0, CalX l.prog w K mg base 8 "inner" ["table", "walk"] (spBad2 C_Uneven R0) := fun R0 => ⟨_, _, d_inner F_inner (x_principal R0), g_inner, k_inner, b_inner⟩
  have x_map_holds : ∀ R0, CalX l.prog w K mg base 8 "map_holds" ["table", "rows"] (spBad2 C_Uneven R0) := fun R0 => ⟨_, _, d_map_holds F_map_holds (x_kind R0), g_map_holds, k_map_holds, b_map_holds⟩
  have x_beside2 : ∀ R0, CalX l.prog w K mg base 7 "beside" ["one", "other"] (spBes C_Uneven R0) := fun R0 => ⟨_, _, d_beside2 F_beside cChk (cChkX R0), g_beside, k_beside, b_beside⟩
  have x_wt : ∀ R0, CalX l.prog w K mg base 7 "weights_tables" ["table"] (spBad C_Uneven R0) := fun R0 => ⟨_, _, d_weights F_weights (cChkX R0), PySem.W.mg_of X G a_wt, k_weights, b_weights⟩
  have x_belt : ∀ R0, CalDX l.prog w K mg base 7 "belt" ["table", "most"] (.int 20) (spBad2 C_Uneven R0) := fun R0 => ⟨_, _, ds_belt, d_belt F_belt (cChkX R0), PySem.W.mg_of X G a_belt, k_belt, vds_belt, b_belt⟩
  have x_leaned : ∀ R0, CalDX l.prog w K mg base 7 "leaned" ["table", "walk", "numbers", "greatest"] (.bl false) (spBad4 C_Uneven R0) := fun R0 => ⟨_, _, ds_leaned, d_leaned F_leaned (cChkX R0), PySem.W.mg_of X G a_leaned, k_leaned, vds_leaned, b_leaned⟩
  have m_WebMap : ∀ R0, MakN l.prog w K mg base 8 "WebMap" C_WebMap ["self", "table"] (spBadI C_Uneven R0) := fun R0 => ⟨f_webmap_init, _, ⟨mkQ, a_webmap_init, fn_webmap_init, kcQ⟩, d_webmap_init F_webmap_init (x_kind R0), PySem.W.mg_of X G a_WebMap, b_webmap_init⟩
  have cGath : Cal l.prog w K mg base CX0 1 "gathered" ["terms"] (spGath K) := ⟨_, _, ok_gath F_gathered T, g_gathered, k_gathered, b_gathered⟩
  have FI : FnOk l.prog w K mg base CX0 2 f_init _ ["self", "width", "terms"] (spInit K C_Sum) := ok_init F_init T S cGath
  have mkI : Mk K C_Sum f_init := ⟨mk, a_init, fn_init, kc⟩
  have M : MakS l.prog w K mg base 2 C_Sum ["self", "width", "terms"] (spInit K C_Sum) := ⟨f_init, _, mkI, FI, S.gl, b_init⟩
  have cConst : Cal l.prog w K mg base CX0 4 "constant" ["width", "many"] (spConst C_Sum) := ⟨_, _, ok_const F_constant T S M, g_constant, k_constant, b_constant⟩
  have cCom : Cal l.prog w K mg base CX0 1 "common" ["one", "other"] spGcd := ⟨_, _, ok_common F_common T, g_common, k_common, b_common⟩
  have cLot : Cal l.prog w K mg base CX0 3 "lot_weights" ["table", "first"] spLot := ⟨_, _, ok_lot F_lot_weights T cBuds cCom, g_lot_weights, k_lot_weights, b_lot_weights⟩
  have cWt : Cal l.prog w K mg base CX0 6 "weights_tables" ["table"] spWeights := ⟨_, _, ok_weights F_weights T cChk cBuds cLot, PySem.W.mg_of X G a_wt, k_weights, b_weights⟩
  have cIs : Cal l.prog w K mg base CX0 1 "_law_is_bar" ["_law_ties", "_law_ring"] spIsBar := ⟨_, _, ok_isbar F_law_is_bar T (PySem.W.mg_none_of X G z_set), g_law_is_bar, k_law_is_bar, b_law_is_bar⟩
  have un_law_all_refuse : ∀ p ∈ ([(Pt_law_all_refuse, qL "_law_all_refuse"), (Pt_law_other_doors, qL "_law_other_doors")] : List (Addr × Str)), p.1 = Pt_law_all_refuse → p.2 = qL "_law_all_refuse" := fun p hp e => by
    simp only [List.mem_cons, List.not_mem_nil, or_false] at hp
    rcases hp with rfl | rfl
    · rfl
    · exact absurd e.symm nPP_law_all_refuse_law_other_doors
  have un_law_other_doors : ∀ p ∈ ([(Pt_law_all_refuse, qL "_law_all_refuse"), (Pt_law_other_doors, qL "_law_other_doors")] : List (Addr × Str)), p.1 = Pt_law_other_doors → p.2 = qL "_law_other_doors" := fun p hp e => by
    simp only [List.mem_cons, List.not_mem_nil, or_false] at hp
    rcases hp with rfl | rfl
    · exact absurd e nPP_law_all_refuse_law_other_doors
    · rfl
  have cOther : ∀ R0, Cal l.prog w K mg base CX0 11 "_law_other_doors" ["_law_ties"] (spOther C_Uneven R0 (TsL Pt_law_all_refuse Pt_law_other_doors)) := fun R0 => ⟨_, _, ok_other l_law_other_doors c_law_other_doors T T_Uneven (x_inner R0) (x_parted R0) (x_leaned R0) (x_ring_length R0) (x_endless_holds R0) (x_map_holds R0) cConst ⟨F_law_word, g_law_word, b_law_word, PySem.W.mg_of X G a_BudError, PySem.W.mg_of X G a_NoPart, PySem.W.mg_of X G a_NoPlace, PySem.W.mg_of X G a_Lacking, PySem.W.mg_of X G a_NothingLeft, TBs _ (List.mem_cons_of_mem _ (List.mem_cons_self ..)), List.mem_cons_of_mem _ (List.mem_cons_self ..), un_law_other_doors⟩, g_law_other_doors, k_law_other_doors, b_law_other_doors⟩
  have mkW2 : Mk K C_Web f_web_init := ⟨mkW, a_web_init, fn_web_init, kcW⟩
  have cAll : Cal l.prog w K mg base CX0 12 "_law_all_refuse" ["_law_ties"] (spAll (TsL Pt_law_all_refuse Pt_law_other_doors)) := ⟨_, _, ok_all l_law_all_refuse c_law_all_refuse T T_Uneven nf_Uneven te_Uneven mkW2 (fun R0 => d_web_init F_web_init (cChkX R0)) (PySem.W.mg_of X G a_Web) b_web_init x_wt x_turned x_reordered x_beside x_beside2 x_principal x_opposite x_table_text x_kind m_WebMap x_belt x_walked x_frieze x_ring_length cOther cIs ⟨F_law_word, g_law_word, b_law_word, PySem.W.mg_of X G a_BudError, PySem.W.mg_of X G a_NoPart, PySem.W.mg_of X G a_NoPlace, PySem.W.mg_of X G a_Lacking, PySem.W.mg_of X G a_NothingLeft, TBs _ (List.mem_cons_self ..), List.mem_cons_self .., un_law_all_refuse⟩, g_law_all_refuse, k_law_all_refuse, b_law_all_refuse⟩
  exact ok_law F_law T cFeed cDraw cEven cRoots cBarX cWt cAll cIs
end Bw
set_option Elab.async false
set_option linter.all false
open PySem PySem.W PyProof.Rows
set_option maxRecDepth 100000 in
set_option maxHeartbeats 0 in
theorem PySem.Challenge.cw_budwright_k11_whole_barred_or_weighed_holds : PySem.Challenge.rw_budwright_k11_whole_barred_or_weighed.Holds := by
  w_on; o_law
  refine HandSHeadRun.head_any (r := OpenLaw.row PySem.Challenge.rw_budwright_k11_whole_barred_or_weighed) (q := Hd.qv) (H := Hd.hk) (ob := Hd.ob) (M := 9000) (loose := Hd.names) (d := HandSHeadRun.topDef (OpenLaw.row PySem.Challenge.rw_budwright_k11_whole_barred_or_weighed).prog 144) (kwd := []) Hd.ob_eq (by kernel_rfl) (fun s => by kernel_rfl) Hd.run (by kernel_rfl) (by kernel_rfl) (by kernel_rfl) (by rfl) (by first | assumption | decide +kernel) (by decide +kernel) ⟨rfl, rfl, rfl, rfl, rfl, by decide +kernel⟩ ?hw ?hc
  case hw => w_witness2
  refine LamX.walk_ofOwns (l := PySem.Challenge.rw_budwright_k11_whole_barred_or_weighed) (n := 63) (k := 13) (x := "_law_script") (K := Hd.K) (CX := fun _ => L2.CX0) rfl (by decide) (by kernel_rfl) ⟨rfl, by decide, by decide⟩ (fun w h Y => PySem.W.kIn_of Y) ?F (fun _ _ _ _ _ h => h)
  case F =>
    k_fill
    intro w mg fa h YP KX G hmg0 own
    have hmg : mg ("law" : PySem.Str) = some (.ref fa) := by
      have e : (HandSHeadRun.topDef (OpenLaw.row PySem.Challenge.rw_budwright_k11_whole_barred_or_weighed).prog 144).name = ("law" : PySem.Str) := by kernel_rfl
      rw [← e]
      exact hmg0
    refine' Bw.all_mk KX G hmg (fun f hf => own "_law_all_refuse" f (by first | rfl | decide +kernel) hf) (fun f hf => own "_law_other_doors" f (by first | rfl | decide +kernel) hf) ?a_BudError ?a_Uneven ?a_NoPart ?a_NoPlace ?a_Lacking ?a_NothingLeft ?a_Sum ?a_Web ?a_WebMap ?a_is_number ?l_is_number ?c_is_number ?k_is_number ?a_is_row ?l_is_row ?c_is_row ?k_is_row ?a_check_form ?l_check_form ?c_check_form ?k_check_form ?a_check_table ?l_check_table ?c_check_table ?k_check_table ?a_bud_count ?l_bud_count ?c_bud_count ?k_bud_count ?a_unlike_rows ?l_unlike_rows ?c_unlike_rows ?k_unlike_rows ?a_pair_bars ?l_pair_bars ?c_pair_bars ?k_pair_bars ?a_ring_bars ?l_ring_bars ?c_ring_bars ?k_ring_bars ?a_barred ?l_barred ?c_barred ?k_barred ?a_common ?l_common ?c_common ?k_common ?a_lot_weights ?l_lot_weights ?c_lot_weights ?k_lot_weights ?a_weights ?l_weights ?c_weights ?k_weights ?a_turned ?l_turned ?c_turned ?k_turned ?a_reordered ?l_reordered ?c_reordered ?k_reordered ?a_beside ?l_beside ?c_beside ?k_beside ?a_principal ?l_principal ?c_principal ?k_principal ?a_opposite ?l_opposite ?c_opposite ?k_opposite ?a_table_text ?l_table_text ?c_table_text ?k_table_text ?a_kind ?l_kind ?c_kind ?k_kind ?a_walked ?l_walked ?c_walked ?k_walked ?a_frieze ?l_frieze ?c_frieze ?k_frieze ?a_inner ?l_inner ?c_inner ?k_inner ?a_parted ?l_parted ?c_parted ?k_parted ?a_ring_length ?l_ring_length ?c_ring_length ?k_ring_length ?a_endless_holds ?l_endless_holds ?c_endless_holds ?k_endless_holds ?a_map_holds ?l_map_holds ?c_map_holds ?k_map_holds ?a_gathered ?l_gathered ?c_gathered ?k_gathered ?a_constant ?l_constant ?c_constant ?k_constant ?a_law_feed ?l_law_feed ?c_law_feed ?k_law_feed ?a_law_draw ?l_law_draw ?c_law_draw ?k_law_draw ?a_law_pick ?l_law_pick ?c_law_pick ?k_law_pick ?a_law_word ?l_law_word ?c_law_word ?k_law_word ?a_law_gcd ?l_law_gcd ?c_law_gcd ?k_law_gcd ?a_law_even ?l_law_even ?c_law_even ?k_law_even ?a_law_roots ?l_law_roots ?c_law_roots ?k_law_roots ?a_law_is_bar ?l_law_is_bar ?c_law_is_bar ?k_law_is_bar ?a_law_other_doors ?l_law_other_doors ?c_law_other_doors ?k_law_other_doors ?a_law_all_refuse ?l_law_all_refuse ?c_law_all_refuse ?k_law_all_refuse ?a_law ?l_law ?c_law ?k_law ?a_bud_init ?l_bud_init ?c_bud_init ?k_bud_init ?a_uneven_init ?l_uneven_init ?c_uneven_init ?k_uneven_init ?a_web_init ?l_web_init ?c_web_init ?k_web_init ?a_webmap_init ?l_webmap_init ?c_webmap_init ?k_webmap_init ?z_len ?z_range ?z_zip ?z_abs ?z_all ?z_any ?z_max ?z_min ?z_sorted ?z_isinstance ?z_int ?z_bool ?z_tuple ?z_list ?z_dict ?z_str ?z_ValueError ?z_IndexError ?z_enumerate ?i_MOST_TIE ?i_MOST_BUDS ?i_MOST_ROOTS ?i_MOST_WALK ?i_WIDE ?z_set ?sg ?tyB ?rdB ?fcB ?vv ?eB ?hB ?xL_Uneven ?sa_Uneven ?ga_Uneven ?gg_Uneven ?nw_Uneven ?tI_Uneven ?kC_Uneven ?eC_Uneven ?tC_Uneven ?hC_Uneven ?sC_Uneven ?nf_Uneven ?sl_Uneven ?a_init ?l_init ?c_init ?k_init ?lT ?fn_init ?lE ?mk ?kc ?pg ?hd ?po ?sa ?nw ?np ?hcl ?hgt ?htk ?hmr ?slf ?a_belt ?l_belt ?c_belt ?k_belt ?ns_most ?a_leaned ?l_leaned ?c_leaned ?k_leaned ?ns_greatest ?mkW ?kcW ?pgW ?hdW ?poW ?saW ?mkQ ?kcQ ?pgQ ?hdQ ?poQ ?saQ ?fn_web_init ?fn_webmap_init ?a_wt ?cl_law_all_refuse ?v11_law_all_refuse ?hd_law_all_refuse ?nP_law_all_refuse ?cl_law_other_doors ?v11_law_other_doors ?hd_law_other_doors ?nP_law_other_doors ?nPP_law_all_refuse_law_other_doors
    (case a_BudError => k_is)
    (case a_Uneven => k_is)
    (case a_NoPart => k_is)
    (case a_NoPlace => k_is)
    (case a_Lacking => k_is)
    (case a_NothingLeft => k_is)
    (case a_Sum => k_is)
    (case a_Web => k_is)
    (case a_WebMap => k_is)
    (case a_is_number => k_is)
    (case l_is_number => k_is)
    (case c_is_number => k_is)
    (case k_is_number => k_is)
    (case a_is_row => k_is)
    (case l_is_row => k_is)
    (case c_is_row => k_is)
    (case k_is_row => k_is)
    (case a_check_form => k_is)
    (case l_check_form => k_is)
    (case c_check_form => k_is)
    (case k_check_form => k_is)
    (case a_check_table => k_is)
    (case l_check_table => k_is)
    (case c_check_table => k_is)
    (case k_check_table => k_is)
    (case a_bud_count => k_is)
    (case l_bud_count => k_is)
    (case c_bud_count => k_is)
    (case k_bud_count => k_is)
    (case a_unlike_rows => k_is)
    (case l_unlike_rows => k_is)
    (case c_unlike_rows => k_is)
    (case k_unlike_rows => k_is)
    (case a_pair_bars => k_is)
    (case l_pair_bars => k_is)
    (case c_pair_bars => k_is)
    (case k_pair_bars => k_is)
    (case a_ring_bars => k_is)
    (case l_ring_bars => k_is)
    (case c_ring_bars => k_is)
    (case k_ring_bars => k_is)
    (case a_barred => k_is)
    (case l_barred => k_is)
    (case c_barred => k_is)
    (case k_barred => k_is)
    (case a_common => k_is)
    (case l_common => k_is)
    (case c_common => k_is)
    (case k_common => k_is)
    (case a_lot_weights => k_is)
    (case l_lot_weights => k_is)
    (case c_lot_weights => k_is)
    (case k_lot_weights => k_is)
    (case a_weights => k_is)
    (case l_weights => k_is)
    (case c_weights => k_is)
    (case k_weights => k_is)
    (case a_turned => k_is)
    (case l_turned => k_is)
    (case c_turned => k_is)
    (case k_turned => k_is)
    (case a_reordered => k_is)
    (case l_reordered => k_is)
    (case c_reordered => k_is)
    (case k_reordered => k_is)
    (case a_beside => k_is)
    (case l_beside => k_is)
    (case c_beside => k_is)
    (case k_beside => k_is)
    (case a_principal => k_is)
    (case l_principal => k_is)
    (case c_principal => k_is)
    (case k_principal => k_is)
    (case a_opposite => k_is)
    (case l_opposite => k_is)
    (case c_opposite => k_is)
    (case k_opposite => k_is)
    (case a_table_text => k_is)
    (case l_table_text => k_is)
    (case c_table_text => k_is)
    (case k_table_text => k_is)
    (case a_kind => k_is)
    (case l_kind => k_is)
    (case c_kind => k_is)
    (case k_kind => k_is)
    (case a_walked => k_is)
    (case l_walked => k_is)
    (case c_walked => k_is)
    (case k_walked => k_is)
    (case a_frieze => k_is)
    (case l_frieze => k_is)
    (case c_frieze => k_is)
    (case k_frieze => k_is)
    (case a_inner => k_is)
    (case l_inner => k_is)
    (case c_inner => k_is)
    (case k_inner => k_is)
    (case a_parted => k_is)
    (case l_parted => k_is)
    (case c_parted => k_is)
    (case k_parted => k_is)
    (case a_ring_length => k_is)
    (case l_ring_length => k_is)
    (case c_ring_length => k_is)
    (case k_ring_length => k_is)
    (case a_endless_holds => k_is)
    (case l_endless_holds => k_is)
    (case c_endless_holds => k_is)
    (case k_endless_holds => k_is)
    (case a_map_holds => k_is)
    (case l_map_holds => k_is)
    (case c_map_holds => k_is)
    (case k_map_holds => k_is)
    (case a_gathered => k_is)
    (case l_gathered => k_is)
    (case c_gathered => k_is)
    (case k_gathered => k_is)
    (case a_constant => k_is)
    (case l_constant => k_is)
    (case c_constant => k_is)
    (case k_constant => k_is)
    (case a_law_feed => k_is)
    (case l_law_feed => k_is)
    (case c_law_feed => k_is)
    (case k_law_feed => k_is)
    (case a_law_draw => k_is)
    (case l_law_draw => k_is)
    (case c_law_draw => k_is)
    (case k_law_draw => k_is)
    (case a_law_pick => k_is)
    (case l_law_pick => k_is)
    (case c_law_pick => k_is)
    (case k_law_pick => k_is)
    (case a_law_word => k_is)
    (case l_law_word => k_is)
    (case c_law_word => k_is)
    (case k_law_word => k_is)
    (case a_law_gcd => k_is)
    (case l_law_gcd => k_is)
    (case c_law_gcd => k_is)
    (case k_law_gcd => k_is)
    (case a_law_even => k_is)
    (case l_law_even => k_is)
    (case c_law_even => k_is)
    (case k_law_even => k_is)
    (case a_law_roots => k_is)
    (case l_law_roots => k_is)
    (case c_law_roots => k_is)
    (case k_law_roots => k_is)
    (case a_law_is_bar => k_is)
    (case l_law_is_bar => k_is)
    (case c_law_is_bar => k_is)
    (case k_law_is_bar => k_is)
    (case a_law_other_doors => k_is)
    (case l_law_other_doors => k_is)
    (case c_law_other_doors => k_is)
    (case k_law_other_doors => k_is)
    (case a_law_all_refuse => k_is)
    (case l_law_all_refuse => k_is)
    (case c_law_all_refuse => k_is)
    (case k_law_all_refuse => k_is)
    (case a_law => k_is)
    (case l_law => k_is)
    (case c_law => k_is)
    (case k_law => k_is)
    (case a_bud_init => k_is)
    (case l_bud_init => k_is)
    (case c_bud_init => k_is)
    (case k_bud_init => k_is)
    (case a_uneven_init => k_is)
    (case l_uneven_init => k_is)
    (case c_uneven_init => k_is)
    (case k_uneven_init => k_is)
    (case a_web_init => k_is)
    (case l_web_init => k_is)
    (case c_web_init => k_is)
    (case k_web_init => k_is)
    (case a_webmap_init => k_is)
    (case l_webmap_init => k_is)
    (case c_webmap_init => k_is)
    (case k_webmap_init => k_is)
    (case z_len => k_is)
    (case z_range => k_is)
    (case z_zip => k_is)
    (case z_abs => k_is)
    (case z_all => k_is)
    (case z_any => k_is)
    (case z_max => k_is)
    (case z_min => k_is)
    (case z_sorted => k_is)
    (case z_isinstance => k_is)
    (case z_int => k_is)
    (case z_bool => k_is)
    (case z_tuple => k_is)
    (case z_list => k_is)
    (case z_dict => k_is)
    (case z_str => k_is)
    (case z_ValueError => k_is)
    (case z_IndexError => k_is)
    (case z_enumerate => k_is)
    (case i_MOST_TIE => k_is)
    (case i_MOST_BUDS => k_is)
    (case i_MOST_ROOTS => k_is)
    (case i_MOST_WALK => k_is)
    (case i_WIDE => k_is)
    (case z_set => k_is)
    (case sg => k_is)
    (case tyB => k_is)
    (case rdB => k_is)
    (case fcB => k_is)
    (case vv => k_is)
    (case eB => k_is)
    (case hB => k_is)
    (case xL_Uneven => k_is)
    (case sa_Uneven => k_is)
    (case ga_Uneven => k_is)
    (case gg_Uneven => k_is)
    (case nw_Uneven => k_is)
    (case tI_Uneven => k_is)
    (case kC_Uneven => k_is)
    (case eC_Uneven => k_is)
    (case tC_Uneven => k_is)
    (case hC_Uneven => k_is)
    (case sC_Uneven => first | rfl | k_is)
    (case nf_Uneven => k_is)
    (case sl_Uneven => first | rfl | k_is)
    (case a_init => k_is)
    (case l_init => k_is)
    (case c_init => k_is)
    (case k_init => k_is)
    (case lT => k_is)
    (case fn_init => k_is)
    (case lE => k_is)
    (case mk => k_is)
    (case kc => k_is)
    (case pg => k_is)
    (case hd => k_is)
    (case po => k_is)
    (case sa => k_is)
    (case nw => k_is)
    (case np => k_is)
    (case hcl => k_is)
    (case hgt => k_is)
    (case htk => first | k_is | rfl)
    (case hmr => first | k_is | rfl)
    (case slf => first | k_is | rfl)
    (case a_belt => k_is)
    (case l_belt => k_is)
    (case c_belt => k_is)
    (case k_belt => k_is)
    (case ns_most => k_is)
    (case a_leaned => k_is)
    (case l_leaned => k_is)
    (case c_leaned => k_is)
    (case k_leaned => k_is)
    (case ns_greatest => k_is)
    (case mkW => k_is)
    (case kcW => k_is)
    (case pgW => k_is)
    (case hdW => k_is)
    (case poW => k_is)
    (case saW => k_is)
    (case mkQ => k_is)
    (case kcQ => k_is)
    (case pgQ => k_is)
    (case hdQ => k_is)
    (case poQ => k_is)
    (case saQ => k_is)
    (case fn_web_init => k_is)
    (case fn_webmap_init => k_is)
    (case a_wt => k_is)
    (case cl_law_all_refuse => k_is)
    (case v11_law_all_refuse => rfl)
    (case hd_law_all_refuse => first | k_is | rfl | decide +kernel)
    (case nP_law_all_refuse => first | rfl | k_is | decide +kernel)
    (case cl_law_other_doors => k_is)
    (case v11_law_other_doors => rfl)
    (case hd_law_other_doors => first | k_is | rfl | decide +kernel)
    (case nP_law_other_doors => first | rfl | k_is | decide +kernel)
    (case nPP_law_all_refuse_law_other_doors => first | decide | decide +kernel)
