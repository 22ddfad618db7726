import PyProof.Rows.All
import Wide.All
import OpenK.AllK
import Wide.FinOn
import HandS.ForMost
import HandS.ForExc
import HandS.SortOrd
import HandS.SortRule
import HandS.SortKw
import HandS.Conv
import HandS.NamedTupSort
import KE.KDictPairs
import HandS.Codes
import HandS.IsInst
import HandS.Zip
import HandS.Walk
import HandS.TupAny
import HandS.TupMul
import HandS.Flow
import HandS.ExcInit
import HandS.OwnEq
import HandS.Style
import PyProof.InstEq
import HandS.Star
import KE.KStar
import HandS.MapObj
import KE.DataMinMax
import HandS.TupLe
import HandS.ExcField
import HandS.CallSlots
import HandS.More
import HandS.Deep
import KE.KRevSl
import HandS.DictTup
import PyProof.DictMoreH
import HandS.TupLen
import HandS.DictComp
import HandS.Lambda
import HandS.EndOwn
import HandS.NestedK
import KE.KExcInit
import KE.KTryMore
import HandS.SetFor
import PyProof.SetRoads
import HandS.Wide
import HandS.Defaults
import HandS.Head2
import HandS.Keys
import HandS.Text
import HandS.RevTup
import HandS.Rev
import HandS.FStr
import PyProof.JoinWalk
import KE.KCallOwn
import PyProof.Conv_bool
import KE.KEqDict
import HandS.ExcIs
import PySem.Challenge.RW_budwright_k06_sums_worth_at_parts
set_option Elab.async false
set_option linter.all false
set_option maxRecDepth 100000
set_option maxHeartbeats 4000000
namespace Bw
open PySem PySem.Spec PyProof.Rows L2
/-! ### tuples of ints in order -/
def IsTupI (h : Heap) (v : Value) (p : List Int) : Prop := ∃ a o its n, v = .ref a ∧ h.get? a = some o ∧ o.cls = .type "tuple" ∧ o.data = .seq its n ∧ IntsAre its.toList p
theorem IsTupI.keeps {h h' : Heap} {v : Value} {p : List Int} (x : IsTupI h v p) (k : ∀ b o, h.get? b = some o → o.cls = .type "tuple" → h'.get? b = some o) : IsTupI h' v p := by
  obtain ⟨a, o, its, n, e, ho, hc, hd, hi⟩ := x
  exact ⟨a, o, its, n, e, k _ _ ho hc, hc, hd, hi⟩
section
variable {prog : Program} {w : World} {A : Around} {s : Shared}
theorem kat_ints {b : Bool} {Q : Bool → Shared → Prop} : ∀ {ps : List Value} {p : List Int}, IntsAre ps p → ∀ {qs : List Value} {q : List Int}, IntsAre qs q → ∀ (i : Nat) (fin : Bool), fin = decide (ps.length < qs.length) → Q (HT.lexLt p q) s → PySem.W.KatLex prog w A b fin Q (ps.zip qs) i s
  | _, _, .nil, _, _, .nil, i, fin, hf, hq => by
    subst hf
    exact PySem.W.kat_nil hq
  | _, _, .nil, _, _, .cons _ _ _, i, fin, hf, hq => by
    have e : fin = true := by
      rw [hf]
      exact decide_eq_true (by rw [List.length_cons]; exact Nat.succ_pos _)
    subst e
    exact PySem.W.kat_nil hq
  | _, _, .cons _ _ _, _, _, .nil, i, fin, hf, hq => by
    have e : fin = false := by
      rw [hf]
      exact decide_eq_false (by rw [List.length_nil]; omega)
    subst e
    exact PySem.W.kat_nil hq
  | _, _, .cons x t r, _, _, .cons y u r', i, fin, hf, hq => by
    rw [List.zip_cons_cons]
    refine PySem.W.kat_cons (SeqAt.EqAt.int_int _ _ _ _ prog w _ _ ?_)
    rw [HT.lexLt_cons] at hq
    refine PySem.W.kat_go (fun e1 => ?_) (fun e1 => ?_)
    · have ex : x = y := by simpa using e1
      rw [if_pos ex] at hq
      exact PySem.W.kat_yes (kat_ints r r' (i + 1) fin (by rw [hf, List.length_cons, List.length_cons]; congr 1; simp) hq)
    · have ex : ¬ x = y := by simpa using e1
      rw [if_neg ex] at hq
      exact PySem.W.kat_no (TS.oneLt_ints _ hq)
theorem tup_cmp {vs : List Value} {k : Value → List Int} (hp : ∀ v ∈ vs, IsTupI s.heap v (k v)) : SrtO.Cmp prog w A s (tuples' true) (fun p => p.1 ∈ vs) (SrtO.lt2 fun v u => HT.lexLt (k v) (k u)) := by
  intro p q hm hm'
  obtain ⟨a, o, its, n, e, ho, hc, hd, hi⟩ := hp _ hm
  obtain ⟨a', o', its', n', e', ho', hc', hd', hi'⟩ := hp _ hm'
  show wpAny (model prog w) A (keyLt' (tuples' true) p.1 q.1) (fun r s' => s' = s ∧ r = HT.lexLt (k p.1) (k q.1)) (fun _ _ => False) s
  generalize k p.1 = x at hi ⊢
  generalize k q.1 = y at hi' ⊢
  rw [e, e']
  exact PySem.W.kat_lt ho hd ho' hd' (kat_ints hi hi' 0 _ (by rw [Array.length_toList, Array.length_toList]) ⟨rfl, rfl⟩)
theorem firsts_tup {h : Heap} : ∀ {vs : List Value}, (∀ v ∈ vs, ∃ x p, IsTupI h v (x :: p)) → ∃ fs : List Value, PySem.W.KatTups h vs fs ∧ fs.length = vs.length ∧ ∀ f ∈ fs, ∃ x t, f = Value.int x t
  | [], _ => ⟨[], PySem.W.KatTups.nil, rfl, fun _ hm => by simp at hm⟩
  | v :: vs, hp => by
    obtain ⟨fs, h1, h2, h3⟩ := firsts_tup (vs := vs) fun v' hm => hp v' (List.mem_cons_of_mem _ hm)
    obtain ⟨x, p, a, o, its, n, e, ho, hc, hd, hi⟩ := hp v (List.mem_cons_self ..)
    subst e
    cases hl : its.toList with
    | nil =>
      rw [hl] at hi
      cases hi
    | cons f r =>
      rw [hl] at hi
      cases hi with
      | cons _ t hr =>
        refine ⟨.int x t :: fs, PySem.W.KatTups.cons ho hc hd (by rw [← Array.getElem?_toList, hl]; rfl) h1, by rw [List.length_cons, List.length_cons, h2], fun g hg => ?_⟩
        rcases List.mem_cons.mp hg with rfl | hg
        · exact ⟨x, t, rfl⟩
        · exact h3 g hg
theorem tups_sortable {a : Addr} {vs : List Value} {k : Value → List Int} (h0 : 0 < vs.length) (hp : ∀ v ∈ vs, IsTupI s.heap v (k v)) (hne : ∀ v ∈ vs, k v ≠ []) (ha : ∀ o, s.heap.get? a = some o → o.cls ≠ .type "tuple") : SrtO.SortableO prog w A s a vs fun v u => HT.lexLt (k v) (k u) := by
  intro h' keep
  have hp' : ∀ v ∈ vs, IsTupI h' v (k v) := fun v hm => (hp v hm).keeps fun b o e c => keep b o (fun z => by subst z; exact ha o e c) e
  obtain ⟨fs, h1, h2, h3⟩ := firsts_tup fun v hm => by
    have x := hp' v hm
    cases e : k v with
    | nil => exact absurd e (hne v hm)
    | cons y p =>
      rw [e] at x
      exact ⟨y, p, x⟩
  refine ⟨tuples' true, fun Q E hq => ?_, tup_cmp hp'⟩
  have e0 : (Value.type "int" != Value.type "tuple") = true := by decide +kernel
  refine PySem.W.kat_kind (T := .type "int") h1 (by rw [h2]; exact h0) (fun g hg => ?_) rfl (by rw [e0]; exact hq)
  obtain ⟨x, t, rfl⟩ := h3 g hg
  exact PySem.W.Looks.now
end
/-! ### as rules of the layer -/
def unInt : V → Int
  | .int i => i
  | _ => 0
def unRef : Value → Addr
  | .ref a => a
  | _ => 0
/-- the ints of the tuple at b -/
def keyOf (H : Hp) (b : Addr) : List Int := match H b with
  | some (.tup xs) => xs.map unInt
  | _ => []
theorem keyOf_at {H : Hp} {b : Addr} {q : List Int} (h : H b = some (.tup (q.map V.int))) : keyOf H b = q := by
  unfold keyOf
  rw [h]
  show (q.map V.int).map unInt = q
  rw [List.map_map]
  have e : unInt ∘ V.int = id := rfl
  rw [e, List.map_id]
theorem unRef_map : ∀ {us : List Value} {ts : List Addr}, us = ts.map Value.ref → us.map unRef = ts
  | _, ts, rfl => by
    rw [List.map_map]
    have e : unRef ∘ Value.ref = id := rfl
    rw [e, List.map_id]
theorem ref_map : ∀ {us : List Value} {ts : List Addr}, (∀ u ∈ us, u ∈ ts.map Value.ref) → us = (us.map unRef).map Value.ref
  | [], _, _ => rfl
  | u :: us, ts, h => by
    obtain ⟨t, _, e⟩ := List.mem_map.mp (h u (List.mem_cons_self ..))
    subst e
    show _ = Value.ref t :: (us.map unRef).map Value.ref
    rw [← ref_map (ts := ts) fun v hv => h v (List.mem_cons_of_mem _ hv)]
section
variable {X : Cx}
theorem tupI_of {pins : List (Addr × Obj)} {s : Shared} {σ : L2.St} {H : Hp} (I : L2.Inv X pins σ H s) {t : Addr} {q : List Int} (ht : H t = some (.tup (q.map V.int))) : IsTupI s.heap (.ref t) (keyOf H t) := by
  rw [keyOf_at ht]
  obtain ⟨_, its2, r2, o, ho, hc, n, hd⟩ := I.hok _ _ ht
  exact ⟨t, o, _, n, rfl, ho, hc, hd, r2.ints⟩
/-- sorted(xs), a list of tuples of ints: rising -/
def rSortTI (K : PySem.W.Frag) : List V → Hp → VK → Prop := fun vs H Q => ∃ (a : Addr) (ts : List Addr), vs = [V.ref a] ∧ SqL K H a (ts.map V.ref) ∧ (∀ t ∈ ts, ∃ q : List Int, H t = some (.tup (q.map V.int))) ∧ (2 ≤ ts.length → ∀ t ∈ ts, keyOf H t ≠ []) ∧
  ∀ (ts' : List Addr) (p : Addr), ts'.Perm ts → ts'.Pairwise (fun x y => HT.lexLt (keyOf H y) (keyOf H x) = false) → H p = none → Q (.ref p) (upd H p (.lst (ts'.map V.ref)))
theorem cr_sortTI {K : PySem.W.Frag} (hK : X.K = K := by rfl) : CallR X (.builtin "sorted") (rSortTI K) := by
  subst hK
  intro pins s σ H vs us Q I r h
  obtain ⟨a, ts, rfl, hs, hx, hne, q⟩ := h
  obtain ⟨its, rv, hl, hz⟩ := I.list hs
  obtain ⟨u, rfl, ru⟩ := vals1 r
  obtain rfl : u = Value.ref a := ru
  have ei := refs_at rv
  have lz : its.length ≤ sizeLine := by
    rw [← rv.length]
    exact hz
  have hk : ∀ (h₁ : Heap), (∀ b o, s.heap.get? b = some o → h₁.get? b = some o) → ∀ v ∈ its, IsTupI h₁ v (keyOf H (unRef v)) := fun h₁ kk v hv => by
    rw [ei] at hv
    obtain ⟨t, ht, rfl⟩ := List.mem_map.mp hv
    obtain ⟨q', hq'⟩ := hx t ht
    exact (tupI_of I hq').keeps fun b o e _ => kk b o e
  refine SrtO.sorted_ord (NtL.swo_lexL fun v => keyOf H (unRef v)) hl.isList lz (fun h2 h₁ a' ha kk => ?_) fun out hs hb => ?_
  · refine tups_sortable (s := { s with heap := h₁ }) (by omega) (hk h₁ fun b o e => (kk b o e).2) (fun v hv => ?_) fun o e => ?_
    · rw [ei] at hv h2
      obtain ⟨t, ht, rfl⟩ := List.mem_map.mp hv
      rw [List.length_map] at h2
      exact hne h2 t ht
    · have e' : some o = some (seqObj "list" its.toArray 0) := e.symm.trans ha
      cases e'
      intro c
      exact absurd (Value.type.inj c) (by decide)
  · have hm : ∀ u ∈ out, u ∈ ts.map Value.ref := fun u hu => by
      rw [← ei]
      exact hb.perm.mem_iff.mp hu
    have eo := ref_map hm
    have hp : (out.map unRef).Perm ts := by
      have z := hb.perm.map unRef
      rw [unRef_map ei] at z
      exact z
    obtain ⟨n, hn⟩ := PyProof.Rows.sortedAll_at s.heap its out.toArray
    refine ⟨.ref (s.heap.objs.size + 1), upd H (s.heap.objs.size + 1) (.lst ((out.map unRef).map V.ref)), I.laid (t' := s.toks) (fun b o e => PyProof.Rows.sortedAll_old e) (Nat.le_succ _) ⟨?_, out, n, ?_, hn⟩, rfl, q _ _ hp (List.pairwise_map.mpr hs) (I.hok.fresh (Nat.le_succ _))⟩
    · rw [List.length_map, hp.length_eq, ← List.length_map (f := V.ref)]
      exact hz
    · have z := vals_refs (out.map unRef)
      rw [← eo] at z
      exact z
/-- the key tuples of a dict, as they are collected -/
theorem acc_keys {P : Program} {w : World} {es : Array DictEntry} {ks : List (List Key × Addr × Value)} {acc : Array Value} (he : es.toList = ks.map (entryOfKey (tupleKind (mixKind P w)))) (it : ItemsOf (fun i v => ∃ en : DictEntry, es[i]? = some en ∧ v = en.key) acc es.size) :
    acc.toList = (ks.map fun x => x.2.1).map Value.ref := by
  have l1 : es.size = ks.length := size_of_entries he
  apply List.ext_getElem?
  intro j
  rw [List.getElem?_map, List.getElem?_map]
  cases hj : acc.toList[j]? with
  | none =>
    have h1 := List.getElem?_eq_none_iff.mp hj
    rw [Array.length_toList, it.1] at h1
    rw [List.getElem?_eq_none (show ks.length ≤ j by omega)]
    rfl
  | some v =>
    obtain ⟨en, hen, hv⟩ := it.2 j v (by rw [← Array.getElem?_toList]; exact hj)
    have qe := entry_at he j
    rw [hen] at qe
    cases hb : ks[j]? with
    | none =>
      rw [hb] at qe
      cases qe
    | some b =>
      rw [hb] at qe
      have e2 := Option.some.inj qe
      rw [hv, e2]
      rfl
/-- the keys of a dict, tuples of ints -/
def KeysI (kvs : List (List Key × V)) (ps : List (List Int)) : Prop := kvs.map (·.1) = ps.map (List.map Sum.inl)
/-- sorted(d, reverse=True), a dict whose keys are tuples of ints: falling -/
def rSortDT : List V → List V → Hp → VK → Prop := fun vs zs H Q => ∃ (d : Addr) (kvs : List (List Key × V)) (ps : List (List Int)), vs = [V.ref d] ∧ zs = [.bl true] ∧ Rd H d (.dT kvs) ∧ KeysI kvs ps ∧ (2 ≤ ps.length → ∀ q ∈ ps, q ≠ []) ∧
  ∀ (bs : List Addr) (p : Addr), (∀ b ∈ bs, ∃ q : List Int, H b = some (.tup (q.map V.int))) → (bs.map (keyOf H)).Perm ps → bs.Pairwise (fun x y => HT.lexLt (keyOf H x) (keyOf H y) = false) → H p = none → Q (.ref p) (upd H p (.lst (bs.map V.ref)))
theorem keys_kt {H : Hp} : ∀ {kvs : List (List Key × V)} {ks : List (List Key × Addr × Value)} {ps : List (List Int)}, KT H kvs ks → KeysI kvs ps → (∀ b ∈ ks.map (fun x => x.2.1), ∃ q : List Int, H b = some (.tup (q.map V.int))) ∧ (ks.map fun x => x.2.1).map (keyOf H) = ps
  | _, _, ps, .nil, h => by
    cases ps with
    | nil => exact ⟨fun b hb => by simp at hb, rfl⟩
    | cons q ps => cases h
  | _, _, ps, .cons (a := kv) (b := x) hx t, h => by
    cases ps with
    | nil => cases h
    | cons q ps =>
      have h' : kv.1 :: _ = q.map Sum.inl :: ps.map (List.map Sum.inl) := h
      obtain ⟨e1, e2⟩ := List.cons.inj h'
      obtain ⟨i1, i2⟩ := keys_kt t e2
      have hq : H x.2.1 = some (.tup (q.map V.int)) := by
        rw [hx.2.1, e1, List.map_map]
        rfl
      refine ⟨fun b hb => ?_, ?_⟩
      · rcases List.mem_cons.mp hb with rfl | hb
        · exact ⟨q, hq⟩
        · exact i1 b hb
      · show keyOf H x.2.1 :: _ = q :: ps
        rw [keyOf_at hq, i2]
theorem cr_sortDT (hc : X.calm = true) : CallRK X (.builtin "sorted") [Str.ofString "reverse"] rSortDT := by
  intro pins s σ H vs zs us ws Q I r rz h
  obtain ⟨d, kvs, ps, rfl, rfl, hd, hK, hne, q⟩ := h
  obtain rfl := Vals.ref1 r
  obtain ⟨w1, rfl, e1⟩ := vals1 rz
  obtain rfl : w1 = Value.bool true := e1
  obtain ⟨z, hs, ks, pr, o, es, ep, ho, hx, hdt, he, hn⟩ := (show ObjOk X.prog X.w H s.heap d (.dT kvs) from hd.ok I.hok)
  have l1 : es.size = ks.length := size_of_entries he
  have l2 : kvs.length = ks.length := Paired.length pr
  obtain ⟨k1, k2⟩ := keys_kt pr hK
  have l3 : ks.length = ps.length := by
    rw [← k2, List.length_map, List.length_map]
  show wpAny (model X.prog X.w) X.A (call (.builtin "sorted") [.ref d] [(Str.ofString "reverse", .bool true)]) _ _ _
  refine PyProof.Rows.call_function_entry_kw PyProof.Rows.kind_sorted PyProof.Rows.plain_sorted PyProof.Rows.entry_sorted (PyProof.Rows.args_sorted_rev _ _) ?_
  unfold Builtin.«sorted»
  refine wpAny_bind (m := checkCount "sorted" 1 1 _) (wpAny_pure ?_)
  refine wpAny_bind (PySem.W.kdu_collect (A := X.A.in1) (kdl_raw hs hx hdt) (I.ok.hd hc) ho (by omega) fun h' tk acc hk hacc => ?_)
  have ea := acc_keys he hacc
  generalize (ks.map fun x => x.2.1) = ts at ea k1 k2
  have I1 : Inv X pins σ H { s with heap := h', toks := tk } := I.kept hk
  have lts : ts.length = ps.length := by
    rw [← k2, List.length_map]
  have lz : acc.toList.length ≤ sizeLine := by
    rw [ea, List.length_map]
    omega
  refine wpAny_bind (wpAny_newList ?_ lz)
  have hoL : (h'.push (seqObj "list" acc.toList.toArray 0)).get? h'.objs.size = some (seqObj "list" acc.toList.toArray 0) := Heap.get?_push_size _ rfl
  show wpAny _ _ _ _ _ { s with heap := h'.push (seqObj "list" acc.toList.toArray 0), toks := tk }
  have kp : ∀ b o, h'.get? b = some o → b ≠ h'.objs.size ∧ (h'.push (seqObj "list" acc.toList.toArray 0)).get? b = some o := fun b o e => ⟨Nat.ne_of_lt (Heap.lt_size e), Heap.get?_push_of_some _ e⟩
  refine wpAny_bind (wpAny_holding (wpAny_call_entry_kw PyProof.Rows.slot_list_sort ⟨_, hoL, rfl⟩ PyProof.Rows.entry_list_sort (SrtR.list_sort_ordR (b := true) (s := { s with heap := h'.push (seqObj "list" acc.toList.toArray 0), toks := tk }) (NtL.swo_lexL fun v => keyOf H (unRef v)) hoL lz (fun h2 => ?_) fun out g1 g2 => ⟨_, rfl, ?_⟩) (PyProof.Rows.args_list_sort_rev _ _)))
  · refine tups_sortable (s := { s with heap := h'.push (seqObj "list" acc.toList.toArray 0), toks := tk }) (by omega) (fun v hv => ?_) (fun v hv => ?_) fun o e => ?_
    · rw [ea] at hv
      obtain ⟨t, ht, rfl⟩ := List.mem_map.mp hv
      obtain ⟨q', hq'⟩ := k1 t ht
      exact (tupI_of I1 hq').keeps fun b o e _ => (kp b o e).2
    · rw [ea] at hv
      obtain ⟨t, ht, rfl⟩ := List.mem_map.mp hv
      rw [ea, List.length_map, lts] at h2
      refine hne h2 _ ?_
      rw [← k2]
      exact List.mem_map.mpr ⟨t, ht, rfl⟩
    · have e' : some o = some (seqObj "list" acc.toList.toArray 0) := e.symm.trans hoL
      cases e'
      intro c
      exact absurd (Value.type.inj c) (by decide)
  · rw [if_pos rfl] at g2
    have hm : ∀ u ∈ out, u ∈ ts.map Value.ref := fun u hu => by
      rw [← ea]
      exact List.mem_reverse.mp (g2.perm.mem_iff.mp hu)
    have eo := ref_map hm
    have hp : (out.map unRef).Perm ts := by
      have z := (g2.perm.trans (List.reverse_perm _)).map unRef
      rw [unRef_map ea] at z
      exact z
    obtain ⟨n, hn'⟩ := PyProof.Rows.sortedHeap_at (vs := acc.toList) (out := out.toArray.reverse) hoL
    have er : (out.toArray.reverse) = (out.reverse).toArray := by simp
    refine wpAny_pure ⟨_, rfl, .ref h'.objs.size, upd H h'.objs.size (.lst ((out.map unRef).reverse.map V.ref)), I1.laid (t' := tk) (fun b u e => ?_) (Nat.le_refl _) ⟨?_, out.reverse, n, ?_, ?_⟩, rfl, q _ _ (fun b hb => k1 b (hp.mem_iff.mp (List.mem_reverse.mp hb))) ?_ ?_ (I1.hok.fresh (Nat.le_refl _))⟩
    · have hb : b < h'.objs.size := Heap.lt_size e
      rw [if_pos rfl, PyProof.Rows.sortedHeap_old (Nat.ne_of_lt hb) (by rw [size_push']; exact Nat.lt_succ_of_lt hb)]
      exact Heap.get?_push_of_some _ e
    · rw [List.length_map, List.length_reverse, hp.length_eq]
      omega
    · have z := vals_refs (out.map unRef).reverse
      rw [List.map_reverse, List.map_reverse, ← eo] at z
      rw [List.map_reverse]
      exact z
    · rw [if_pos rfl, ← er]
      exact hn'
    · rw [← k2]
      exact ((List.reverse_perm _).trans hp).map (keyOf H)
    · rw [List.pairwise_reverse]
      exact List.pairwise_map.mpr g1
end
end Bw
set_option Elab.async false
set_option linter.all false
set_option maxRecDepth 100000
set_option maxHeartbeats 4000000
namespace Bw
open PySem PySem.Spec PyProof.Rows L2
def mergeT (kvs more : List (List Key × V)) : List (List Key × V) := more.foldl (fun acc kv => putK acc kv.1 kv.2) kvs
/-- dict(xs), a list of pairs (key, value), the keys tuples: later ones win, at the first one's place -/
def rDictPT (K : PySem.W.Frag) : List V → Hp → VK → Prop := fun vs H Q => ∃ (a : Addr) (ts : List Addr) (its : List (List Key × Addr × V)), vs = [V.ref a] ∧ SqL K H a (ts.map V.ref) ∧
  Paired (fun t (x : List Key × Addr × V) => H t = some (.tup [.ref x.2.1, x.2.2]) ∧ H x.2.1 = some (.tup (x.1.map kV))) ts its ∧ ∀ p, H p = none → Q (.ref p) (upd H p (.dT (mergeT [] (its.map fun x => (x.1, x.2.2)))))
section
variable {X : Cx} {pins : List (Addr × Obj)} {s : Shared} {σ : L2.St} {H : Hp}
theorem pairsT_of (I : L2.Inv X pins σ H s) : ∀ {ts : List Addr} {its : List (List Key × Addr × V)}, Paired (fun t (x : List Key × Addr × V) => H t = some (.tup [.ref x.2.1, x.2.2]) ∧ H x.2.1 = some (.tup (x.1.map kV))) ts its →
    ∃ ps : List (List Key × Addr × Value), Paired (fun (x : List Key × Addr × V) (q : List Key × Addr × Value) => x.1 = q.1 ∧ H q.2.1 = some (.tup (q.1.map kV)) ∧ RelV x.2.2 q.2.2) its ps ∧ ps.length = ts.length ∧
      ∀ (j : Nat) (q : List Key × Addr × Value), ps[j]? = some q → ∃ t, ts[j]? = some t ∧ s.heap.IsTuple t #[.ref q.2.1, q.2.2]
  | _, _, .nil => ⟨[], .nil, rfl, fun j q e => by simp at e⟩
  | _, _, .cons (a := t) (b := x) h r => by
    obtain ⟨ps, r1, hl, hp⟩ := pairsT_of I r
    obtain ⟨_, us, rv, hT⟩ := I.hok _ _ h.1
    obtain ⟨u1, u2, rfl, e1, e2⟩ := vals2 rv
    obtain rfl : u1 = Value.ref x.2.1 := e1
    refine ⟨(x.1, x.2.1, u2) :: ps, .cons ⟨rfl, h.2, e2⟩ r1, by rw [List.length_cons, List.length_cons, hl], fun j q e => ?_⟩
    cases j with
    | zero =>
      cases (Option.some.inj e)
      exact ⟨t, rfl, hT⟩
    | succ j => exact hp j q e
theorem kt_merge {H' : Hp} : ∀ {its : List (List Key × Addr × V)} {ps : List (List Key × Addr × Value)} {kvs : List (List Key × V)} {xs : List (List Key × Addr × Value)}, Paired (fun (x : List Key × Addr × V) (q : List Key × Addr × Value) => x.1 = q.1 ∧ H' q.2.1 = some (.tup (q.1.map kV)) ∧ RelV x.2.2 q.2.2) its ps → KT H' kvs xs →
    KT H' (mergeT kvs (its.map fun x => (x.1, x.2.2))) (storedAllH xs ps)
  | _, _, _, _, .nil, k => k
  | _, _, kvs, xs, .cons (a := x) (b := q) h r, k => by
    have z := KT.put k q.1 h.2.1 h.2.2
    rw [← h.1] at z
    have z2 := kt_merge (kvs := putK kvs x.1 x.2.2) (xs := storedH xs x.1 q.2.1 q.2.2) r z
    show KT H' (mergeT (putK kvs x.1 x.2.2) _) (storedAllH (storedH xs q.1 q.2.1 q.2.2) _)
    rw [← h.1]
    exact z2
theorem putT_len (kvs : List (List Key × V)) (k : List Key) (v : V) : (putK kvs k v).length ≤ kvs.length + 1 := length_putK kvs k v
theorem mergeT_len : ∀ (more kvs : List (List Key × V)), (mergeT kvs more).length ≤ kvs.length + more.length
  | [], kvs => Nat.le_refl _
  | m :: more, kvs => by
    show (mergeT (putK kvs m.1 m.2) more).length ≤ _
    have h1 := mergeT_len more (putK kvs m.1 m.2)
    have h2 := putT_len kvs m.1 m.2
    rw [List.length_cons]
    omega
end
theorem cr_dictPT {X : Cx} {K : PySem.W.Frag} (hc : X.calm = true) (hu : X.A.units + 64 < cLine) (hK : X.K = K := by rfl) : CallR X (.type "dict") (rDictPT K) := by
  subst hK
  intro pins s σ H vs us Q I r h
  obtain ⟨a, ts, its, rfl, hs, hp, q⟩ := h
  obtain ⟨vs, rv, hl, hz⟩ := I.list hs
  obtain ⟨u, rfl, ru⟩ := vals1 r
  obtain rfl : u = Value.ref a := ru
  have ei := refs_at rv
  obtain ⟨o, n, ho, hcl, hd, hdat⟩ := hl
  obtain ⟨ps, r1, lp, hpt⟩ := pairsT_of I hp
  have lts : ts.length ≤ sizeLine := by
    rw [List.length_map] at hz
    exact hz
  let vps : List (Value × Value) := ps.map fun q => (Value.ref q.2.1, q.2.2)
  have lv : vps.length = ts.length := by
    show (ps.map _).length = _
    rw [List.length_map, lp]
  have hkey : ∀ x ∈ ps, H x.2.1 = some (.tup (x.1.map kV)) := by
    clear hpt lp lv vps hp q
    induction r1 with
    | nil => intro x hx; simp at hx
    | cons h t ih =>
      intro x hx
      rcases List.mem_cons.mp hx with rfl | hx
      · exact h.2.1
      · exact ih x hx
  refine call_dict_pairsH (knd := tupleKind (mixKind X.prog X.w)) (ps := ps) (PairArg.list a vs.toArray (fun j => (ts[j]?).getD 0) vps) (I.ok.hd hc) (show (X.A.in1.in1).units < cLine from ?_) ⟨⟨o, n, ho, hcl, hd, hdat⟩, ?_, fun j k v e => ?_⟩ ⟨by rw [lv, lp], fun i key v e => ?_⟩ (fun h' hk x hx => ?_) (by rw [lv]; exact lts) fun h' tk hd' hk => ?_
  · show X.A.units + 1 + 1 < cLine
    omega
  · rw [List.size_toArray, ei, List.length_map, lv]
  · obtain ⟨x, ex, e2⟩ : ∃ x, ps[j]? = some x ∧ (Value.ref x.2.1, x.2.2) = (k, v) := by
      have e' : (ps.map fun q => (Value.ref q.2.1, q.2.2))[j]? = some (k, v) := e
      rw [List.getElem?_map] at e'
      cases hx : ps[j]? with
      | none =>
        rw [hx] at e'
        cases e'
      | some x =>
        rw [hx] at e'
        exact ⟨x, rfl, Option.some.inj e'⟩
    cases e2
    obtain ⟨t, et, hT⟩ := hpt j x ex
    have eg : (ts[j]?).getD 0 = t := by
      rw [et]
      rfl
    refine ⟨?_, .inl ?_⟩
    · show vs.toArray[j]? = some (Value.ref ((ts[j]?).getD 0))
      rw [eg, ei, List.getElem?_toArray, List.getElem?_map, et]
      rfl
    · show s.heap.IsTuple ((ts[j]?).getD 0) _
      rw [eg]
      exact hT
  · have e' : (ps.map fun q => (Value.ref q.2.1, q.2.2))[i]? = some (key, v) := e
    rw [List.getElem?_map] at e'
    cases hx : ps[i]? with
    | none =>
      rw [hx] at e'
      cases e'
    | some x =>
      rw [hx] at e'
      cases (Option.some.inj e')
      exact ⟨x.1, x.2.1, rfl, rfl⟩
  · have hb := key_of I.hok (hkey x hx)
    obtain ⟨ob, items, m, h1, h2, h3, h4⟩ := hb
    exact ⟨ob, items, m, hk _ _ (Nat.ne_of_lt (Heap.lt_size h1)) (by simp) h1, h2, h3, h4⟩
  · have hm : (s.heap.objs.size == sysModules) = false := beq_eq_false_iff_ne.mpr (Nat.ne_of_gt I.big)
    obtain ⟨q', es, ep, hq, h2, h3, h4, _, h5⟩ := hd'
    have hlen : (mergeT [] (its.map fun x => (x.1, x.2.2))).length ≤ sizeLine := by
      have z := mergeT_len (its.map fun x => (x.1, x.2.2)) []
      rw [List.length_map, List.length_nil, ← Paired.length hp] at z
      omega
    have hf : H s.heap.objs.size = none := I.hok.fresh (Nat.le_refl _)
    refine ⟨.ref s.heap.objs.size, upd H s.heap.objs.size (.dT (mergeT [] (its.map fun x => (x.1, x.2.2)))), I.laid (t' := tk) (fun b o e => hk b o (by simp) e) (Nat.le_refl _) ⟨hlen, hm, storedAllH [] ps, (kt_merge r1 .nil).keeps fun b ys hb => ?_, q', es, ep, hq, h2, h3, h4, h5⟩, rfl, q _ hf⟩
    rw [upd_ne (ne_of_none hb hf)]
    exact hb
end Bw
set_option Elab.async false
set_option linter.all false
set_option maxRecDepth 100000
namespace Bw
open PySem PySem.Spec PyProof.Rows L2
/-! ### a def that may be called, by its name -/
structure Cal (P : Program) (w : World) (K : PySem.W.Frag) (mg : Str → Option Value) (base : Heap) (CX : CXT) (k : Nat) (x : Str) (ps : List Str) (sp : Sp) : Prop where
  ex : ∃ (f : Addr) (fd : FuncData), FnOk P w K mg base CX k f fd ps sp ∧ mg x = some (.ref f) ∧ PySem.W.keepIn K (.ref f) = true ∧ Binds K fd ps []
section
variable {X : Cx} {x : Str} {ps : List Str} {sp : Sp} {k : Nat} {e : Expr} {es : List Expr} {p pos : Pos} {t : TA}
theorem pe_cal (C : Cal X.prog X.w X.K X.mg X.base CX0 k x ps sp) (hr : Room k X.A) (hg : Gl X x) (ha : PA X (e :: es) t) (hdb : (x == ("__debug__" : Str)) = false := by decide) (he : starEach (e :: es) X.env = (false, eval e X.env) :: starEach es X.env := by rfl)
    (hpl : (backTo pos (starEach es X.env)).any (·.1) = false := by rfl) : PE X (.Call (.Name x p) (e :: es) [] pos) (tCall sp [] E0 t) := by
  obtain ⟨f, fd, F, hm, hk, hb⟩ := C.ex
  exact pe_call F hr hg hm hk hb .nil pass0 ha hdb he hpl
end
/-! ### the rules with the written part named: within comprehensions the reading must not hang on the block -/
section
variable {X : Cx} {K : PySem.W.Frag}
def rTupOf (K : PySem.W.Frag) : List V → Hp → VK → Prop := fun xs H Q => ∃ p ys, xs = [V.ref p] ∧ ((SqL K H p ys ∧ ∀ l, H l = none → Q (.ref l) (upd H l (.tup ys))) ∨ (SqT K H p ys ∧ Q (.ref p) H))
def rLstOf (K : PySem.W.Frag) : List V → Hp → VK → Prop := fun xs H Q => ∃ p ys, xs = [V.ref p] ∧ (SqL K H p ys ∨ SqT K H p ys) ∧ ∀ l, H l = none → Q (.ref l) (upd H l (.lst ys))
def rLenOf (K : PySem.W.Frag) : List V → Hp → VK → Prop := fun xs H Q => ∃ p ys, xs = [V.ref p] ∧ (SqL K H p ys ∨ SqT K H p ys) ∧ Q (.int ys.length) H
theorem c_tup (h : X.K = K := by rfl) : CallR X (.type "tuple") (rTupOf K) := by
  subst h
  exact call_tuple_of
theorem c_lst (h : X.K = K := by rfl) : CallR X (.type "list") (rLstOf K) := by
  subst h
  exact call_list_of
theorem c_len (h : X.K = K := by rfl) : CallR X (.builtin "len") (rLenOf K) := by
  subst h
  exact call_len_seq
theorem c_isi (h : X.K = K := by rfl) : CallR X (.builtin "isinstance") (rIsi K) := by
  subst h
  exact call_isi
theorem c_isiT (h : X.K = K := by rfl) : CallR X (.builtin "isinstance") (rIsiT K) := by
  subst h
  exact call_isiT
theorem c_all (hc : X.calm = true) (h : X.K = K := by rfl) : CallR X (.builtin "all") (rAll K) := by
  subst h
  exact cr_all hc
theorem c_any (hc : X.calm = true) (h : X.K = K := by rfl) : CallR X (.builtin "any") (rAny K) := by
  subst h
  exact cr_any hc
theorem i_list (h : X.K = K := by rfl) : IxR X (rIxL K) := by
  subst h
  exact ix_list
theorem i_tup (h : X.K = K := by rfl) : IxR X (rIxT K) := by
  subst h
  exact ix_tup
theorem l_list (h : X.K = K := by rfl) : SlR X (rSlL K) := by
  subst h
  exact sl_list
theorem l_tup (h : X.K = K := by rfl) : SlR X (rSlA K) := by
  subst h
  exact sl_tupA
theorem o_cat (h : X.K = K := by rfl) : OpR X (binaryOp .Add) (rCatA K) := by
  subst h
  exact op_catA
theorem o_in (h : X.K = K := by rfl) : OpR X (compareOp .In) (rIn K false) := by
  subst h
  exact op_in_seq
theorem o_notin (h : X.K = K := by rfl) : OpR X (compareOp .NotIn) (rIn K true) := by
  subst h
  exact op_notIn_seq
theorem p_list {tg l : Expr} {tl : TE} (hl : PE X l tl) (h : X.K = K := by rfl) : PI X tg l (iList K tl) := by
  subst h
  exact pi_list hl
theorem p_tup {tg l : Expr} {tl : TE} (hl : PE X l tl) (h : X.K = K := by rfl) : PI X tg l (iTup K tl) := by
  subst h
  exact pi_tup hl
theorem g_tup {es : List Expr} {k : Nat} {t : TGs} {n : Nat} {pos : Pos} (hc : X.calm = true) (h : PGs X es t) (hn : (assignEach es X.env).length = n := by rfl) (hst : (assignEach es X.env).findIdx? (·.1) = none := by rfl) (hK : X.K = K := by rfl) : PG X (.Tuple es k pos) (gTup K n t) := by
  subst hK
  exact pg_tup hc h hn hst
theorem pe_gint {x : Str} {pos : Pos} {i : Int} (hg : Gl X x) (hm : ∃ t, X.mg x = some (.int i t)) (hdb : (x == ("__debug__" : Str)) = false := by decide) : PE X (.Name x pos) (tC (.int i)) := by
  obtain ⟨t, hm⟩ := hm
  exact pe_glob hg hm ⟨t, rfl⟩ (hd := hdb)
end
/-! ### heaps -/
theorem same_upd {H : Hp} {p : Addr} {o : HO} (h : H p = none) : Same H (upd H p o) := fun b x e => by
  rw [upd_ne (ne_of_none e h)]
  exact e
/-- all but what stands at f is as it was -/
def SameBut (f : Addr) (H H' : Hp) : Prop := ∀ b o, b ≠ f → H b = some o → H' b = some o
theorem SameBut.refl (f : Addr) (H : Hp) : SameBut f H H := fun _ _ _ h => h
theorem SameBut.trans {f : Addr} {H H1 H2 : Hp} (a : SameBut f H H1) (b : SameBut f H1 H2) : SameBut f H H2 := fun c o n h => b c o n (a c o n h)
theorem SameBut.upd {f : Addr} {H H1 : Hp} {o : HO} (a : SameBut f H H1) : SameBut f H (upd H1 f o) := fun c o n h => by
  rw [upd_ne n]
  exact a c o n h
theorem SameBut.new {f p : Addr} {H H1 : Hp} {o : HO} (a : SameBut f H H1) (h : H1 p = none) : SameBut f H (L2.upd H1 p o) := fun c o n q => by
  have z := a c o n q
  rw [upd_ne (ne_of_none z h)]
  exact z
theorem _root_.L2.Same.but {f : Addr} {H H1 : Hp} (a : Same H H1) : SameBut f H H1 := fun c o _ h => a c o h
theorem SameBut.same {f : Addr} {H0 H H1 : Hp} (a : SameBut f H H1) (h : H0 f = none) (s : Same H0 H) : Same H0 H1 := fun c o q => a c o (ne_of_none q h) (s c o q)
/-! ### what the law draws from -/
def FeedAt (H : Hp) (f l : Addr) : Prop := ∃ (ns : List Int) (i : Nat) (n m c : Int), l ≠ f ∧ H f = some (.lst [.ref l, .int i, .int n, .int m, .int c]) ∧ H l = some (.lst (ns.map V.int)) ∧ i ≤ ns.length ∧ 0 ≤ n ∧ 0 ≤ m ∧ m < 2147483647
theorem FeedAt.same {H H' : Hp} {f l : Addr} (s : Same H H') (h : FeedAt H f l) : FeedAt H' f l := by
  obtain ⟨ns, i, n, m, c, a, b, d, r⟩ := h
  exact ⟨ns, i, n, m, c, a, s _ _ b, s _ _ d, r⟩
theorem FeedAt.put {H : Hp} {f l b : Addr} {o : HO} (h : FeedAt H f l) (n1 : b ≠ f) (n2 : b ≠ l) : FeedAt (upd H b o) f l := by
  obtain ⟨ns, i, n, m, c, a, b', d, r⟩ := h
  exact ⟨ns, i, n, m, c, a, by rw [upd_ne (Ne.symm n1)]; exact b', by rw [upd_ne (Ne.symm n2)]; exact d, r⟩
theorem FeedAt.ne {H : Hp} {f l p : Addr} (h : FeedAt H f l) (n : H p = none) : p ≠ f := by
  obtain ⟨_, _, _, _, _, _, b, _⟩ := h
  exact Ne.symm (ne_of_none b n)
theorem FeedAt.ne2 {H : Hp} {f l p : Addr} (h : FeedAt H f l) (n : H p = none) : p ≠ l := by
  obtain ⟨_, _, _, _, _, _, _, d, _⟩ := h
  exact Ne.symm (ne_of_none d n)
theorem FeedAt.tup {H : Hp} {f l p : Addr} {xs : List V} (h : FeedAt H f l) (n : H p = some (.tup xs)) : p ≠ f := by
  obtain ⟨_, _, _, _, _, _, b, _⟩ := h
  exact ne_of n b (by intro z; cases z)
theorem SameBut.updN {f b : Addr} {H H1 : Hp} {o : HO} (a : SameBut f H H1) (h : H b = none) : SameBut f H (L2.upd H1 b o) := fun c o n q => by
  rw [upd_ne (ne_of_none q h)]
  exact a c o n q
theorem int_at {ns : List Int} {i : Nat} {y : V} (h : (ns.map V.int)[i]? = some y) : ∃ u, ns[i]? = some u ∧ y = .int u := by
  rw [List.getElem?_map] at h
  cases e : ns[i]? with
  | none =>
    rw [e] at h
    cases h
  | some u =>
    rw [e] at h
    exact ⟨u, rfl, (Option.some.inj h).symm⟩
end Bw
set_option Elab.async false
set_option linter.all false
set_option maxRecDepth 100000
set_option maxHeartbeats 4000000
namespace Bw
open PySem PySem.Spec PyProof.Rows L2
theorem tuple_mul1 (l : Addr) (items : Array Value) (n : Nat) (dd : Option Addr) (sl : Array (Option Value)) (u : Tok) :
    Meets (Builtin.«tuple.__mul__» ⟨[.ref l, .int 1 u], []⟩) (fun _ R s => s.heap.get? l = some { cls := .type "tuple", dict := dd, data := .seq items n, slots := sl } ∧ R (.ok (.ret (Value.ref l))) s) :=
  .of_wp fun prog w A R s h => by
    obtain ⟨hp, g, d, tk, os⟩ := s
    obtain ⟨hl, h⟩ := h
    have f1 := AutoSeq1.idx_int
    have c1 : (items.isEmpty || (1 : Int) == 1) = true := by simp
    wp_walk using wpAny_loadPart' hl
    repeat (first
      | (refine wpAny_ite_true (decide_eq_true c1) ?_; wp_walk using wpAny_loadPart' hl)
      | (refine wpAny_ite_false (by decide) ?_; wp_walk using wpAny_loadPart' hl))
    exact ⟨_, rfl, h⟩
/-- t * k, k from 1 on -/
def rRep1 (K : PySem.W.Frag) : R2 := fun x y H Q => ∃ l k xs, x = .ref l ∧ y = .int k ∧ SqT K H l xs ∧ xs ≠ [] ∧ 1 ≤ k ∧ k ≤ 1000 ∧ xs.length ≤ 1000 ∧ (k = 1 → Q (.ref l) H) ∧ (2 ≤ k → ∀ p, H p = none → Q (.ref p) (upd H p (.tup (List.replicate k.toNat xs).flatten)))
theorem o_rep {X : Cx} {K : PySem.W.Frag} (hK : X.K = K := by rfl) : OpR X (binaryOp .Mult) (rRep1 K) := by
  subst hK
  intro pins s σ H x y v u Q I rx ry h
  obtain ⟨l, k, xs, rfl, rfl, hT, hne, h1, h2, hz, q1, q2⟩ := h
  by_cases hk : k = 1
  · subst hk
    cases rx
    obtain ⟨t, rfl⟩ := ry
    obtain ⟨its, r, ⟨⟨cls, dd, data, sl⟩, ho, hc, n, hd⟩, hs⟩ := I.tuple hT
    simp only at hc hd
    subst hc hd
    refine wpAny_binaryOp_repeat_ref (T := "tuple") (U := "int") (by decide) ⟨_, ho, rfl⟩ (fun s' => typeIs_int s' 1 t) noFill_tuple_mul F.fills_int_mul F.slot_int_rmul repeat_tuple F.slot_int_index.lookup
      (call_meets F.slot_int_rmul (typeIs_int s 1 t) F.entry_int_rmul (F.args_int_rmul_2 _ _) (int_rmul_tuple 1 t l its.toArray n dd sl)
        ⟨ho, rfl, ⟨_, ho, rfl⟩, call_meets F.slot_tuple_mul ⟨_, ho, rfl⟩ F.entry_tuple_mul (F.args_tuple_mul_2 _ _) (tuple_mul1 l its.toArray n dd sl t) ⟨ho, ?_⟩⟩)
    exact ⟨.ref l, H, I, rfl, q1 rfl⟩
  · exact op_repT pins s σ H _ _ v u Q I rx ry ⟨l, k, xs, rfl, rfl, hT, hne, by omega, h2, hz, q2 (by omega)⟩
end Bw
set_option Elab.async false
set_option linter.all false
set_option maxRecDepth 100000
set_option maxHeartbeats 4000000
namespace Bw
open PySem PySem.Spec PyProof.Rows L2
/-! ### t * k, k from 0 on -/
theorem tuple_mul0 (l : Addr) (items : Array Value) (n : Nat) (dd : Option Addr) (sl : Array (Option Value)) (u : Tok) (hne : items.isEmpty = false) :
    Meets (Builtin.«tuple.__mul__» ⟨[.ref l, .int 0 u], []⟩) (fun _ R s => s.heap.get? l = some { cls := .type "tuple", dict := dd, data := .seq items n, slots := sl } ∧ R (.ok (.ret (Value.ref s.heap.objs.size))) { s with heap := s.heap.push { cls := Value.type "tuple", data := Data.seq #[] }, toks := s.toks }) :=
  .of_wp fun prog w A R s h => by
    obtain ⟨hp, g, d, tk, os⟩ := s
    obtain ⟨hl, h⟩ := h
    have f1 := AutoSeq1.idx_int
    have c1 : (items.isEmpty || (0 : Int) == 1) = false := by rw [hne]; rfl
    have c2 : (decide ((0 : Int) ≤ 0) || items.isEmpty) = true := by simp
    wp_walk using wpAny_loadPart' hl
    repeat (first
      | (refine wpAny_ite_true (decide_eq_true c2) ?_; wp_walk using wpAny_loadPart' hl)
      | (refine wpAny_ite_false (by decide) ?_; wp_walk using wpAny_loadPart' hl)
      | (refine wpAny_ite_false (decide_eq_false (by rw [c1]; exact Bool.false_ne_true)) ?_; wp_walk using wpAny_loadPart' hl))
    exact ⟨_, rfl, h⟩
def rRepZ (K : PySem.W.Frag) : R2 := fun x y H Q => ∃ l k xs, x = .ref l ∧ y = .int k ∧ SqT K H l xs ∧ xs ≠ [] ∧ 0 ≤ k ∧ k ≤ 1000 ∧ xs.length ≤ 1000 ∧ (k = 0 → ∀ p, H p = none → Q (.ref p) (upd H p (.tup []))) ∧ (k = 1 → Q (.ref l) H) ∧ (2 ≤ k → ∀ p, H p = none → Q (.ref p) (upd H p (.tup (List.replicate k.toNat xs).flatten)))
theorem o_repZ {X : Cx} {K : PySem.W.Frag} (hK : X.K = K := by rfl) : OpR X (binaryOp .Mult) (rRepZ K) := by
  subst hK
  intro pins s σ H x y v u Q I rx ry h
  obtain ⟨l, k, xs, rfl, rfl, hT, hne, h1, h2, hz, q0, q1, q2⟩ := h
  by_cases hk : k = 0
  · subst hk
    cases rx
    obtain ⟨t, rfl⟩ := ry
    obtain ⟨its, r, ⟨⟨cls, dd, data, sl⟩, ho, hc, n, hd⟩, hs⟩ := I.tuple hT
    simp only at hc hd
    subst hc hd
    have hi : its.toArray.isEmpty = false := by
      cases its with
      | nil =>
        cases r
        exact absurd rfl hne
      | cons a b => rfl
    refine wpAny_binaryOp_repeat_ref (T := "tuple") (U := "int") (by decide) ⟨_, ho, rfl⟩ (fun s' => typeIs_int s' 0 t) noFill_tuple_mul F.fills_int_mul F.slot_int_rmul repeat_tuple F.slot_int_index.lookup
      (call_meets F.slot_int_rmul (typeIs_int s 0 t) F.entry_int_rmul (F.args_int_rmul_2 _ _) (int_rmul_tuple 0 t l its.toArray n dd sl)
        ⟨ho, rfl, ⟨_, ho, rfl⟩, call_meets F.slot_tuple_mul ⟨_, ho, rfl⟩ F.entry_tuple_mul (F.args_tuple_mul_2 _ _) (tuple_mul0 l its.toArray n dd sl t hi) ⟨ho, ?_⟩⟩)
    exact ⟨.ref s.heap.objs.size, _, I.laid (t' := s.toks) (o := .tup []) (fun b ob z => Heap.get?_push_of_some _ z) (Nat.le_refl _) ⟨Nat.zero_le _, [], .nil, IsTup.new _ _⟩, rfl, q0 rfl _ (I.hok.fresh (Nat.le_refl _))⟩
  · exact o_rep (X := X) rfl pins s σ H _ _ v u Q I rx ry ⟨l, k, xs, rfl, rfl, hT, hne, by omega, h2, hz, q1, q2⟩
/-! ### len(x), x == y, x != y of own instances -/
section
variable {X : Cx} {CX : CXT} {C f : Addr} {fd : FuncData} {ps : List Str} {sp : Sp} {n : Nat} {E : XK}
def rLenOwn (C : Addr) (sp : Sp) (E : XK) : List V → Hp → VK → Prop := fun xs H Q => ∃ a dx fs, xs = [V.ref a] ∧ H a = some (.ins C dx fs) ∧ sp [.ref a] H (fun z H' => ∃ i : Int, z = .int i ∧ 0 ≤ i ∧ i < 2 ^ 63 ∧ Q (.int i) H') E
theorem c_lenOwn (hs : PySem.W.findIn X.K (.ref C) "__len__" = some (some (.ref f))) (hf : PySem.W.isFn X.K (.ref f) = true) (F : FnOk X.prog X.w X.K X.mg X.base CX n f fd ps sp) (hr : Room (n + 1) X.A) (hb : Binds X.K fd ps []) (hx : Passes CX X E) : CallR X (.builtin "len") (rLenOwn C sp E) := by
  intro pins s σ H xs us Q I r h
  obtain ⟨a, dx, fs, rfl, ha, q⟩ := h
  obtain ⟨u, rfl, ru⟩ := vals1 r
  obtain rfl : u = Value.ref a := ru
  obtain ⟨mA, J, _⟩ := ins_get I.hok ha
  obtain ⟨od, J, _⟩ := J.look
  obtain ⟨m, hF⟩ := I.fr
  refine PySem.W.len_K hF I.ok.mod.kin J hs hf ?_
  have hl := F.len _ _ _ _ q
  refine wpAny_call (codeAny_mono (F.run X.A.in1 X.stack s H ⟨[.ref a], []⟩ [.ref a] [.ref a] _ E hr.in1 I.env0.in1 (by
    have z := hb s [.ref a] I.kIn (by simpa using hl)
    simpa using z) (.cons rfl .nil) q) fun r s' hq => ?_)
  cases r with
  | error e => exact hx pins σ H s e s' I hq
  | ok fl =>
    cases fl with
    | ret w =>
      obtain ⟨z, H', I', rz, i, ei, i0, i1, qz⟩ := I.after hq
      subst ei
      obtain ⟨t, rfl⟩ := (show ∃ t, w = Value.int i t from rz)
      exact ⟨⟨i0, i1⟩, .int i, H', I'.tok _, ⟨_, rfl⟩, qz⟩
    | next => exact False.elim hq
    | brk => exact False.elim hq
    | cont => exact False.elim hq
def rEqOwn (C : Addr) (sp : Sp) (E : XK) (neg : Bool) : R2 := fun x y H Q => ∃ a dx fs b dy gs, x = .ref a ∧ y = .ref b ∧ H a = some (.ins C dx fs) ∧ H b = some (.ins C dy gs) ∧ sp [.ref a, .ref b] H (fun z H' => ∃ c : Bool, z = .bl c ∧ Q (.bl (if neg then !c else c)) H') E
theorem own_run (F : FnOk X.prog X.w X.K X.mg X.base CX n f fd ps sp) {A : Around} (hr : Room n A) (hfr : A.frames = X.A.frames) (hb : Binds X.K fd ps []) (hx : Passes CX X E) {pins : List (Addr × Obj)} {s : Shared} {σ : L2.St} {H : Hp} {a b : Addr} {Q : Bool → Hp → Prop} (I : L2.Inv X pins σ H s)
    (q : sp [.ref a, .ref b] H (fun z H' => ∃ c : Bool, z = .bl c ∧ Q c H') E) : wpAny (model X.prog X.w) A (call (.ref f) [.ref a, .ref b]) (fun v s' => ∃ (c : Bool) (H' : Hp), v = .bool c ∧ L2.Inv X pins σ H' s' ∧ Q c H') X.xe s := by
  have hl := F.len _ _ _ _ q
  have e0 : Env0 X.prog X.w X.K X.mg X.base A X.stack s H := by
    have e := I.env0
    exact ⟨by rw [hfr]; exact e.frames, e.mod, e.bs, e.bsz, e.funs, e.frf, e.hok, e.bare⟩
  refine wpAny_call (codeAny_mono (F.run A X.stack s H ⟨[.ref a, .ref b], []⟩ [.ref a, .ref b] [.ref a, .ref b] _ E hr e0 (by
    have z := hb s [.ref a, .ref b] I.kIn (by simpa using hl)
    simpa using z) (.cons rfl (.cons rfl .nil)) q) fun r s' hq => ?_)
  cases r with
  | error e => exact hx pins σ H s e s' I hq
  | ok fl =>
    cases fl with
    | ret w =>
      obtain ⟨z, H', I', rz, c, ec, qc⟩ := I.after hq
      subst ec
      obtain rfl : w = Value.bool c := rz
      exact ⟨c, H', rfl, I', qc⟩
    | next => exact False.elim hq
    | brk => exact False.elim hq
    | cont => exact False.elim hq
theorem o_eqOwn (hs : PySem.W.findIn X.K (.ref C) "__eq__" = some (some (.ref f))) (hf : PySem.W.isFn X.K (.ref f) = true) (F : FnOk X.prog X.w X.K X.mg X.base CX n f fd ps sp) (hr : Room n X.A) (hb : Binds X.K fd ps []) (hx : Passes CX X E) : OpR X (compareOp .Eq) (rEqOwn C sp E false) := by
  intro pins s σ H x y v u Q I rx ry h
  obtain ⟨a, dx, fs, b, dy, gs, rfl, rfl, ha, hb', q⟩ := h
  cases rx
  cases ry
  obtain ⟨mA, J, _⟩ := ins_get I.hok ha
  obtain ⟨mB, J', _⟩ := ins_get I.hok hb'
  obtain ⟨od, J, _⟩ := J.look
  obtain ⟨od', J', _⟩ := J'.look
  obtain ⟨m, hF⟩ := I.fr
  show wpAny _ _ (richCompare .Eq (.ref a) (.ref b)) _ _ _
  refine PySem.W.cmp_K (op := .Eq) (tb := .ref C) hr.units0 hF I.ok.mod.kin J J'.type (by simp [PySem.W.notFirst]) hs hf ?_
  refine wpAny_mono (own_run F hr rfl hb hx I q) (fun v s' z => ?_) fun _ _ z => z
  obtain ⟨c, H', rfl, I', qc⟩ := z
  exact ⟨.bl c, H', I', rfl, qc⟩
end
end Bw
set_option Elab.async false
set_option linter.all false
set_option maxRecDepth 100000
set_option maxHeartbeats 4000000
namespace Bw
open PySem PySem.Spec PyProof.Rows L2
section
variable {prog : Program} {w : World} {A : Around} {E : Value → Shared → Prop} {s : Shared} {K : PySem.W.Frag} {x C f : Addr} {ox : Obj} {od : Option Obj} {b : Value}
theorem ifBound_ne {Q : Option Value → Shared → Prop} (X : K.In s.heap) (I : PySem.W.InstAt s.heap x ox C od) (hs : PySem.W.findIn K (.ref C) "__ne__" = some (some (.builtin "object.__ne__")))
    (h : wpAny (model prog w) A (call (.builtin "object.__ne__") [.ref x, b]) (fun v => Q (some v)) E s) : wpAny (model prog w) A (callSpecialIfBound? (.ref x) "__ne__" [b]) Q E s := by
  have S := F.cmp_object.ne
  simp only [callSpecialIfBound?, bindSpecialIfBound?]
  refine wpAny_holding (wpAny_bind (wpAny_bind (wpAny_bind (I.type.here ((PySem.W.looks_findIn X hs).here ?_)))))
  simp only [S.bind]
  refine wpAny_bind (wpAny_askSetting (wpAny_ite ?_))
  have fin : wpAny (model prog w) A (call (.builtin "object.__ne__") ([.ref x] ++ [b]) >>= fun v => pure (some v)) Q E s := wpAny_bind (wpAny_mono h (fun _ _ z => wpAny_pure z) fun _ _ z => z)
  split
  · exact wpAny_bind (wpAny_pure (wpAny_pure fin))
  · exact wpAny_tryCatch (wpAny_bind (wpAny_pure (wpAny_pure fin)))
theorem call_ne {Q : Value → Shared → Prop} (hu : A.units + 1 < cLine) (X : K.In s.heap) (I : PySem.W.InstAt s.heap x ox C od) (hob : PySem.W.mroIn K C (.type "object") = some true) (hs : PySem.W.findIn K (.ref C) "__eq__" = some (some (.ref f))) (hf : PySem.W.isFn K (.ref f) = true)
    (h : wpAny (model prog w) A.in1 (call (.ref f) [.ref x, b]) (fun v s' => ∃ c, v = .bool c ∧ Q (.bool !c) s') E s) : wpAny (model prog w) A (call (.builtin "object.__ne__") [.ref x, b]) Q E s := by
  have sub : PySem.W.Looks (model prog w) s.heap (isInstance (.ref x) (.type "object")) true := I.type.andThen (PySem.W.looks_mroIn X hob)
  refine wpAny_call (codeAny_call_builtin F.cmp_object.ne.plain F.cmpEntry_ne (PySem.W.check_slot F.cmpKind_ne F.cmpSplit_ne sub (F.cmpArgs_ne _ _) ?_))
  unfold Builtin.«object.__ne__»
  have one : wpAny (model prog w) A.in1 (callSpecialIfBound? (.ref x) "__eq__" [b]) (fun r s' => ∃ c, r = some (.bool c) ∧ Q (.bool !c) s') E s := PySem.W.ifBound_K X I hs hf (wpAny_mono h (fun v s' z => by
    obtain ⟨c, rfl, q⟩ := z
    exact ⟨c, rfl, q⟩) fun _ _ z => z)
  repeat (first | with_reducible refine wpAny_cRoomFor hu ?_ | (with_reducible refine wpAny_mono one (fun r s' z => ?_) (fun _ _ e => e); obtain ⟨c, rfl, q⟩ := z) | wp_step)
  exact q
theorem rich_ne {Q : Value → Shared → Prop} (hu : A.units + 1 < cLine) (X : K.In s.heap) (I : PySem.W.InstAt s.heap x ox C od) (hb : PySem.W.Looks (model prog w) s.heap (typeOf b) (.ref C)) (hob : PySem.W.mroIn K C (.type "object") = some true)
    (hn : PySem.W.findIn K (.ref C) "__ne__" = some (some (.builtin "object.__ne__"))) (hs : PySem.W.findIn K (.ref C) "__eq__" = some (some (.ref f))) (hf : PySem.W.isFn K (.ref f) = true)
    (h : wpAny (model prog w) A.in1 (call (.ref f) [.ref x, b]) (fun v s' => ∃ c, v = .bool c ∧ Q (.bool !c) s') E s) : wpAny (model prog w) A (richCompare .NotEq (.ref x) b) Q E s := by
  have one : wpAny (model prog w) A (tryCompare (.ref x) (cmpInfo .NotEq).2.1 b) (fun r s' => ∃ c : Bool, r = some (.bool !c) ∧ Q (.bool !c) s') E s := by
    unfold tryCompare
    have two : wpAny (model prog w) A (call (.builtin "object.__ne__") [.ref x, b]) (fun v s' => ∃ c : Bool, v = .bool !c ∧ Q (.bool !c) s') E s := by
      refine call_ne hu X I hob hs hf (wpAny_mono h (fun v s' z => ?_) fun _ _ z => z)
      obtain ⟨c, e, q⟩ := z
      exact ⟨c, e, c, rfl, q⟩
    refine wpAny_bind (ifBound_ne X I hn (wpAny_mono two (fun v s' y => ?_) fun _ _ y => y))
    obtain ⟨c, rfl, q⟩ := y
    exact wpAny_pure ⟨c, rfl, q⟩
  unfold richCompare
  simp only [oneThing_ref]
  refine wpAny_holding (wpAny_bind (wpAny_cRoomFor (by omega) ?_))
  refine wpAny_bind (I.type.here (wpAny_bind (hb.here ?_)))
  split
  · rename_i q
    simp at q
  · refine wpAny_bind (wpAny_pure ?_)
    simp only [Bool.false_eq_true, if_false]
    refine wpAny_bind (wpAny_mono one (fun r s' z => ?_) fun _ _ e => e)
    obtain ⟨c, rfl, hq⟩ := z
    exact wpAny_pure hq
end
section
variable {X : Cx} {CX : CXT} {C f : Addr} {fd : FuncData} {ps : List Str} {sp : Sp} {n : Nat} {E : XK}
theorem o_neOwn (hob : PySem.W.mroIn X.K C (.type "object") = some true) (hn : PySem.W.findIn X.K (.ref C) "__ne__" = some (some (.builtin "object.__ne__"))) (hs : PySem.W.findIn X.K (.ref C) "__eq__" = some (some (.ref f))) (hf : PySem.W.isFn X.K (.ref f) = true)
    (F : FnOk X.prog X.w X.K X.mg X.base CX n f fd ps sp) (hr : Room (n + 1) X.A) (hb : Binds X.K fd ps []) (hx : Passes CX X E) : OpR X (compareOp .NotEq) (rEqOwn C sp E true) := by
  intro pins s σ H x y v u Q I rx ry h
  obtain ⟨a, dx, fs, b, dy, gs, rfl, rfl, ha, hb', q⟩ := h
  cases rx
  cases ry
  obtain ⟨mA, J, _⟩ := ins_get I.hok ha
  obtain ⟨mB, J', _⟩ := ins_get I.hok hb'
  obtain ⟨od, J, _⟩ := J.look
  obtain ⟨od', J', _⟩ := J'.look
  show wpAny _ _ (richCompare .NotEq (.ref a) (.ref b)) _ _ _
  have hu : X.A.units + 1 < cLine := by
    have z := hr.un
    omega
  refine rich_ne hu I.kIn J J'.type hob hn hs hf (wpAny_mono (own_run F hr.in1 rfl hb hx I q) (fun v s' z => ?_) fun _ _ z => z)
  obtain ⟨c, H', rfl, I', qc⟩ := z
  exact ⟨c, rfl, .bl !c, H', I', rfl, qc⟩
end
end Bw
set_option Elab.async false
set_option linter.all false
set_option maxRecDepth 100000
set_option maxHeartbeats 4000000
namespace Bw
open PySem PySem.Spec PyProof.Rows L2
/-! ### zip of a list and a tuple, either way about: by what is asked of one side -/
structure Src (P : Program) (w : World) (i l : Addr) (St : Nat → Heap → Prop) (Sq : Array Value → Heap → Prop) : Prop where
  obj : ∀ k h, St k h → ∃ o, h.get? i = some o ∧ ∀ v, o.data ≠ .cell v
  keep : ∀ k h h', St k h → (∀ o, h.get? i = some o → h'.get? i = some o) → St k h'
  keepS : ∀ xs h h', Sq xs h → (∀ o, h.get? l = some o → h'.get? l = some o) → Sq xs h'
  item : ∀ (A : Around) (E : Value → Shared → Prop) (s : Shared) (k : Nat) (xs : Array Value) (x : Value) (Q : Value → Shared → Prop), St k s.heap → Sq xs s.heap → xs[k]? = some x →
    (∀ h', St (k + 1) h' → Heap.SameBut i s.heap h' → Q x { s with heap := h' }) → wpAny (model P w) A (Builtin.SmallTypes.nextOf (.ref i)) Q E s
  fin : ∀ (A : Around) (E : Value → Shared → Prop) (s : Shared) (k : Nat) (xs : Array Value) (Q : Value → Shared → Prop), A.handled = none → St k s.heap → Sq xs s.heap → xs[k]? = none →
    (∀ h' e, Heap.ExtBut i s.heap h' → (∃ o, h'.get? e = some o ∧ o.cls = .type "StopIteration") → E (.ref e) { s with heap := h' }) → wpAny (model P w) A (Builtin.SmallTypes.nextOf (.ref i)) Q E s
theorem src_list {P : Program} {w : World} {i l : Addr} : Src P w i l (fun k h => h.IsListIter i l k) (fun xs h => h.IsList l xs) where
  obj := fun k h st => by
    obtain ⟨o, e, _, d⟩ := st
    exact ⟨o, e, fun v q => by rw [d] at q; cases q⟩
  keep := fun k h h' st kp => st.at kp
  keepS := fun xs h h' st kp => st.at kp
  item := fun A E s k xs x Q st sq hx q => wpAny_nextOf_list_item st sq hx q
  fin := fun A E s k xs Q hh st sq hx q => wpAny_nextOf_list_end hh st sq hx q
theorem src_tup {P : Program} {w : World} {i l : Addr} : Src P w i l (fun k h => h.IsTupleIter i l k) (fun xs h => h.IsTuple l xs) where
  obj := fun k h st => by
    obtain ⟨o, e, _, d⟩ := st
    exact ⟨o, e, fun v q => by rw [d] at q; cases q⟩
  keep := fun k h h' st kp => st.at kp
  keepS := fun xs h h' st kp => by
    obtain ⟨o, e, z⟩ := st
    exact ⟨o, kp o e, z⟩
  item := fun A E s k xs x Q st sq hx q => RZ.nextOf_tuple_item st sq hx q
  fin := fun A E s k xs Q hh st sq hx q => RZ.nextOf_tuple_end hh st sq hx q
section
variable {P : Program} {w : World} {A : Around} {E : Value → Shared → Prop} {s : Shared} {z TI TO i1 i2 l1 l2 : Addr} {U1 U2 : Nat → Heap → Prop} {Z1 Z2 : Array Value → Heap → Prop}
theorem zipG_item {k : Nat} {xs ys : Array Value} {x y a b : Value} {Q : Value → Shared → Prop} (S1 : Src P w i1 l1 U1 Z1) (S2 : Src P w i2 l2 U2 Z2) (D : ZipApart z TI TO i1 i2 l1 l2)
    (hz : IsZip s.heap z TI TO .none) (hTI : IsPair s.heap TI (.ref i1) (.ref i2)) (hTO : IsPair s.heap TO a b) (h1 : U1 k s.heap) (h2 : U2 k s.heap) (hl1 : Z1 xs s.heap) (hl2 : Z2 ys s.heap) (hx : xs[k]? = some x) (hy : ys[k]? = some y)
    (hQ : ∀ h', IsZip h' z TI TO (rawInt s.heap.objs.size) → IsPair h' TO x y → U1 (k + 1) h' → U2 (k + 1) h' → IsPair h' s.heap.objs.size x y →
      (∀ c o, c ≠ z → c ≠ TO → c ≠ i1 → c ≠ i2 → s.heap.get? c = some o → h'.get? c = some o) → Q (.ref s.heap.objs.size) { s with heap := h' }) :
    wpAny (model P w) A (Builtin.«zip.__next__» ⟨[.ref z], []⟩) (fun fin s' => ∃ v, fin = .done (.ret v) ∧ Q v s') E s := by
  show wpAny _ _ (field (Value.ref z) 2 >>= _) _ _ _
  refine wpAny_bind (wpAny_field hz (rfl) (x := .bool false) rfl ?_); show wpAny _ _ (field (Value.ref z) 3 >>= _) _ _ _
  refine wpAny_bind (wpAny_field hz (rfl) (x := .ref TI) rfl ?_); refine wpAny_bind (wpAny_seqItems hTI (rfl) ?_)
  show wpAny _ _ (Builtin.SmallTypes.ownedTupleIsFree (Value.ref z) >>= _) _ _ _
  refine wpAny_bind ?_; unfold Builtin.SmallTypes.ownedTupleIsFree
  refine wpAny_bind (wpAny_field hz (rfl) (x := .none) rfl (wpAny_pure ?_)); simp only [if_true]
  refine wpAny_bind (wpAny_rule ?_); refine wpAny_bind (wpAny_field hz (rfl) (x := .ref TO) rfl ?_)
  refine wpAny_bind (wpAny_setField_rec hz (by simp) fun g1 z1 b1 => ?_); replace z1 : IsZip g1 z TI TO .ellipsis := z1
  refine wpAny_bind ?_; simp only [List.zipIdx_cons, List.zipIdx_nil, List.forIn_cons, List.forIn_nil]
  refine wpAny_bind (wpAny_bind (wpAny_onRaise ?_)); show wpAny _ _ (Builtin.SmallTypes.nextOf (Value.ref i1) >>= _) _ _ _
  refine wpAny_bind (S1.item _ _ _ k xs x _ (S1.keep _ _ _ h1 fun o e => b1.extBut _ _ D.i1z e) (S1.keepS _ _ _ hl1 fun o e => b1.extBut _ _ D.l1z e) hx fun g2 u1 b2 => wpAny_pure ?_)
  have p2 : IsPair g2 TO a b := b2.extBut _ _ D.TOi1 (b1.extBut _ _ D.TOz hTO)
  refine wpAny_bind (wpAny_seqItems p2 (rfl) ?_); refine wpAny_bind (wpAny_updateSeq_pair p2 fun g3 p3 b3 => ?_); replace p3 : IsPair g3 TO x b := p3
  refine wpAny_bind (wpAny_letGo (wpAny_pure ?_)); refine wpAny_bind (wpAny_bind (wpAny_onRaise ?_)); show wpAny _ _ (Builtin.SmallTypes.nextOf (Value.ref i2) >>= _) _ _ _
  refine wpAny_bind (S2.item _ _ _ k ys y _ (S2.keep _ _ _ h2 fun o e => b3.extBut _ _ D.TOi2.symm (b2.extBut _ _ D.i12.symm (b1.extBut _ _ D.i2z e)))
    (S2.keepS _ _ _ hl2 fun o e => b3.extBut _ _ D.l2TO (b2.extBut _ _ D.l2i1 (b1.extBut _ _ D.l2z e))) hy fun g4 u2 b4 => wpAny_pure ?_)
  have p4 : IsPair g4 TO x b := b4.extBut _ _ D.TOi2 p3
  refine wpAny_bind (wpAny_seqItems p4 (rfl) ?_); refine wpAny_bind (wpAny_updateSeq_pair p4 fun g5 p5 b5 => ?_); replace p5 : IsPair g5 TO x y := p5
  refine wpAny_bind (wpAny_letGo (wpAny_pure (wpAny_pure ?_))); refine wpAny_bind (wpAny_seqItems p5 (rfl) ?_); refine wpAny_bind (wpAny_newTuple ?_)
  have sz : g5.objs.size = s.heap.objs.size := by rw [b5.1, b4.1, b3.1, b2.1, b1.1]
  have z5 : IsZip g5 z TI TO .ellipsis := b5.extBut _ _ D.TOz.symm (b4.extBut _ _ D.i2z.symm (b3.extBut _ _ D.TOz.symm (b2.extBut _ _ D.i1z.symm z1)))
  have k5 : ∀ c o, c ≠ z → c ≠ TO → c ≠ i1 → c ≠ i2 → s.heap.get? c = some o → g5.get? c = some o := fun c o c1 c2 c3 c4 e => b5.extBut _ _ c2 (b4.extBut _ _ c4 (b3.extBut _ _ c2 (b2.extBut _ _ c3 (b1.extBut _ _ c1 e))))
  have v1 : U1 (k + 1) g5 := S1.keep _ _ _ u1 fun o e => b5.extBut _ _ D.TOi1.symm (b4.extBut _ _ D.i12 (b3.extBut _ _ D.TOi1.symm e))
  have v2 : U2 (k + 1) g5 := S2.keep _ _ _ u2 fun o e => b5.extBut _ _ D.TOi2.symm e
  have zl : z < g5.objs.size := Heap.lt_size z5
  show wpAny _ _ (Builtin.SmallTypes.ownedTupleHandOut (Value.ref z) (.ref g5.objs.size) >>= _) _ _ _
  refine wpAny_bind ?_; unfold Builtin.SmallTypes.ownedTupleHandOut
  have z6 : IsZip (g5.push { cls := .type "tuple", data := .seq #[x, y] }) z TI TO .ellipsis := Heap.get?_push_of_some _ z5
  refine wpAny_bind (wpAny_setField_rec z6 (by simp) fun g7 z7 b7 => ?_); replace z7 : IsZip g7 z TI TO (rawInt g5.objs.size) := z7
  refine wpAny_setField_rec z7 (by simp) fun g8 z8 b8 => ?_; replace z8 : IsZip g8 z TI TO (rawInt g5.objs.size) := z8
  have up : ∀ c o, c ≠ z → g5.get? c = some o → g8.get? c = some o := fun c o c1 e => b8.extBut _ _ c1 (b7.extBut _ _ c1 (Heap.get?_push_of_some _ e))
  have p8 : IsPair g8 g5.objs.size x y := b8.extBut _ _ (Nat.ne_of_gt zl) (b7.extBut _ _ (Nat.ne_of_gt zl) (Heap.get?_push_size _ rfl))
  rw [sz] at z8 p8
  refine wpAny_pure ⟨_, rfl, ?_⟩; show Q (.ref g5.objs.size) _; rw [sz]
  exact hQ g8 z8 (up _ _ D.TOz p5) (S1.keep _ _ _ v1 fun o e => up _ o D.i1z e) (S2.keep _ _ _ v2 fun o e => up _ o D.i2z e) p8 fun c o c1 c2 c3 c4 e => up c o c1 (k5 c o c1 c2 c3 c4 e)
theorem zipG_end {k : Nat} {xs ys : Array Value} {a b : Value} {Q : PySem.Fin → Shared → Prop} (S1 : Src P w i1 l1 U1 Z1) (S2 : Src P w i2 l2 U2 Z2) (hh : A.handled = none) (D : ZipApart z TI TO i1 i2 l1 l2)
    (hz : IsZip s.heap z TI TO .none) (hTI : IsPair s.heap TI (.ref i1) (.ref i2)) (hTO : IsPair s.heap TO a b) (h1 : U1 k s.heap) (h2 : U2 k s.heap) (hl1 : Z1 xs s.heap) (hl2 : Z2 ys s.heap) (hend : xs[k]? = none ∨ ys[k]? = none)
    (hE : ∀ h' e, (∀ c o, c ≠ z → c ≠ TO → c ≠ i1 → c ≠ i2 → s.heap.get? c = some o → h'.get? c = some o) → (∃ o, h'.get? e = some o ∧ o.cls = .type "StopIteration") → E (.ref e) { s with heap := h' }) :
    wpAny (model P w) A (Builtin.«zip.__next__» ⟨[.ref z], []⟩) Q E s := by
  show wpAny _ _ (field (Value.ref z) 2 >>= _) _ _ _
  refine wpAny_bind (wpAny_field hz (rfl) (x := .bool false) rfl ?_); show wpAny _ _ (field (Value.ref z) 3 >>= _) _ _ _
  refine wpAny_bind (wpAny_field hz (rfl) (x := .ref TI) rfl ?_); refine wpAny_bind (wpAny_seqItems hTI (rfl) ?_)
  show wpAny _ _ (Builtin.SmallTypes.ownedTupleIsFree (Value.ref z) >>= _) _ _ _
  refine wpAny_bind ?_; unfold Builtin.SmallTypes.ownedTupleIsFree
  refine wpAny_bind (wpAny_field hz (rfl) (x := .none) rfl (wpAny_pure ?_)); simp only [if_true]
  refine wpAny_bind (wpAny_rule ?_); refine wpAny_bind (wpAny_field hz (rfl) (x := .ref TO) rfl ?_)
  refine wpAny_bind (wpAny_setField_rec hz (by simp) fun g1 z1 b1 => ?_); replace z1 : IsZip g1 z TI TO .ellipsis := z1
  refine wpAny_bind ?_; simp only [List.zipIdx_cons, List.zipIdx_nil, List.forIn_cons, List.forIn_nil]
  refine wpAny_bind (wpAny_bind (wpAny_onRaise ?_)); show wpAny _ _ (Builtin.SmallTypes.nextOf (Value.ref i1) >>= _) _ _ _
  have j1 : U1 k g1 := S1.keep _ _ _ h1 fun o e => b1.extBut _ _ D.i1z e
  have m1 : Z1 xs g1 := S1.keepS _ _ _ hl1 fun o e => b1.extBut _ _ D.l1z e
  cases hx : xs[k]? with
  | none =>
    refine wpAny_bind (S1.fin _ _ _ k xs _ hh j1 m1 hx fun g2 e b2 he => ?_); obtain ⟨oe, hoe, hce⟩ := he
    have z2 : IsZip g2 z TI TO .ellipsis := b2 _ _ D.i1z.symm z1
    have ez : e ≠ z := fun q => by subst q; rw [z2] at hoe; cases hoe; simp at hce
    refine wpAny_setField_rec z2 (by simp) fun g3 _ b3 => hE g3 e (fun c o c1 _ c3 _ q => b3.extBut _ _ c1 (b2 _ _ c3 (b1.extBut _ _ c1 q))) ⟨oe, b3.extBut _ _ ez hoe, hce⟩
  | some x =>
    have hy : ys[k]? = none := by
      rcases hend with h | h
      · rw [hx] at h; cases h
      · exact h
    refine wpAny_bind (S1.item _ _ _ k xs x _ j1 m1 hx fun g2 u1 b2 => wpAny_pure ?_)
    have p2 : IsPair g2 TO a b := b2.extBut _ _ D.TOi1 (b1.extBut _ _ D.TOz hTO)
    refine wpAny_bind (wpAny_seqItems p2 (rfl) ?_); refine wpAny_bind (wpAny_updateSeq_pair p2 fun g3 p3 b3 => ?_)
    refine wpAny_bind (wpAny_letGo (wpAny_pure ?_)); refine wpAny_bind (wpAny_bind (wpAny_onRaise ?_)); show wpAny _ _ (Builtin.SmallTypes.nextOf (Value.ref i2) >>= _) _ _ _
    refine wpAny_bind (S2.fin _ _ _ k ys _ hh (S2.keep _ _ _ h2 fun o e => b3.extBut _ _ D.TOi2.symm (b2.extBut _ _ D.i12.symm (b1.extBut _ _ D.i2z e)))
      (S2.keepS _ _ _ hl2 fun o e => b3.extBut _ _ D.l2TO (b2.extBut _ _ D.l2i1 (b1.extBut _ _ D.l2z e))) hy fun g4 e b4 he => ?_)
    obtain ⟨oe, hoe, hce⟩ := he
    have z4 : IsZip g4 z TI TO .ellipsis := b4 _ _ D.i2z.symm (b3.extBut _ _ D.TOz.symm (b2.extBut _ _ D.i1z.symm z1))
    have ez : e ≠ z := fun q => by subst q; rw [z4] at hoe; cases hoe; simp at hce
    refine wpAny_setField_rec z4 (by simp) fun g5 _ b5 => hE g5 e (fun c o c1 c2 c3 c4 q => b5.extBut _ _ c1 (b4 _ _ c4 (b3.extBut _ _ c2 (b2.extBut _ _ c3 (b1.extBut _ _ c1 q))))) ⟨oe, b5.extBut _ _ ez hoe, hce⟩
end
/-! ### the step of the hand layer -/
/-- how a side is read off the hand layer's heap -/
structure Side (l : Addr) (K : PySem.W.Frag) (R : Hp → List V → Prop) (Sq : Array Value → Heap → Prop) : Prop where
  get : ∀ (X : Cx) (pins : List (Addr × Obj)) (σ : L2.St) (H : Hp) (s : Shared) (xs : List V), X.K = K → L2.Inv X pins σ H s → R H xs → ∃ its : List Value, Vals xs its ∧ Sq its.toArray s.heap ∧ l < s.heap.objs.size
  inj : ∀ (X : Cx) (pins : List (Addr × Obj)) (σ : L2.St) (H : Hp) (s : Shared) (xs ys : List V), X.K = K → L2.Inv X pins σ H s → R H xs → R H ys → xs = ys
theorem side_list {K : PySem.W.Frag} {a : Addr} : Side a K (fun H xs => SqL K H a xs) (fun arr h => h.IsList a arr) where
  get := fun X pins σ H s xs hK I r => by
    subst hK
    obtain ⟨its, rv, p, _⟩ := I.list r
    exact ⟨its, rv, p.isList, p.lt⟩
  inj := fun X pins σ H s xs ys hK I r r' => by
    subst hK
    exact I.list_inj r r'
theorem side_tup {K : PySem.W.Frag} {a : Addr} : Side a K (fun H xs => SqT K H a xs) (fun arr h => h.IsTuple a arr) where
  get := fun X pins σ H s xs hK I r => by
    subst hK
    obtain ⟨its, rv, p, _⟩ := I.tuple r
    obtain ⟨o, ho, _⟩ := id p
    exact ⟨its, rv, p, Heap.lt_size ho⟩
  inj := fun X pins σ H s xs ys hK I r r' => by
    subst hK
    exact I.tuple_inj r r'
def ItzG (R1 R2 : Hp → List V → Prop) : It :=
  ⟨fun i H => ∃ (xs ys : List V) (x y : V), R1 H xs ∧ R2 H ys ∧ xs[i]? = some x ∧ ys[i]? = some y,
    fun i H v H' => ∃ T x y, v = .ref T ∧ H T = none ∧ H' = upd H T (.tup [x, y]) ∧ (∀ xs, R1 H xs → xs[i]? = some x) ∧ ∀ ys, R2 H ys → ys[i]? = some y,
    fun i H => ∃ xs ys : List V, R1 H xs ∧ R2 H ys ∧ (xs.length ≤ i ∨ ys.length ≤ i)⟩
theorem turn_zipG {P : Program} {w : World} {K : PySem.W.Frag} {elts : List Expr} {kk : Nat} {tpos : Pos} {a b z TI TO i1 i2 : Addr} {R1 R2 : Hp → List V → Prop} {U1 U2 : Nat → Heap → Prop} {Z1 Z2 : Array Value → Heap → Prop}
    (S1 : Src P w i1 a U1 Z1) (S2 : Src P w i2 b U2 Z2) (L1 : Side a K R1 Z1) (L2' : Side b K R2 Z2) (D : ZipApart z TI TO i1 i2 a b) :
    Turn P w K (.Tuple elts kk tpos) (ItzG R1 R2) [z, TI, TO, i1, i2] z (fun i h => IsZip h z TI TO .none ∧ IsPair h TI (.ref i1) (.ref i2) ∧ (∃ x y, IsPair h TO x y) ∧ U1 i h ∧ U2 i h) where
  mem := by simp
  obj := fun i h st c hc => by
    obtain ⟨hz, hTI, ⟨x, y, hTO⟩, e1, e2⟩ := st
    have e' : c = z ∨ c = TI ∨ c = TO ∨ c = i1 ∨ c = i2 := by simpa using hc
    rcases e' with rfl | rfl | rfl | rfl | rfl
    · exact ⟨_, hz, fun v q => nomatch q⟩
    · exact ⟨_, hTI, fun v q => nomatch q⟩
    · exact ⟨_, hTO, fun v q => nomatch q⟩
    · exact S1.obj _ _ e1
    · exact S2.obj _ _ e2
  keep := fun i h h' st k => by
    obtain ⟨hz, hTI, ⟨x, y, hTO⟩, h1, h2⟩ := st
    exact ⟨k z (by simp) _ hz, k TI (by simp) _ hTI, ⟨x, y, k TO (by simp) _ hTO⟩, S1.keep _ _ _ h1 (k i1 (by simp)), S2.keep _ _ _ h2 (k i2 (by simp))⟩
  item := by
    intro X hP hw hK hc i pins s σ H E I hf st hg
    obtain ⟨hz, hTI, ⟨x0, y0, hTO⟩, h1, h2⟩ := st
    obtain ⟨xs, ys, x, y, hqx, hqy, hx, hy⟩ := hg
    obtain ⟨its, rv, p, _⟩ := L1.get X pins σ H s xs hK I hqx
    obtain ⟨its2, rv2, p2, _⟩ := L2'.get X pins σ H s ys hK I hqy
    obtain ⟨u, hu, ru⟩ := rv.get hx
    obtain ⟨u2, hu2, ru2⟩ := rv2.get hy
    have hzl : z < s.heap.objs.size := Heap.lt_size hz
    have hT : s.TypeIs (.ref z) "zip" := ⟨_, hz, rfl⟩
    unfold pyNext
    refine wpAny_bind (wpAny_attempt (wpAny_callSpecial?_slot (name := Str.ofString "__next__") hT F.slot_zip_next (wpAny_call_entry F.slot_zip_next hT F.entry_zip_next
      (zipG_item S1 S2 D hz hTI hTO h1 h2 p p2 (x := u) (y := u2) (by simpa using hu) (by simpa using hu2) fun h' z' TO' h1' h2' hT' hk => wpAny_pure ?_) (F.args_zip_next_1 _))))
    refine ⟨_, rfl, wpAny_letOwnedTupleGo_zip (s := { s with heap := h' }) z' fun h'' z'' sb => ?_⟩
    have hT2 : h''.get? s.heap.objs.size = some { cls := .type "tuple", data := .seq #[u, u2] } := ((sb.2 _ (Nat.ne_of_gt hzl)).trans hT')
    subst hP hw hK
    have new : ObjOk X.prog X.w (upd H s.heap.objs.size (.tup [x, y])) h'' s.heap.objs.size (.tup [x, y]) := ⟨by show 2 ≤ sizeLine; decide, [u, u2], .cons ru (.cons ru2 .nil), ⟨_, hT2, rfl, _, rfl⟩⟩
    have kk' : ∀ (c : Addr) (o : Obj), c ∉ [z, TI, TO, i1, i2] → s.heap.get? c = some o → h''.get? c = some o := fun c o hb q => (sb.2 c (fun q' => hb (by simp [q']))).trans (hk c o (fun q' => hb (by simp [q'])) (fun q' => hb (by simp [q'])) (fun q' => hb (by simp [q'])) (fun q' => hb (by simp [q'])) q)
    have I1 : L2.Inv X pins σ (upd H s.heap.objs.size (.tup [x, y])) { s with heap := h'' } := I.turnedNew (t' := s.toks) (ch := [z, TI, TO, i1, i2]) kk' hf (Nat.le_refl _) new
    refine ⟨.ref s.heap.objs.size, _, I1, rfl, ⟨_, x, y, rfl, I.hok.fresh (Nat.le_refl _), rfl, fun l hl => ?_, fun l hl => ?_⟩, ⟨z'', ?_, ⟨u, u2, ?_⟩, ?_, ?_⟩, fun c hcm => ?_⟩
    · rw [L1.inj X pins σ H s l xs rfl I hl hqx]
      exact hx
    · rw [L2'.inj X pins σ H s l ys rfl I hl hqy]
      exact hy
    · exact (sb.2 _ D.TIz).trans ((hk _ _ D.TIz D.TITO D.TIi1 D.TIi2 hTI))
    · exact (sb.2 _ D.TOz).trans TO'
    · exact S1.keep _ _ _ h1' fun o q => (sb.2 _ D.i1z).trans q
    · exact S2.keep _ _ _ h2' fun o q => (sb.2 _ D.i2z).trans q
    · have hlt : c < s.heap.objs.size := by
        have e' : c = z ∨ c = TI ∨ c = TO ∨ c = i1 ∨ c = i2 := by simpa using hcm
        rcases e' with rfl | rfl | rfl | rfl | rfl
        · exact hzl
        · exact Heap.lt_size hTI
        · exact Heap.lt_size hTO
        · obtain ⟨_, e1, _⟩ := S1.obj _ _ h1; exact Heap.lt_size e1
        · obtain ⟨_, e2, _⟩ := S2.obj _ _ h2; exact Heap.lt_size e2
      rw [upd_ne (Nat.ne_of_lt hlt)]
      exact (hf c hcm).1
  done := by
    intro X hP hw hK hc i pins s σ H E I hf st hg
    obtain ⟨hz, hTI, ⟨x0, y0, hTO⟩, h1, h2⟩ := st
    obtain ⟨xs, ys, hqx, hqy, hend⟩ := hg
    obtain ⟨its, rv, p, _⟩ := L1.get X pins σ H s xs hK I hqx
    obtain ⟨its2, rv2, p2, _⟩ := L2'.get X pins σ H s ys hK I hqy
    have l1 := rv.length
    have l2 := rv2.length
    have he : its.toArray[i]? = none ∨ its2.toArray[i]? = none := by
      rcases hend with q | q
      · exact .inl (by simp; omega)
      · exact .inr (by simp; omega)
    have hT : s.TypeIs (.ref z) "zip" := ⟨_, hz, rfl⟩
    unfold pyNext
    refine wpAny_bind (wpAny_attempt (wpAny_callSpecial?_slot (name := Str.ofString "__next__") hT F.slot_zip_next
      (wpAny_call_entry F.slot_zip_next hT F.entry_zip_next (zipG_end S1 S2 (I.ok.hd hc) D hz hTI hTO h1 h2 p p2 he fun h' e hk he => ?_) (F.args_zip_next_1 _))))
    obtain ⟨o, ho, hc'⟩ := he
    refine wpAny_bind (wpAny_isInstance (T := "StopIteration") (b := true) ⟨o, ho, hc'⟩ isSubtype_stop ?_)
    refine wpAny_pure ⟨rfl, I.turnedL (t' := s.toks) (ch := [z, TI, TO, i1, i2]) (fun c o hb q => hk c o (fun q' => hb (by simp [q'])) (fun q' => hb (by simp [q'])) (fun q' => hb (by simp [q'])) (fun q' => hb (by simp [q'])) q) hf⟩
  self := fun A i s Q E st h => wpAny_pyIter_zip st.1 h
/-! ### zip of a tuple and a list made -/
abbrev zTL1 (h : Heap) (l1 : Addr) : Heap := h.push { cls := .type "tuple_iterator", data := .fields #[.ref l1, .int 0 0] }
abbrev zTL2 (h : Heap) (l1 l2 : Addr) : Heap := (zTL1 h l1).push { cls := .type "list_iterator", data := .fields #[.ref l2, .int 0 0] }
abbrev zTL3 (h : Heap) (l1 l2 : Addr) : Heap := (zTL2 h l1 l2).push { cls := .type "tuple", data := .seq #[.ref h.objs.size, .ref (zTL1 h l1).objs.size] }
abbrev zTL4 (h : Heap) (l1 l2 : Addr) : Heap := (zTL3 h l1 l2).push { cls := .type "tuple", data := .seq #[.none, .none] }
abbrev zTL5 (h : Heap) (l1 l2 : Addr) : Heap := (zTL4 h l1 l2).push { cls := .type "zip", data := .fields #[.none, .bool false, .bool false, .ref (zTL2 h l1 l2).objs.size, .ref (zTL3 h l1 l2).objs.size] }
abbrev zLT1 (h : Heap) (l1 : Addr) : Heap := h.push { cls := .type "list_iterator", data := .fields #[.ref l1, .int 0 0] }
abbrev zLT2 (h : Heap) (l1 l2 : Addr) : Heap := (zLT1 h l1).push { cls := .type "tuple_iterator", data := .fields #[.ref l2, .int 0 0] }
abbrev zLT3 (h : Heap) (l1 l2 : Addr) : Heap := (zLT2 h l1 l2).push { cls := .type "tuple", data := .seq #[.ref h.objs.size, .ref (zLT1 h l1).objs.size] }
abbrev zLT4 (h : Heap) (l1 l2 : Addr) : Heap := (zLT3 h l1 l2).push { cls := .type "tuple", data := .seq #[.none, .none] }
abbrev zLT5 (h : Heap) (l1 l2 : Addr) : Heap := (zLT4 h l1 l2).push { cls := .type "zip", data := .fields #[.none, .bool false, .bool false, .ref (zLT2 h l1 l2).objs.size, .ref (zLT3 h l1 l2).objs.size] }
theorem new_zTL (l1 l2 : Addr) (xs ys : Array Value) : Meets (Builtin.«zip.__new__» ⟨[.type "zip", .ref l1, .ref l2], []⟩) (fun _ R s => s.heap.IsTuple l1 xs ∧ s.heap.IsList l2 ys ∧ R (.ok (.ret (.ref (zTL4 s.heap l1 l2).objs.size))) { s with heap := zTL5 s.heap l1 l2 }) :=
  .of_wp fun prog w A R s h => by
    obtain ⟨hp, g, d, tk, os⟩ := s
    obtain ⟨k1, k2, h⟩ := h
    have hsub := sub_zip
    have e1 : Heap.IsTuple (Shared.heap ⟨hp, g, d, tk, os⟩) l1 xs := k1
    have e2 : Heap.IsList (Shared.heap ⟨hp.push { cls := .type "tuple_iterator", data := .fields #[.ref l1, .int 0 0] }, g, d, tk, os⟩) l2 ys := Heap.IsList.push k2 _
    wp_walk using wpAny_pyIter_tuple e1, wpAny_pyIter_list e2
    exact ⟨_, rfl, h⟩
theorem new_zLT (l1 l2 : Addr) (xs ys : Array Value) : Meets (Builtin.«zip.__new__» ⟨[.type "zip", .ref l1, .ref l2], []⟩) (fun _ R s => s.heap.IsList l1 xs ∧ s.heap.IsTuple l2 ys ∧ R (.ok (.ret (.ref (zLT4 s.heap l1 l2).objs.size))) { s with heap := zLT5 s.heap l1 l2 }) :=
  .of_wp fun prog w A R s h => by
    obtain ⟨hp, g, d, tk, os⟩ := s
    obtain ⟨k1, k2, h⟩ := h
    have hsub := sub_zip
    have e1 : Heap.IsList (Shared.heap ⟨hp, g, d, tk, os⟩) l1 xs := k1
    have e2 : Heap.IsTuple (Shared.heap ⟨hp.push { cls := .type "list_iterator", data := .fields #[.ref l1, .int 0 0] }, g, d, tk, os⟩) l2 ys := Heap.IsTuple.push k2 _
    wp_walk using wpAny_pyIter_list e1, wpAny_pyIter_tuple e2
    exact ⟨_, rfl, h⟩
section
variable {P : Program} {w : World} {A : Around} {E : Value → Shared → Prop} {s : Shared}
theorem call_zTL {l1 l2 : Addr} {xs ys : Array Value} {Q : Value → Shared → Prop} (k1 : s.heap.IsTuple l1 xs) (k2 : s.heap.IsList l2 ys)
    (h : ∀ h', IsZip h' (s.heap.objs.size + 4) (s.heap.objs.size + 2) (s.heap.objs.size + 3) .none → IsPair h' (s.heap.objs.size + 2) (.ref s.heap.objs.size) (.ref (s.heap.objs.size + 1)) → IsPair h' (s.heap.objs.size + 3) .none .none →
      h'.IsTupleIter s.heap.objs.size l1 0 → h'.IsListIter (s.heap.objs.size + 1) l2 0 → (∀ c o, s.heap.get? c = some o → h'.get? c = some o) → Q (.ref (s.heap.objs.size + 4)) { s with heap := h' }) :
    wpAny (model P w) A (call (.type "zip") [.ref l1, .ref l2]) Q E s := by
  refine callType_new F.called_zip (by decide) (F.typeCall_zip_2 _ _) (F.newCall_zip_2 _ _) (fun obj => F.args_object_init_3 obj _ _) F.entry_zip_new (new_zTL l1 l2 xs ys) ⟨k1, k2, ?_⟩
  have z1 : (zTL1 s.heap l1).objs.size = s.heap.objs.size + 1 := Heap.size_push ..
  have z2 : (zTL2 s.heap l1 l2).objs.size = s.heap.objs.size + 2 := by rw [Heap.size_push, z1]
  have z3 : (zTL3 s.heap l1 l2).objs.size = s.heap.objs.size + 3 := by rw [Heap.size_push, z2]
  have z4 : (zTL4 s.heap l1 l2).objs.size = s.heap.objs.size + 4 := by rw [Heap.size_push, z3]
  have g5 : (zTL5 s.heap l1 l2).get? (zTL4 s.heap l1 l2).objs.size = some _ := Heap.get?_push_size _ rfl
  have g4 : (zTL5 s.heap l1 l2).get? (zTL3 s.heap l1 l2).objs.size = some _ := Heap.get?_push_of_some _ (Heap.get?_push_size _ rfl)
  have g3 : (zTL5 s.heap l1 l2).get? (zTL2 s.heap l1 l2).objs.size = some _ := Heap.get?_push_of_some _ (Heap.get?_push_of_some _ (Heap.get?_push_size _ rfl))
  have g2 : (zTL5 s.heap l1 l2).get? (zTL1 s.heap l1).objs.size = some _ := Heap.get?_push_of_some _ (Heap.get?_push_of_some _ (Heap.get?_push_of_some _ (Heap.get?_push_size _ rfl)))
  have g1 : (zTL5 s.heap l1 l2).get? s.heap.objs.size = some _ := Heap.get?_push_of_some _ (Heap.get?_push_of_some _ (Heap.get?_push_of_some _ (Heap.get?_push_of_some _ (Heap.get?_push_size _ rfl))))
  show _ ∧ _
  rw [z2, z3, z4] at g5; rw [z1, z2] at g3; rw [z3] at g4; rw [z1] at g2; rw [z4]
  exact ⟨⟨_, g5, rfl⟩, h _ g5 g3 g4 ⟨_, g1, rfl, rfl⟩ ⟨_, g2, rfl, rfl⟩ fun c o x => Heap.get?_push_of_some _ (Heap.get?_push_of_some _ (Heap.get?_push_of_some _ (Heap.get?_push_of_some _ (Heap.get?_push_of_some _ x))))⟩
theorem call_zLT {l1 l2 : Addr} {xs ys : Array Value} {Q : Value → Shared → Prop} (k1 : s.heap.IsList l1 xs) (k2 : s.heap.IsTuple l2 ys)
    (h : ∀ h', IsZip h' (s.heap.objs.size + 4) (s.heap.objs.size + 2) (s.heap.objs.size + 3) .none → IsPair h' (s.heap.objs.size + 2) (.ref s.heap.objs.size) (.ref (s.heap.objs.size + 1)) → IsPair h' (s.heap.objs.size + 3) .none .none →
      h'.IsListIter s.heap.objs.size l1 0 → h'.IsTupleIter (s.heap.objs.size + 1) l2 0 → (∀ c o, s.heap.get? c = some o → h'.get? c = some o) → Q (.ref (s.heap.objs.size + 4)) { s with heap := h' }) :
    wpAny (model P w) A (call (.type "zip") [.ref l1, .ref l2]) Q E s := by
  refine callType_new F.called_zip (by decide) (F.typeCall_zip_2 _ _) (F.newCall_zip_2 _ _) (fun obj => F.args_object_init_3 obj _ _) F.entry_zip_new (new_zLT l1 l2 xs ys) ⟨k1, k2, ?_⟩
  have z1 : (zLT1 s.heap l1).objs.size = s.heap.objs.size + 1 := Heap.size_push ..
  have z2 : (zLT2 s.heap l1 l2).objs.size = s.heap.objs.size + 2 := by rw [Heap.size_push, z1]
  have z3 : (zLT3 s.heap l1 l2).objs.size = s.heap.objs.size + 3 := by rw [Heap.size_push, z2]
  have z4 : (zLT4 s.heap l1 l2).objs.size = s.heap.objs.size + 4 := by rw [Heap.size_push, z3]
  have g5 : (zLT5 s.heap l1 l2).get? (zLT4 s.heap l1 l2).objs.size = some _ := Heap.get?_push_size _ rfl
  have g4 : (zLT5 s.heap l1 l2).get? (zLT3 s.heap l1 l2).objs.size = some _ := Heap.get?_push_of_some _ (Heap.get?_push_size _ rfl)
  have g3 : (zLT5 s.heap l1 l2).get? (zLT2 s.heap l1 l2).objs.size = some _ := Heap.get?_push_of_some _ (Heap.get?_push_of_some _ (Heap.get?_push_size _ rfl))
  have g2 : (zLT5 s.heap l1 l2).get? (zLT1 s.heap l1).objs.size = some _ := Heap.get?_push_of_some _ (Heap.get?_push_of_some _ (Heap.get?_push_of_some _ (Heap.get?_push_size _ rfl)))
  have g1 : (zLT5 s.heap l1 l2).get? s.heap.objs.size = some _ := Heap.get?_push_of_some _ (Heap.get?_push_of_some _ (Heap.get?_push_of_some _ (Heap.get?_push_of_some _ (Heap.get?_push_size _ rfl))))
  show _ ∧ _
  rw [z2, z3, z4] at g5; rw [z1, z2] at g3; rw [z3] at g4; rw [z1] at g2; rw [z4]
  exact ⟨⟨_, g5, rfl⟩, h _ g5 g3 g4 ⟨_, g1, rfl, rfl⟩ ⟨_, g2, rfl, rfl⟩ fun c o x => Heap.get?_push_of_some _ (Heap.get?_push_of_some _ (Heap.get?_push_of_some _ (Heap.get?_push_of_some _ (Heap.get?_push_of_some _ x))))⟩
end
def iZipM (K : PySem.W.Frag) (ta : TA) : TI := fun σ H R => ta σ H fun vs H1 => ∃ a b xs ys, vs = [.ref a, .ref b] ∧
  ((SqT K H1 a xs ∧ SqL K H1 b ys ∧ R (ItzG (fun H xs => SqT K H a xs) (fun H xs => SqL K H b xs)) H1) ∨ (SqL K H1 a xs ∧ SqT K H1 b ys ∧ R (ItzG (fun H xs => SqL K H a xs) (fun H xs => SqT K H b xs)) H1))
theorem p_zipM {X : Cx} {K : PySem.W.Frag} {e e2 : Expr} {ta : TA} {p pos tpos : Pos} {elts : List Expr} {kk : Nat} (hg : Gl X "zip") (hm : X.mg "zip" = none) (ha : PA X [e, e2] ta) (hK : X.K = K := by rfl)
    (hs : starEach [e, e2] X.env = (false, eval e X.env) :: starEach [e2] X.env := by rfl) (hpl : (backTo pos (starEach [e2] X.env)).any (·.1) = false := by rfl) : PI X (.Tuple elts kk tpos) (.Call (.Name "zip" p) [e, e2] [] pos) (iZipM K ta) := by
  subst hK
  refine ⟨fun pins s σ H R I h => ?_⟩
  refine Call_ (ld_blt I hg hm PyProof.Rows.boot_zip (PyProof.Rows.callWith_type1 (thn (ha.run pos pins s σ H _ I h) fun us s1 ⟨vs, H1, I1, r1, q1⟩ => ?_) hs hpl))
  obtain ⟨a, b, xs, ys, rfl, q1⟩ := q1
  obtain ⟨u, u', rfl, ru, ru'⟩ : ∃ u u', us = [u, u'] ∧ RelV (.ref a) u ∧ RelV (.ref b) u' := by
    cases r1 with
    | cons r rr =>
      cases rr with
      | cons r' rr =>
        cases rr
        exact ⟨_, _, rfl, r, r'⟩
  cases ru
  cases ru'
  have fresh5 : ∀ c, c ∈ [s1.heap.objs.size + 4, s1.heap.objs.size + 2, s1.heap.objs.size + 3, s1.heap.objs.size, s1.heap.objs.size + 1] → FpOk X pins H1 c := fun c hcm => by
    have hle : s1.heap.objs.size ≤ c := by
      simp only [List.mem_cons, List.not_mem_nil, or_false] at hcm
      omega
    exact I1.fpOk hle (I1.hok.fresh hle)
  rcases q1 with ⟨hqx, hqy, q⟩ | ⟨hqx, hqy, q⟩
  · obtain ⟨its, rv, p1, la⟩ := (side_tup (a := a)).get X pins σ H1 s1 xs rfl I1 hqx
    obtain ⟨its2, rv2, p2, lb⟩ := (side_list (a := b)).get X pins σ H1 s1 ys rfl I1 hqy
    refine call_zTL p1 p2 fun h' hz hTI hTO h1 h2 hk => wpAny_pyIter_zip hz ?_
    have I2 : L2.Inv X pins σ H1 { s1 with heap := h' } := I1.kept (t' := s1.toks) hk
    exact ⟨s1.heap.objs.size + 4, [s1.heap.objs.size + 4, s1.heap.objs.size + 2, s1.heap.objs.size + 3, s1.heap.objs.size, s1.heap.objs.size + 1], _, _, H1, rfl, I2, turn_zipG src_tup src_list side_tup side_list (PySem.W.ktu_apart s1.heap.objs.size a b la lb), ⟨hz, hTI, ⟨_, _, hTO⟩, h1, h2⟩, fresh5, q⟩
  · obtain ⟨its, rv, p1, la⟩ := (side_list (a := a)).get X pins σ H1 s1 xs rfl I1 hqx
    obtain ⟨its2, rv2, p2, lb⟩ := (side_tup (a := b)).get X pins σ H1 s1 ys rfl I1 hqy
    refine call_zLT p1 p2 fun h' hz hTI hTO h1 h2 hk => wpAny_pyIter_zip hz ?_
    have I2 : L2.Inv X pins σ H1 { s1 with heap := h' } := I1.kept (t' := s1.toks) hk
    exact ⟨s1.heap.objs.size + 4, [s1.heap.objs.size + 4, s1.heap.objs.size + 2, s1.heap.objs.size + 3, s1.heap.objs.size, s1.heap.objs.size + 1], _, _, H1, rfl, I2, turn_zipG src_list src_tup side_list side_tup (PySem.W.ktu_apart s1.heap.objs.size a b la lb), ⟨hz, hTI, ⟨_, _, hTO⟩, h1, h2⟩, fresh5, q⟩
theorem walk_zipG {R1 R2 : Hp → List V → Prop} {xs ys : List V} {n : Nat} (hn : n = min xs.length ys.length) : Walk (ItzG R1 R2) n (fun H => R1 H xs ∧ R2 H ys) (YPair (fun i => xs[i]?) (fun i => ys[i]?)) := by
  subst hn
  refine ⟨fun i _ hi q => ?_, fun _ q => ⟨xs, ys, q.1, q.2, by omega⟩, fun i H v H' _ q y => ?_⟩
  · have k1 : i < xs.length := by omega
    have k2 : i < ys.length := by omega
    exact ⟨xs, ys, xs[i], ys[i], q.1, q.2, by simp [k1], by simp [k2]⟩
  · obtain ⟨T, x, u, k1, k2, k3, k4, k5⟩ := y
    exact ⟨T, x, u, k1, k2, k3, k4 xs q.1, k5 ys q.2⟩
end Bw
set_option Elab.async false
set_option linter.all false
set_option maxRecDepth 100000
set_option maxHeartbeats 4000000
namespace Bw
open PySem PySem.Spec PyProof.Rows L2
/-! ### zip of any number of lists and tuples -/
structure Zs where
  i : Addr
  l : Addr
  tup : Bool
def Zs.it : Zs → Nat → Heap → Prop
  | ⟨i, l, true⟩, k, h => h.IsTupleIter i l k
  | ⟨i, l, false⟩, k, h => h.IsListIter i l k
def Zs.sq : Zs → Array Value → Heap → Prop
  | ⟨_, l, true⟩, xs, h => h.IsTuple l xs
  | ⟨_, l, false⟩, xs, h => h.IsList l xs
theorem Zs.src {P : Program} {w : World} : ∀ S : Zs, Src P w S.i S.l S.it S.sq
  | ⟨_, _, true⟩ => src_tup
  | ⟨_, _, false⟩ => src_list
theorem Zs.keepI : ∀ {S : Zs} {k : Nat} {h h' : Heap}, S.it k h → (∀ o, h.get? S.i = some o → h'.get? S.i = some o) → S.it k h'
  | ⟨_, _, true⟩, _, _, _, ⟨o, e, z⟩, kp => ⟨o, kp o e, z⟩
  | ⟨_, _, false⟩, _, _, _, ⟨o, e, z⟩, kp => ⟨o, kp o e, z⟩
theorem Zs.keepQ : ∀ {S : Zs} {xs : Array Value} {h h' : Heap}, S.sq xs h → (∀ o, h.get? S.l = some o → h'.get? S.l = some o) → S.sq xs h'
  | ⟨_, _, true⟩, _, _, _, ⟨o, e, z⟩, kp => ⟨o, kp o e, z⟩
  | ⟨_, _, false⟩, _, _, _, ⟨o, e, z⟩, kp => ⟨o, kp o e, z⟩
abbrev ZipSt (h : Heap) (z TI TO : Addr) (f0 f1 : Value) : Prop := h.get? z = some { cls := .type "zip", dict := none, data := .fields #[f0, f1, .bool false, .ref TI, .ref TO], slots := #[] }
abbrev SeqT (h : Heap) (T : Addr) (vs : Array Value) : Prop := h.get? T = some { cls := .type "tuple", data := .seq vs }
structure ZApart (z TI TO : Addr) (Ss : List Zs) : Prop where
  TIz : TI ≠ z
  TOz : TO ≠ z
  TITO : TI ≠ TO
  iz : ∀ S ∈ Ss, S.i ≠ z
  iTI : ∀ S ∈ Ss, S.i ≠ TI
  iTO : ∀ S ∈ Ss, S.i ≠ TO
  lz : ∀ S ∈ Ss, S.l ≠ z
  lTO : ∀ S ∈ Ss, S.l ≠ TO
  li : ∀ S ∈ Ss, ∀ S' ∈ Ss, S.l ≠ S'.i
  nd : (Ss.map (·.i)).Nodup
def itsOf (Ss : List Zs) : List Value := Ss.map fun S => .ref S.i
section
variable {P : Program} {w : World} {A : Around} {E : Value → Shared → Prop} {s : Shared} {z TI TO : Addr} {Ss : List Zs} {k : Nat}
/-- what the sources stand at: the first j of them one further -/
def At (Ss : List Zs) (k j : Nat) (h : Heap) : Prop := ∀ (n : Nat) (S : Zs), Ss[n]? = some S → S.it (if n < j then k + 1 else k) h
def Sqs (Ss : List Zs) (X : List (Array Value)) (h : Heap) : Prop := X.length = Ss.length ∧ ∀ (n : Nat) (S : Zs), Ss[n]? = some S → ∃ xs, X[n]? = some xs ∧ S.sq xs h
theorem Sqs.keep {h h' : Heap} {X : List (Array Value)} (q : Sqs Ss X h) (k : ∀ S ∈ Ss, ∀ o, h.get? S.l = some o → h'.get? S.l = some o) : Sqs Ss X h' := ⟨q.1, fun n S e => by
  obtain ⟨xs, e1, e2⟩ := q.2 n S e
  exact ⟨xs, e1, Zs.keepQ e2 (k S (List.mem_of_getElem? e))⟩⟩
theorem At.keep {h h' : Heap} {j : Nat} (q : At Ss k j h) (kp : ∀ S ∈ Ss, ∀ o, h.get? S.i = some o → h'.get? S.i = some o) : At Ss k j h' := fun n S e => Zs.keepI (q n S e) (kp S (List.mem_of_getElem? e))
theorem At.next {h h' : Heap} {j : Nat} {S : Zs} (q : At Ss k j h) (nd : (Ss.map (·.i)).Nodup) (e : Ss[j]? = some S) (u : S.it (k + 1) h') (kp : ∀ S' ∈ Ss, S'.i ≠ S.i → ∀ o, h.get? S'.i = some o → h'.get? S'.i = some o) : At Ss k (j + 1) h' := fun n S' e' => by
  by_cases c : n = j
  · subst c
    cases (Option.some.inj (e.symm.trans e'))
    rw [if_pos (Nat.lt_succ_self _)]
    exact u
  · have ne : S'.i ≠ S.i := fun z => c (by
      have a1 : (Ss.map (·.i))[n]? = some S'.i := by rw [List.getElem?_map, e']; rfl
      have a2 : (Ss.map (·.i))[j]? = some S.i := by rw [List.getElem?_map, e]; rfl
      rw [z] at a1
      exact (List.getElem?_inj (List.getElem?_eq_some_iff.mp a1).1 nd).mp (a1.trans a2.symm))
    have g := Zs.keepI (q n S' e') (kp S' (List.mem_of_getElem? e') ne)
    have ce : (if n < j + 1 then k + 1 else k) = (if n < j then k + 1 else k) := by split <;> split <;> omega
    rw [ce]
    exact g
theorem zipIdx_drop (l : List Value) (j : Nat) (h : j < l.length) : l.zipIdx.drop j = (l[j], j) :: l.zipIdx.drop (j + 1) := by
  have hl : j < l.zipIdx.length := by rw [List.length_zipIdx]; exact h
  rw [List.drop_eq_getElem_cons hl, List.getElem_zipIdx]
  simp
theorem itsOf_len (Ss : List Zs) : (itsOf Ss).length = Ss.length := List.length_map ..
theorem zip_itemA {f0 f1 : Value} {arr : Array Value} {X : List (Array Value)} {vs : List Value} {Q : Value → Shared → Prop} (D : ZApart z TI TO Ss) (hz : ZipSt s.heap z TI TO f0 f1) (free : ∀ Q : Bool → Shared → Prop, Q true s → wpAny (model P w) A (Builtin.SmallTypes.ownedTupleIsFree (.ref z)) Q E s) (h0 : Ss ≠ [])
    (hTI : SeqT s.heap TI (itsOf Ss).toArray) (hTO : SeqT s.heap TO arr) (hA : arr.size = Ss.length) (hI : At Ss k 0 s.heap) (hX : Sqs Ss X s.heap) (hv : vs.length = Ss.length) (hx : ∀ (n : Nat) (xs : Array Value), X[n]? = some xs → xs[k]? = vs[n]?) (few : Ss.length ≤ sizeLine)
    (hQ : ∀ h', ZipSt h' z TI TO (rawInt s.heap.objs.size) (.bool false) → SeqT h' TO vs.toArray → At Ss k Ss.length h' → SeqT h' s.heap.objs.size vs.toArray →
      (∀ c o, c ≠ z → c ≠ TO → (∀ S ∈ Ss, c ≠ S.i) → s.heap.get? c = some o → h'.get? c = some o) → Q (.ref s.heap.objs.size) { s with heap := h' }) :
    wpAny (model P w) A (Builtin.«zip.__next__» ⟨[.ref z], []⟩) (fun fin s' => ∃ v, fin = .done (.ret v) ∧ Q v s') E s := by
  show wpAny _ _ (field (Value.ref z) 2 >>= _) _ _ _
  refine wpAny_bind (wpAny_field hz rfl (x := .bool false) rfl ?_)
  show wpAny _ _ (field (Value.ref z) 3 >>= _) _ _ _
  refine wpAny_bind (wpAny_field hz rfl (x := .ref TI) rfl ?_)
  refine wpAny_bind (wpAny_seqItems hTI rfl ?_)
  have ne : (itsOf Ss).toArray.isEmpty = false := by
    cases Ss with
    | nil => exact absurd rfl h0
    | cons a r => rfl
  simp only [ne, Bool.false_eq_true, if_false]
  refine wpAny_bind (free _ ?_)
  simp only [if_true]
  refine wpAny_bind (wpAny_rule ?_)
  refine wpAny_bind (wpAny_field hz rfl (x := .ref TO) rfl ?_)
  refine wpAny_bind (wpAny_setField_rec hz (by simp) fun g1 z1 b1 => ?_)
  replace z1 : ZipSt g1 z TI TO .ellipsis f1 := z1
  have li : (itsOf Ss).length = Ss.length := itsOf_len Ss
  refine wpAny_bind (wpAny_forIn_list _ (fun rest b s' => b = (none, ()) ∧ ∃ (j : Nat) (h' : Heap) (ar : Array Value), rest = (itsOf Ss).zipIdx.drop j ∧ j ≤ Ss.length ∧ s' = { s with heap := h' } ∧ ZipSt h' z TI TO .ellipsis f1 ∧ SeqT h' TO ar ∧ ar.size = Ss.length ∧ (∀ n, n < j → ar[n]? = vs[n]?) ∧ At Ss k j h' ∧ Sqs Ss X h' ∧ h'.objs.size = s.heap.objs.size ∧ (∀ c o, c ≠ z → c ≠ TO → (∀ S ∈ Ss, c ≠ S.i) → s.heap.get? c = some o → h'.get? c = some o)) _ ?_ ?_ _ _ ?_)
  · rintro ⟨it, n0⟩ rest b s' ⟨rfl, j, g, ar, er, jl, rfl, gz, gT, ga, gv, gA, gX, gs, gk⟩
    have jlt : j < Ss.length := by
      rcases Nat.lt_or_ge j Ss.length with h | h
      · exact h
      · rw [List.drop_of_length_le (by rw [List.length_zipIdx, li]; exact h)] at er
        cases er
    rw [zipIdx_drop _ j (by rw [li]; exact jlt)] at er
    injection er with e1 e2
    injection e1 with e3 e4
    subst e3 e4 e2
    have eS : Ss[n0]? = some Ss[n0] := List.getElem?_eq_getElem jlt
    have ei : (itsOf Ss)[n0]'(by rw [li]; exact jlt) = .ref Ss[n0].i := by unfold itsOf; rw [List.getElem_map]
    rw [ei]
    generalize Ss[n0] = S at eS
    have hS := List.mem_of_getElem? eS
    obtain ⟨xs, ex, sx⟩ := gX.2 _ _ eS
    have hvl : n0 < vs.length := by omega
    have hxk : xs[k]? = some vs[n0] := (hx _ _ ex).trans (List.getElem?_eq_getElem hvl)
    generalize hvn : vs[n0] = v at hxk
    have evn : vs[n0]? = some v := by rw [List.getElem?_eq_getElem hvl, hvn]
    have it0 := gA _ _ eS
    rw [if_neg (Nat.lt_irrefl _)] at it0
    refine wpAny_bind (wpAny_onRaise ?_)
    show wpAny _ _ (Builtin.SmallTypes.nextOf (Value.ref S.i) >>= _) _ _ _
    refine wpAny_bind ((Zs.src (P := P) (w := w) S).item _ _ _ k xs v _ it0 sx hxk fun g2 u2 b2 => wpAny_pure ?_)
    have p2 : SeqT g2 TO ar := b2.extBut _ _ (D.iTO S hS).symm gT
    refine wpAny_bind (wpAny_seqItems p2 rfl ?_)
    refine wpAny_bind (wpAny_updateSeq p2 rfl ?_ (by rw [ga]; exact few) (by rw [Array.size_setIfInBounds, ga]; exact Nat.le_succ_of_le few))
    have b3 : Heap.SameBut TO g2 (g2.update TO (Obj.mapSeq fun x => x.setIfInBounds n0 v)) := Heap.SameBut.update ..
    have p3 : SeqT (g2.update TO (Obj.mapSeq fun x => x.setIfInBounds n0 v)) TO (ar.setIfInBounds n0 v) := by
      show (g2.update TO (Obj.mapSeq fun x => x.setIfInBounds n0 v)).get? TO = _
      rw [Heap.get?_update_self (Obj.mapSeq fun x => x.setIfInBounds n0 v) p2 rfl]
      simp [Obj.mapSeq]
    generalize g2.update TO (Obj.mapSeq fun x => x.setIfInBounds n0 v) = g3 at b3 p3
    refine wpAny_bind (wpAny_letGo (wpAny_pure ?_))
    have k3 : ∀ c o, c ≠ TO → c ≠ S.i → g.get? c = some o → g3.get? c = some o := fun c o c1 c2 e => b3.extBut _ _ c1 (b2.extBut _ _ c2 e)
    refine ⟨rfl, n0 + 1, g3, _, rfl, jlt, rfl, k3 _ _ D.TOz.symm (D.iz S hS).symm gz, p3, by rw [Array.size_setIfInBounds, ga], fun n hn => ?_, ?_, ?_, by rw [b3.1, b2.1, gs], fun c o c1 c2 c3 e => k3 c o c2 (c3 S hS) (gk c o c1 c2 c3 e)⟩
    · by_cases c : n = n0
      · subst c
        rw [Array.getElem?_setIfInBounds_self_of_lt (by rw [ga]; exact jlt), evn]
      · rw [Array.getElem?_setIfInBounds_ne (fun z => c z.symm)]
        exact gv n (by omega)
    · have u3 : S.it (k + 1) g3 := Zs.keepI u2 fun o e => b3.extBut _ _ (D.iTO S hS) e
      exact gA.next D.nd eS u3 fun S' hS' ne o e => k3 _ _ (D.iTO S' hS') ne e
    · exact gX.keep fun S' hS' o e => k3 _ _ (D.lTO S' hS') (D.li S' hS' S hS) e
  · rintro b s' ⟨rfl, j, g, ar, er, jl, rfl, gz, gT, ga, gv, gA, gX, gs, gk⟩
    have ej : j = Ss.length := by
      have h := congrArg List.length er
      rw [List.length_drop, List.length_zipIdx, li] at h
      have h0 : ([] : List (Value × Nat)).length = 0 := rfl
      omega
    subst ej
    have ear : ar = vs.toArray := by
      apply Array.ext_getElem?
      intro n
      by_cases c : n < Ss.length
      · rw [gv n c]
        simp
      · rw [Array.getElem?_eq_none (by rw [ga]; omega)]
        simp
        omega
    subst ear
    refine wpAny_bind (wpAny_seqItems gT rfl ?_)
    refine wpAny_bind (wpAny_newTuple ?_ (by show vs.toArray.toList.length ≤ sizeLine; rw [List.toList_toArray, hv]; exact few))
    show wpAny _ _ (Builtin.SmallTypes.ownedTupleHandOut (Value.ref z) (.ref g.objs.size) >>= _) _ _ _
    refine wpAny_bind ?_
    unfold Builtin.SmallTypes.ownedTupleHandOut
    have zl : z < g.objs.size := Heap.lt_size gz
    have z6 : ZipSt (g.push { cls := .type "tuple", data := .seq vs.toArray.toList.toArray }) z TI TO .ellipsis f1 := Heap.get?_push_of_some _ gz
    refine wpAny_bind (wpAny_setField_rec z6 (by simp) fun g7 z7 b7 => ?_)
    replace z7 : ZipSt g7 z TI TO (rawInt g.objs.size) f1 := z7
    refine wpAny_setField_rec z7 (by simp) fun g8 z8 b8 => ?_
    replace z8 : ZipSt g8 z TI TO (rawInt g.objs.size) (.bool false) := z8
    have up : ∀ c o, c ≠ z → g.get? c = some o → g8.get? c = some o := fun c o c1 e => b8.extBut _ _ c1 (b7.extBut _ _ c1 (Heap.get?_push_of_some _ e))
    have p8 : SeqT g8 g.objs.size vs.toArray := b8.extBut _ _ (Nat.ne_of_gt zl) (b7.extBut _ _ (Nat.ne_of_gt zl) (Heap.get?_push_size _ rfl))
    rw [gs] at z8 p8
    refine wpAny_pure ⟨_, rfl, ?_⟩
    show Q (.ref g.objs.size) _
    rw [gs]
    exact hQ g8 z8 (up _ _ D.TOz gT) (gA.keep fun S' hS' o e => up _ _ (D.iz S' hS') e) p8 fun c o c1 c2 c3 e => up c o c1 (gk c o c1 c2 c3 e)
  · exact ⟨rfl, 0, g1, arr, rfl, Nat.zero_le _, rfl, z1, b1.extBut _ _ D.TOz hTO, hA, fun n hn => absurd hn (Nat.not_lt_zero _), hI.keep fun S' hS' o e => b1.extBut _ _ (D.iz S' hS') e, hX.keep fun S' hS' o e => b1.extBut _ _ (D.lz S' hS') e, b1.1, fun c o c1 _ _ e => b1.extBut _ _ c1 e⟩
theorem zip_endA {f0 f1 : Value} {arr : Array Value} {X : List (Array Value)} {Q : PySem.Fin → Shared → Prop} (hh : A.handled = none) (D : ZApart z TI TO Ss) (hz : ZipSt s.heap z TI TO f0 f1) (free : ∀ (E' : Value → Shared → Prop) (Q : Bool → Shared → Prop), Q true s → wpAny (model P w) A (Builtin.SmallTypes.ownedTupleIsFree (.ref z)) Q E' s) (h0 : Ss ≠ [])
    (hTI : SeqT s.heap TI (itsOf Ss).toArray) (hTO : SeqT s.heap TO arr) (hA : arr.size = Ss.length) (hI : At Ss k 0 s.heap) (hX : Sqs Ss X s.heap) (hx : ∃ xs ∈ X, xs[k]? = none) (few : Ss.length ≤ sizeLine)
    (hE : ∀ h' e, (∀ c o, c ≠ z → c ≠ TO → (∀ S ∈ Ss, c ≠ S.i) → s.heap.get? c = some o → h'.get? c = some o) → (∃ o, h'.get? e = some o ∧ o.cls = .type "StopIteration") → E (.ref e) { s with heap := h' }) :
    wpAny (model P w) A (Builtin.«zip.__next__» ⟨[.ref z], []⟩) Q E s := by
  show wpAny _ _ (field (Value.ref z) 2 >>= _) _ _ _
  refine wpAny_bind (wpAny_field hz rfl (x := .bool false) rfl ?_)
  show wpAny _ _ (field (Value.ref z) 3 >>= _) _ _ _
  refine wpAny_bind (wpAny_field hz rfl (x := .ref TI) rfl ?_)
  refine wpAny_bind (wpAny_seqItems hTI rfl ?_)
  have ne : (itsOf Ss).toArray.isEmpty = false := by
    cases Ss with
    | nil => exact absurd rfl h0
    | cons a r => rfl
  simp only [ne, Bool.false_eq_true, if_false]
  refine wpAny_bind (free _ _ ?_)
  simp only [if_true]
  refine wpAny_bind (wpAny_rule ?_)
  refine wpAny_bind (wpAny_field hz rfl (x := .ref TO) rfl ?_)
  refine wpAny_bind (wpAny_setField_rec hz (by simp) fun g1 z1 b1 => ?_)
  replace z1 : ZipSt g1 z TI TO .ellipsis f1 := z1
  have li : (itsOf Ss).length = Ss.length := itsOf_len Ss
  refine wpAny_bind (wpAny_forIn_list _ (fun rest b s' => b = (none, ()) ∧ ∃ (j : Nat) (h' : Heap) (ar : Array Value), rest = (itsOf Ss).zipIdx.drop j ∧ j ≤ Ss.length ∧ s' = { s with heap := h' } ∧ ZipSt h' z TI TO .ellipsis f1 ∧ SeqT h' TO ar ∧ ar.size = Ss.length ∧ (∀ n xs, n < j → X[n]? = some xs → xs[k]? ≠ none) ∧ At Ss k j h' ∧ Sqs Ss X h' ∧ (∀ c o, c ≠ z → c ≠ TO → (∀ S ∈ Ss, c ≠ S.i) → s.heap.get? c = some o → h'.get? c = some o)) _ ?_ ?_ _ _ ?_)
  · rintro ⟨it, n0⟩ rest b s' ⟨rfl, j, g, ar, er, jl, rfl, gz, gT, ga, gv, gA, gX, gk⟩
    have jlt : j < Ss.length := by
      rcases Nat.lt_or_ge j Ss.length with h | h
      · exact h
      · rw [List.drop_of_length_le (by rw [List.length_zipIdx, li]; exact h)] at er
        cases er
    rw [zipIdx_drop _ j (by rw [li]; exact jlt)] at er
    injection er with e1 e2
    injection e1 with e3 e4
    subst e3 e4 e2
    have eS : Ss[n0]? = some Ss[n0] := List.getElem?_eq_getElem jlt
    have ei : (itsOf Ss)[n0]'(by rw [li]; exact jlt) = .ref Ss[n0].i := by unfold itsOf; rw [List.getElem_map]
    rw [ei]
    generalize Ss[n0] = S at eS
    have hS := List.mem_of_getElem? eS
    obtain ⟨xs, ex, sx⟩ := gX.2 _ _ eS
    have it0 := gA _ _ eS
    rw [if_neg (Nat.lt_irrefl _)] at it0
    refine wpAny_bind (wpAny_onRaise ?_)
    show wpAny _ _ (Builtin.SmallTypes.nextOf (Value.ref S.i) >>= _) _ _ _
    cases hxk : xs[k]? with
    | none =>
      refine wpAny_bind ((Zs.src (P := P) (w := w) S).fin _ _ _ k xs _ hh it0 sx hxk fun g2 e b2 he => ?_)
      obtain ⟨oe, hoe, hce⟩ := he
      have z2 : ZipSt g2 z TI TO .ellipsis f1 := b2 _ _ (D.iz S hS).symm gz
      have ez : e ≠ z := fun q => by
        subst q
        rw [z2] at hoe
        cases hoe
        simp at hce
      exact wpAny_setField_rec z2 (by simp) fun g3 _ b3 => hE g3 e (fun c o c1 c2 c3 q => b3.extBut _ _ c1 (b2 _ _ (c3 S hS) (gk c o c1 c2 c3 q))) ⟨oe, b3.extBut _ _ ez hoe, hce⟩
    | some v =>
      refine wpAny_bind ((Zs.src (P := P) (w := w) S).item _ _ _ k xs v _ it0 sx hxk fun g2 u2 b2 => wpAny_pure ?_)
      have p2 : SeqT g2 TO ar := b2.extBut _ _ (D.iTO S hS).symm gT
      refine wpAny_bind (wpAny_seqItems p2 rfl ?_)
      refine wpAny_bind (wpAny_updateSeq p2 rfl ?_ (by rw [ga]; exact few) (by rw [Array.size_setIfInBounds, ga]; exact Nat.le_succ_of_le few))
      have b3 : Heap.SameBut TO g2 (g2.update TO (Obj.mapSeq fun x => x.setIfInBounds n0 v)) := Heap.SameBut.update ..
      have p3 : SeqT (g2.update TO (Obj.mapSeq fun x => x.setIfInBounds n0 v)) TO (ar.setIfInBounds n0 v) := by
        show (g2.update TO (Obj.mapSeq fun x => x.setIfInBounds n0 v)).get? TO = _
        rw [Heap.get?_update_self (Obj.mapSeq fun x => x.setIfInBounds n0 v) p2 rfl]
        simp [Obj.mapSeq]
      generalize g2.update TO (Obj.mapSeq fun x => x.setIfInBounds n0 v) = g3 at b3 p3
      refine wpAny_bind (wpAny_letGo (wpAny_pure ?_))
      have k3 : ∀ c o, c ≠ TO → c ≠ S.i → g.get? c = some o → g3.get? c = some o := fun c o c1 c2 e => b3.extBut _ _ c1 (b2.extBut _ _ c2 e)
      refine ⟨rfl, n0 + 1, g3, _, rfl, jlt, rfl, k3 _ _ D.TOz.symm (D.iz S hS).symm gz, p3, by rw [Array.size_setIfInBounds, ga], fun n xs' hn e => ?_, ?_, ?_, fun c o c1 c2 c3 e => k3 c o c2 (c3 S hS) (gk c o c1 c2 c3 e)⟩
      · by_cases c : n = n0
        · subst c
          cases (Option.some.inj (ex.symm.trans e))
          rw [hxk]
          exact fun z => nomatch z
        · exact gv n xs' (by omega) e
      · exact gA.next D.nd eS (Zs.keepI u2 fun o e => b3.extBut _ _ (D.iTO S hS) e) fun S' hS' ne o e => k3 _ _ (D.iTO S' hS') ne e
      · exact gX.keep fun S' hS' o e => k3 _ _ (D.lTO S' hS') (D.li S' hS' S hS) e
  · rintro b s' ⟨rfl, j, g, ar, er, jl, rfl, gz, gT, ga, gv, gA, gX, gk⟩
    exfalso
    have ej : j = Ss.length := by
      have h := congrArg List.length er
      rw [List.length_drop, List.length_zipIdx, li] at h
      have h0 : ([] : List (Value × Nat)).length = 0 := rfl
      omega
    obtain ⟨xs, hm, hn⟩ := hx
    obtain ⟨n, en⟩ := List.getElem?_of_mem hm
    have hl := (List.getElem?_eq_some_iff.mp en).1
    rw [gX.1] at hl
    exact gv n xs (by omega) en hn
  · exact ⟨rfl, 0, g1, arr, rfl, Nat.zero_le _, rfl, z1, b1.extBut _ _ D.TOz hTO, hA, fun n _ hn => absurd hn (Nat.not_lt_zero _), hI.keep fun S' hS' o e => b1.extBut _ _ (D.iz S' hS') e, hX.keep fun S' hS' o e => b1.extBut _ _ (D.lz S' hS') e, fun c o c1 _ _ e => b1.extBut _ _ c1 e⟩
theorem zip_itemB {f0 f1 : Value} {X : List (Array Value)} {vs : List Value} {Q : Value → Shared → Prop} (D : ZApart z TI TO Ss) (hz : ZipSt s.heap z TI TO f0 f1) (held : ∀ Q : Bool → Shared → Prop, (∀ h' f1', ZipSt h' z TI TO f0 f1' → Heap.SameBut z s.heap h' → Q false { s with heap := h' }) → wpAny (model P w) A (Builtin.SmallTypes.ownedTupleIsFree (.ref z)) Q E s) (h0 : Ss ≠ [])
    (hTI : SeqT s.heap TI (itsOf Ss).toArray) (hI : At Ss k 0 s.heap) (hX : Sqs Ss X s.heap) (hv : vs.length = Ss.length) (hx : ∀ (n : Nat) (xs : Array Value), X[n]? = some xs → xs[k]? = vs[n]?) (few : Ss.length ≤ sizeLine)
    (hQ : ∀ h' f1', ZipSt h' z TI TO f0 f1' → At Ss k Ss.length h' → SeqT h' s.heap.objs.size vs.toArray → (∀ c o, c ≠ z → (∀ S ∈ Ss, c ≠ S.i) → s.heap.get? c = some o → h'.get? c = some o) → Q (.ref s.heap.objs.size) { s with heap := h' }) :
    wpAny (model P w) A (Builtin.«zip.__next__» ⟨[.ref z], []⟩) (fun fin s' => ∃ v, fin = .done (.ret v) ∧ Q v s') E s := by
  show wpAny _ _ (field (Value.ref z) 2 >>= _) _ _ _
  refine wpAny_bind (wpAny_field hz rfl (x := .bool false) rfl ?_)
  show wpAny _ _ (field (Value.ref z) 3 >>= _) _ _ _
  refine wpAny_bind (wpAny_field hz rfl (x := .ref TI) rfl ?_)
  refine wpAny_bind (wpAny_seqItems hTI rfl ?_)
  have ne : (itsOf Ss).toArray.isEmpty = false := by
    cases Ss with
    | nil => exact absurd rfl h0
    | cons a r => rfl
  simp only [ne, Bool.false_eq_true, if_false]
  refine wpAny_bind (held _ fun g1 f1' z1 b1 => ?_)
  simp only [Bool.false_eq_true, if_false]
  have li : (itsOf Ss).length = Ss.length := itsOf_len Ss
  refine wpAny_bind (wpAny_forIn_array' _ (fun rest b s' => ∃ (j : Nat) (h' : Heap), b = (none, (vs.take j).toArray) ∧ rest = (itsOf Ss).drop j ∧ j ≤ Ss.length ∧ s' = { s with heap := h' } ∧ ZipSt h' z TI TO f0 f1' ∧ At Ss k j h' ∧ Sqs Ss X h' ∧ h'.objs.size = s.heap.objs.size ∧ (∀ c o, c ≠ z → (∀ S ∈ Ss, c ≠ S.i) → s.heap.get? c = some o → h'.get? c = some o)) _ ?_ ?_ _ _ ?_)
  · rintro it rest b s' ⟨j, g, rfl, er, jl, rfl, gz, gA, gX, gs, gk⟩
    have jlt : j < Ss.length := by
      rcases Nat.lt_or_ge j Ss.length with h | h
      · exact h
      · rw [List.drop_of_length_le (by rw [li]; exact h)] at er
        cases er
    rw [List.drop_eq_getElem_cons (by rw [li]; exact jlt)] at er
    injection er with e1 e2
    subst e1 e2
    have eS : Ss[j]? = some Ss[j] := List.getElem?_eq_getElem jlt
    have ei : (itsOf Ss)[j]'(by rw [li]; exact jlt) = .ref Ss[j].i := by unfold itsOf; rw [List.getElem_map]
    rw [ei]
    generalize Ss[j] = S at eS
    have hS := List.mem_of_getElem? eS
    obtain ⟨xs, ex, sx⟩ := gX.2 _ _ eS
    have hvl : j < vs.length := by omega
    have hxk : xs[k]? = some vs[j] := (hx _ _ ex).trans (List.getElem?_eq_getElem hvl)
    generalize hvn : vs[j] = v at hxk
    have evn : vs[j]? = some v := by rw [List.getElem?_eq_getElem hvl, hvn]
    have it0 := gA _ _ eS
    rw [if_neg (Nat.lt_irrefl _)] at it0
    refine wpAny_bind (wpAny_holding ?_)
    show wpAny _ _ (Builtin.SmallTypes.nextOf (Value.ref S.i) >>= _) _ _ _
    refine wpAny_bind ((Zs.src (P := P) (w := w) S).item _ _ _ k xs v _ it0 sx hxk fun g2 u2 b2 => wpAny_pure (wpAny_pure ?_))
    have k2 : ∀ c o, c ≠ S.i → g.get? c = some o → g2.get? c = some o := fun c o c2 e => b2.extBut _ _ c2 e
    refine ⟨j + 1, g2, ?_, rfl, jlt, rfl, k2 _ _ (D.iz S hS).symm gz, gA.next D.nd eS u2 fun S' hS' ne o e => k2 _ _ ne e, gX.keep fun S' hS' o e => k2 _ _ (D.li S' hS' S hS) e, b2.1.trans gs, fun c o c1 c3 e => k2 c o (c3 S hS) (gk c o c1 c3 e)⟩
    rw [List.take_add_one, evn]
    simp
  · rintro b s' ⟨j, g, rfl, er, jl, rfl, gz, gA, gX, gs, gk⟩
    have ej : j = Ss.length := by
      have h := congrArg List.length er
      rw [List.length_drop, li] at h
      have h0 : ([] : List Value).length = 0 := rfl
      omega
    subst ej
    rw [← hv, List.take_length]
    refine wpAny_bind (wpAny_newTuple ?_ (by show vs.toArray.toList.length ≤ sizeLine; rw [List.toList_toArray, hv]; exact few))
    have up : ∀ c o, g.get? c = some o → (g.push { cls := .type "tuple", data := .seq vs.toArray.toList.toArray }).get? c = some o := fun c o e => Heap.get?_push_of_some _ e
    have p8 : SeqT (g.push { cls := .type "tuple", data := .seq vs.toArray.toList.toArray }) g.objs.size vs.toArray := Heap.get?_push_size _ rfl
    rw [gs] at p8
    refine wpAny_pure ⟨_, rfl, ?_⟩
    show Q (.ref g.objs.size) _
    rw [gs]
    exact hQ _ f1' (up _ _ gz) (gA.keep fun S' hS' o e => up _ _ e) p8 fun c o c1 c3 e => up c o (gk c o c1 c3 e)
  · exact ⟨0, g1, rfl, rfl, Nat.zero_le _, rfl, z1, hI.keep fun S' hS' o e => b1.extBut _ _ (D.iz S' hS') e, hX.keep fun S' hS' o e => b1.extBut _ _ (D.lz S' hS') e, b1.1, fun c o c1 _ e => b1.extBut _ _ c1 e⟩
theorem zip_endB {f0 f1 : Value} {X : List (Array Value)} {Q : PySem.Fin → Shared → Prop} (hh : A.handled = none) (D : ZApart z TI TO Ss) (hz : ZipSt s.heap z TI TO f0 f1) (held : ∀ Q : Bool → Shared → Prop, (∀ h' f1', ZipSt h' z TI TO f0 f1' → Heap.SameBut z s.heap h' → Q false { s with heap := h' }) → wpAny (model P w) A (Builtin.SmallTypes.ownedTupleIsFree (.ref z)) Q E s) (h0 : Ss ≠ [])
    (hTI : SeqT s.heap TI (itsOf Ss).toArray) (hI : At Ss k 0 s.heap) (hX : Sqs Ss X s.heap) (hx : ∃ xs ∈ X, xs[k]? = none)
    (hE : ∀ h' e, (∀ c o, c ≠ z → (∀ S ∈ Ss, c ≠ S.i) → s.heap.get? c = some o → h'.get? c = some o) → (∃ o, h'.get? e = some o ∧ o.cls = .type "StopIteration") → E (.ref e) { s with heap := h' }) :
    wpAny (model P w) A (Builtin.«zip.__next__» ⟨[.ref z], []⟩) Q E s := by
  show wpAny _ _ (field (Value.ref z) 2 >>= _) _ _ _
  refine wpAny_bind (wpAny_field hz rfl (x := .bool false) rfl ?_)
  show wpAny _ _ (field (Value.ref z) 3 >>= _) _ _ _
  refine wpAny_bind (wpAny_field hz rfl (x := .ref TI) rfl ?_)
  refine wpAny_bind (wpAny_seqItems hTI rfl ?_)
  have ne : (itsOf Ss).toArray.isEmpty = false := by
    cases Ss with
    | nil => exact absurd rfl h0
    | cons a r => rfl
  simp only [ne, Bool.false_eq_true, if_false]
  refine wpAny_bind (held _ fun g1 f1' z1 b1 => ?_)
  simp only [Bool.false_eq_true, if_false]
  have li : (itsOf Ss).length = Ss.length := itsOf_len Ss
  refine wpAny_bind (wpAny_forIn_array' _ (fun rest b s' => ∃ (j : Nat) (h' : Heap) (vs : Array Value), b = (none, vs) ∧ rest = (itsOf Ss).drop j ∧ j ≤ Ss.length ∧ s' = { s with heap := h' } ∧ (∀ n xs, n < j → X[n]? = some xs → xs[k]? ≠ none) ∧ At Ss k j h' ∧ Sqs Ss X h' ∧ (∀ c o, c ≠ z → (∀ S ∈ Ss, c ≠ S.i) → s.heap.get? c = some o → h'.get? c = some o)) _ ?_ ?_ _ _ ?_)
  · rintro it rest b s' ⟨j, g, vs, rfl, er, jl, rfl, gv, gA, gX, gk⟩
    have jlt : j < Ss.length := by
      rcases Nat.lt_or_ge j Ss.length with h | h
      · exact h
      · rw [List.drop_of_length_le (by rw [li]; exact h)] at er
        cases er
    rw [List.drop_eq_getElem_cons (by rw [li]; exact jlt)] at er
    injection er with e1 e2
    subst e1 e2
    have eS : Ss[j]? = some Ss[j] := List.getElem?_eq_getElem jlt
    have ei : (itsOf Ss)[j]'(by rw [li]; exact jlt) = .ref Ss[j].i := by unfold itsOf; rw [List.getElem_map]
    rw [ei]
    generalize Ss[j] = S at eS
    have hS := List.mem_of_getElem? eS
    obtain ⟨xs, ex, sx⟩ := gX.2 _ _ eS
    have it0 := gA _ _ eS
    rw [if_neg (Nat.lt_irrefl _)] at it0
    refine wpAny_bind (wpAny_holding ?_)
    show wpAny _ _ (Builtin.SmallTypes.nextOf (Value.ref S.i) >>= _) _ _ _
    cases hxk : xs[k]? with
    | none =>
      refine wpAny_bind ((Zs.src (P := P) (w := w) S).fin _ _ _ k xs _ hh it0 sx hxk fun g2 e b2 he => ?_)
      exact hE g2 e (fun c o c1 c3 q => b2 _ _ (c3 S hS) (gk c o c1 c3 q)) he
    | some v =>
      refine wpAny_bind ((Zs.src (P := P) (w := w) S).item _ _ _ k xs v _ it0 sx hxk fun g2 u2 b2 => wpAny_pure (wpAny_pure ?_))
      have k2 : ∀ c o, c ≠ S.i → g.get? c = some o → g2.get? c = some o := fun c o c2 e => b2.extBut _ _ c2 e
      refine ⟨j + 1, g2, _, rfl, rfl, jlt, rfl, fun n xs' hn e => ?_, gA.next D.nd eS u2 fun S' hS' ne o e => k2 _ _ ne e, gX.keep fun S' hS' o e => k2 _ _ (D.li S' hS' S hS) e, fun c o c1 c3 e => k2 c o (c3 S hS) (gk c o c1 c3 e)⟩
      by_cases c : n = j
      · subst c
        cases (Option.some.inj (ex.symm.trans e))
        rw [hxk]
        exact fun z => nomatch z
      · exact gv n xs' (by omega) e
  · rintro b s' ⟨j, g, vs, rfl, er, jl, rfl, gv, gA, gX, gk⟩
    exfalso
    have ej : j = Ss.length := by
      have h := congrArg List.length er
      rw [List.length_drop, li] at h
      have h0 : ([] : List Value).length = 0 := rfl
      omega
    obtain ⟨xs, hm, hn⟩ := hx
    obtain ⟨n, en⟩ := List.getElem?_of_mem hm
    have hl := (List.getElem?_eq_some_iff.mp en).1
    rw [gX.1] at hl
    exact gv n xs (by omega) en hn
  · exact ⟨0, g1, _, rfl, rfl, Nat.zero_le _, rfl, fun n _ hn => absurd hn (Nat.not_lt_zero _), hI.keep fun S' hS' o e => b1.extBut _ _ (D.iz S' hS') e, hX.keep fun S' hS' o e => b1.extBut _ _ (D.lz S' hS') e, fun c o c1 _ e => b1.extBut _ _ c1 e⟩
theorem ask_alive {a : Addr} {Q : Option Obj → Shared → Prop} (h : Q (s.heap.get? a) s) : wpAny (model P w) A (loadIfAlive a) Q E s := fun Γ p hΓ => by
  unfold loadIfAlive
  rw [Sem.wp_loadIfAlive]
  exact wpAny_pure h Γ p hΓ
/-- whether the tuple handed out may be used again -/
def F0 (f0 : Value) : Prop := f0 = .none ∨ ∃ T : Nat, f0 = rawInt T
theorem owned_cases {f0 f1 : Value} (hz : ZipSt s.heap z TI TO f0 f1) (hf : F0 f0) :
    (∀ (E' : Value → Shared → Prop) (Q : Bool → Shared → Prop), Q true s → wpAny (model P w) A (Builtin.SmallTypes.ownedTupleIsFree (.ref z)) Q E' s) ∨
    ∀ (E' : Value → Shared → Prop) (Q : Bool → Shared → Prop), (∀ h' f1', ZipSt h' z TI TO f0 f1' → Heap.SameBut z s.heap h' → Q false { s with heap := h' }) → wpAny (model P w) A (Builtin.SmallTypes.ownedTupleIsFree (.ref z)) Q E' s := by
  rcases hf with rfl | ⟨T, rfl⟩
  · refine .inl fun E' Q q => ?_
    unfold Builtin.SmallTypes.ownedTupleIsFree
    exact wpAny_bind (wpAny_field hz rfl (x := .none) rfl (wpAny_pure q))
  · cases e : s.heap.get? T with
    | none =>
      refine .inl fun E' Q q => ?_
      unfold Builtin.SmallTypes.ownedTupleIsFree
      refine wpAny_bind (wpAny_field hz rfl (x := rawInt T) rfl ?_)
      show wpAny _ _ (loadIfAlive _ >>= _) _ _ _
      refine wpAny_bind (ask_alive ?_)
      rw [show ((T : Int)).toNat = T from Int.toNat_natCast T, e]
      exact wpAny_pure q
    | some o =>
      refine .inr fun E' Q q => ?_
      unfold Builtin.SmallTypes.ownedTupleIsFree
      refine wpAny_bind (wpAny_field hz rfl (x := rawInt T) rfl ?_)
      show wpAny _ _ (loadIfAlive _ >>= _) _ _ _
      refine wpAny_bind (ask_alive ?_)
      rw [show ((T : Int)).toNat = T from Int.toNat_natCast T, e]
      simp only [Option.isNone_some, Bool.false_eq_true, if_false]
      refine wpAny_bind (wpAny_field hz rfl (x := f1) rfl ?_)
      split
      · refine wpAny_bind (wpAny_setField_rec hz (by simp) fun g2 z2 b2 => wpAny_pure ?_)
        exact q g2 (.bool true) z2 b2
      · exact wpAny_pure (q s.heap f1 hz ⟨rfl, fun _ _ => rfl⟩)
end
end Bw
set_option Elab.async false
set_option linter.all false
set_option maxRecDepth 100000
set_option maxHeartbeats 4000000
namespace Bw
open PySem PySem.Spec PyProof.Rows L2
/-! ### zip(..) of any number of lists and tuples made -/
theorem zipN_type (us : List Value) : checkTypeCall "zip" ⟨us, []⟩ = pure () := by kernel_rfl
theorem zipN_new (a : Value) (us : List Value) : checkBuiltinCall "zip.__new__" ⟨.type "zip" :: a :: us, []⟩ = pure () := by kernel_rfl
theorem zipN_init (c : Value) (us : List Value) : argsOk "object.__init__" ⟨c :: us, []⟩ := by
  unfold argsOk; rw [signature?_of (id := "object.__init__") (n := ['_', '_', 't', 'i', 'n', 'i', '_', '_']) (o := ['t', 'c', 'e', 'j', 'b', 'o']) (by kernel_rfl) F.owner_object]; kernel_rfl
theorem zipN_cls (us : List Value) : Builtin.SmallTypes.newClass "zip" ⟨.type "zip" :: us, []⟩ = pure (.type "zip", us) := by kernel_rfl
/-- what is zipped: a list or a tuple at an address -/
abbrev Zl := Addr × Bool
def Zl.sq (l : Zl) (xs : Array Value) (h : Heap) : Prop := match l.2 with
  | true => h.IsTuple l.1 xs
  | false => h.IsList l.1 xs
def zsFrom (n : Nat) : List Zl → List Zs
  | [] => []
  | l :: ls => ⟨n, l.1, l.2⟩ :: zsFrom (n + 1) ls
theorem zsFrom_len : ∀ (n : Nat) (ls : List Zl), (zsFrom n ls).length = ls.length
  | _, [] => rfl
  | n, _ :: ls => congrArg (· + 1) (zsFrom_len (n + 1) ls)
theorem zsFrom_at : ∀ (n : Nat) (ls : List Zl) (j : Nat) (l : Zl), ls[j]? = some l → (zsFrom n ls)[j]? = some ⟨n + j, l.1, l.2⟩
  | n, l :: ls, 0, l', h => by
    cases h
    rfl
  | n, l :: ls, j + 1, l', h => by
    have := zsFrom_at (n + 1) ls j l' h
    rw [show n + (j + 1) = n + 1 + j by omega]
    exact this
section
variable {P : Program} {w : World} {A : Around} {E : Value → Shared → Prop} {s : Shared}
theorem iter_zl {l : Zl} {xs : Array Value} {Q : Value → Shared → Prop} (hl : l.sq xs s.heap) (h : ∀ h', h'.objs.size = s.heap.objs.size + 1 → (⟨s.heap.objs.size, l.1, l.2⟩ : Zs).it 0 h' → (∀ c o, s.heap.get? c = some o → h'.get? c = some o) → Q (.ref s.heap.objs.size) { s with heap := h' }) : wpAny (model P w) A (pyIter (.ref l.1)) Q E s := by
  obtain ⟨a, b⟩ := l
  cases b with
  | true => exact wpAny_pyIter_tuple hl (h _ (Heap.size_push ..) ⟨_, Heap.get?_push_size _ rfl, rfl, rfl⟩ fun c o e => Heap.get?_push_of_some _ e)
  | false => exact wpAny_pyIter_list hl (h _ (Heap.size_push ..) ⟨_, Heap.get?_push_size _ rfl, rfl, rfl⟩ fun c o e => Heap.get?_push_of_some _ e)
theorem iterAll_zl {ls : List Zl} {X : List (Array Value)} {Q : List Value → Shared → Prop} (hX : X.length = ls.length) (hs : ∀ (n : Nat) (l : Zl), ls[n]? = some l → ∃ xs, X[n]? = some xs ∧ l.sq xs s.heap)
    (h : ∀ h', h'.objs.size = s.heap.objs.size + ls.length → (∀ (n : Nat) (S : Zs), (zsFrom s.heap.objs.size ls)[n]? = some S → S.it 0 h') → (∀ c o, s.heap.get? c = some o → h'.get? c = some o) → Q (itsOf (zsFrom s.heap.objs.size ls)) { s with heap := h' }) :
    wpAny (model P w) A (Builtin.SmallTypes.iterAll (ls.map fun l => .ref l.1)) Q E s := by
  unfold Builtin.SmallTypes.iterAll
  refine wpAny_bind ?_
  refine wpAny_forIn_list _ (fun rest b s' => ∃ (j : Nat) (h' : Heap), rest = (ls.drop j).map (fun l => Value.ref l.1) ∧ j ≤ ls.length ∧ b = ((itsOf (zsFrom s.heap.objs.size ls)).take j).toArray ∧ s' = { s with heap := h' } ∧ h'.objs.size = s.heap.objs.size + j ∧ (∀ (n : Nat) (S : Zs), n < j → (zsFrom s.heap.objs.size ls)[n]? = some S → S.it 0 h') ∧ (∀ c o, s.heap.get? c = some o → h'.get? c = some o)) _ ?_ ?_ _ _ ⟨0, s.heap, by rw [List.drop_zero], Nat.zero_le _, by rw [List.take_zero], rfl, rfl, fun n S hn => absurd hn (Nat.not_lt_zero _), fun c o e => e⟩
  · rintro x rest b s' ⟨j, g, er, jl, rfl, rfl, gs, gi, gk⟩
    have jlt : j < ls.length := by
      rcases Nat.lt_or_ge j ls.length with h | h
      · exact h
      · rw [List.drop_of_length_le h] at er
        cases er
    rw [List.drop_eq_getElem_cons jlt, List.map_cons] at er
    injection er with e1 e2
    subst e1 e2
    have el : ls[j]? = some ls[j] := List.getElem?_eq_getElem jlt
    generalize ls[j] = l at el
    obtain ⟨xs, ex, sx⟩ := hs j l el
    have sx' : l.sq xs g := by
      obtain ⟨a, b⟩ := l
      cases b with
      | true =>
        obtain ⟨o, e, z⟩ := sx
        exact ⟨o, gk _ _ e, z⟩
      | false =>
        obtain ⟨o, e, z⟩ := sx
        exact ⟨o, gk _ _ e, z⟩
    refine wpAny_bind (wpAny_holding (iter_zl (s := { s with heap := g }) sx' fun h' hz hi hk => ?_))
    refine wpAny_pure ?_
    have eS := zsFrom_at s.heap.objs.size ls j l el
    refine ⟨j + 1, h', rfl, jlt, ?_, rfl, by rw [hz]; show g.objs.size + 1 = _; omega, fun n S hn e => ?_, fun c o e => hk _ _ (gk _ _ e)⟩
    · have e3 : (itsOf (zsFrom s.heap.objs.size ls))[j]? = some (.ref (s.heap.objs.size + j)) := by
        unfold itsOf
        rw [List.getElem?_map, eS]
        rfl
      rw [List.take_succ, e3]
      show (Array.push _ (Value.ref g.objs.size)) = _
      rw [gs]
      simp
    · by_cases c : n = j
      · subst c
        cases (Option.some.inj (e.symm.trans eS))
        rw [← gs]
        exact hi
      · exact Zs.keepI (gi n S (by omega) e) fun o e => hk _ _ e
  · rintro b s' ⟨j, g, er, jl, rfl, rfl, gs, gi, gk⟩
    have ej : j = ls.length := by
      have h := congrArg List.length er
      rw [List.length_map, List.length_drop] at h
      have h0 : ([] : List Value).length = 0 := rfl
      omega
    subst ej
    refine wpAny_pure ?_
    have e4 : ((itsOf (zsFrom s.heap.objs.size ls)).take ls.length).toArray.toList = itsOf (zsFrom s.heap.objs.size ls) := by
      rw [List.take_of_length_le (by unfold itsOf; rw [List.length_map, zsFrom_len]; exact Nat.le_refl _)]
    show Q (Array.toList _) _
    rw [e4]
    refine h g gs (fun n S e => gi n S ?_ e) gk
    have := (List.getElem?_eq_some_iff.mp e).1
    rw [zsFrom_len] at this
    exact this
end
end Bw
set_option Elab.async false
set_option linter.all false
set_option maxRecDepth 100000
set_option maxHeartbeats 4000000
namespace Bw
open PySem PySem.Spec PyProof.Rows L2
/-! ### zip(..) of any number of lists and tuples called -/
section
variable {P : Program} {w : World} {A : Around} {E : Value → Shared → Prop} {s : Shared}
theorem new_zipN (ls : List Zl) (few : ls.length ≤ sizeLine) : MeetsIn P w (Builtin.«zip.__new__» ⟨.type "zip" :: (ls.map fun l => Value.ref l.1), []⟩)
    (fun A R s => ∃ X : List (Array Value), X.length = ls.length ∧ (∀ (n : Nat) (l : Zl), ls[n]? = some l → ∃ xs, X[n]? = some xs ∧ l.sq xs s.heap) ∧
      ∀ h', ZipSt h' (s.heap.objs.size + ls.length + 2) (s.heap.objs.size + ls.length) (s.heap.objs.size + ls.length + 1) .none (.bool false) →
        SeqT h' (s.heap.objs.size + ls.length) (itsOf (zsFrom s.heap.objs.size ls)).toArray → SeqT h' (s.heap.objs.size + ls.length + 1) ((itsOf (zsFrom s.heap.objs.size ls)).map fun _ => Value.none).toArray →
        (∀ (n : Nat) (S : Zs), (zsFrom s.heap.objs.size ls)[n]? = some S → S.it 0 h') → h'.objs.size = s.heap.objs.size + ls.length + 3 → (∀ c o, s.heap.get? c = some o → h'.get? c = some o) →
        R (.ok (.ret (.ref (s.heap.objs.size + ls.length + 2)))) { s with heap := h' }) :=
  .of_wp fun A R s h => by
    obtain ⟨X, hX, hs, h⟩ := h
    unfold Builtin.«zip.__new__»
    refine wpAny_bind (wpAny_of_eq (zipN_cls _) ?_)
    try dsimp only
    refine wpAny_bind (iterAll_zl hX hs fun h1 z1 i1 k1 => ?_)
    have li : (itsOf (zsFrom s.heap.objs.size ls)).length = ls.length := by rw [itsOf_len, zsFrom_len]
    refine wpAny_bind (wpAny_newTuple ?_ (by rw [li]; exact few))
    refine wpAny_bind (wpAny_newTuple ?_ (by rw [List.length_map, li]; exact few))
    show wpAny _ _ (newObj (.type "zip") (.fields #[.none, .bool false, .bool false, .ref h1.objs.size, .ref (h1.push { cls := .type "tuple", data := .seq (itsOf (zsFrom s.heap.objs.size ls)).toArray }).objs.size]) >>= _) _ _ _
    refine wpAny_bind (wpAny_newObj_type ?_)
    refine wpAny_pure ⟨_, rfl, ?_⟩
    generalize (itsOf (zsFrom s.heap.objs.size ls)).map (fun _ => Value.none) = nn at h ⊢
    generalize itsOf (zsFrom s.heap.objs.size ls) = ii at h ⊢
    have z2 : (h1.push { cls := .type "tuple", data := .seq ii.toArray }).objs.size = s.heap.objs.size + ls.length + 1 := by rw [Heap.size_push, z1]
    have z3 : ((h1.push { cls := .type "tuple", data := .seq ii.toArray }).push { cls := .type "tuple", data := .seq nn.toArray }).objs.size = s.heap.objs.size + ls.length + 2 := by rw [Heap.size_push, z2]
    have key : ∀ z : Obj, z = ({ cls := .type "zip", data := .fields #[.none, .bool false, .bool false, .ref (s.heap.objs.size + ls.length), .ref (s.heap.objs.size + ls.length + 1)] } : Obj) →
        R (.ok (.ret (.ref (s.heap.objs.size + ls.length + 2)))) { s with heap := ((h1.push { cls := .type "tuple", data := .seq ii.toArray }).push { cls := .type "tuple", data := .seq nn.toArray }).push z } := by
      rintro z rfl
      have g3 : (((h1.push { cls := .type "tuple", data := .seq ii.toArray }).push { cls := .type "tuple", data := .seq nn.toArray }).push { cls := .type "zip", data := .fields #[.none, .bool false, .bool false, .ref (s.heap.objs.size + ls.length), .ref (s.heap.objs.size + ls.length + 1)] }).get? ((h1.push { cls := .type "tuple", data := .seq ii.toArray }).push { cls := .type "tuple", data := .seq nn.toArray }).objs.size = some _ := Heap.get?_push_size _ rfl
      have g2 : (((h1.push { cls := .type "tuple", data := .seq ii.toArray }).push { cls := .type "tuple", data := .seq nn.toArray }).push { cls := .type "zip", data := .fields #[.none, .bool false, .bool false, .ref (s.heap.objs.size + ls.length), .ref (s.heap.objs.size + ls.length + 1)] }).get? (h1.push { cls := .type "tuple", data := .seq ii.toArray }).objs.size = some _ := Heap.get?_push_of_some _ (Heap.get?_push_size _ rfl)
      have g1 : (((h1.push { cls := .type "tuple", data := .seq ii.toArray }).push { cls := .type "tuple", data := .seq nn.toArray }).push { cls := .type "zip", data := .fields #[.none, .bool false, .bool false, .ref (s.heap.objs.size + ls.length), .ref (s.heap.objs.size + ls.length + 1)] }).get? h1.objs.size = some _ := Heap.get?_push_of_some _ (Heap.get?_push_of_some _ (Heap.get?_push_size _ rfl))
      rw [z3] at g3
      rw [z2] at g2
      rw [z1] at g1
      have kk : ∀ c o, h1.get? c = some o → (((h1.push { cls := .type "tuple", data := .seq ii.toArray }).push { cls := .type "tuple", data := .seq nn.toArray }).push { cls := .type "zip", data := .fields #[.none, .bool false, .bool false, .ref (s.heap.objs.size + ls.length), .ref (s.heap.objs.size + ls.length + 1)] }).get? c = some o := fun c o e => Heap.get?_push_of_some _ (Heap.get?_push_of_some _ (Heap.get?_push_of_some _ e))
      refine h _ g3 g1 g2 (fun n S e => Zs.keepI (i1 n S e) fun o e => kk _ _ e) ?_ fun c o e => kk _ _ (k1 c o e)
      rw [Heap.size_push, z3]
    have := key _ rfl
    rw [← z3] at this
    rw [← z2] at this
    rw [← z1] at this
    exact this
/-- zip(..) of the sources ls, at least one -/
theorem call_zipN {l0 : Zl} {ls : List Zl} {X : List (Array Value)} {Q : Value → Shared → Prop} (few : (l0 :: ls).length ≤ sizeLine) (hX : X.length = (l0 :: ls).length) (hs : ∀ (n : Nat) (l : Zl), (l0 :: ls)[n]? = some l → ∃ xs, X[n]? = some xs ∧ l.sq xs s.heap)
    (h : ∀ h', ZipSt h' (s.heap.objs.size + (l0 :: ls).length + 2) (s.heap.objs.size + (l0 :: ls).length) (s.heap.objs.size + (l0 :: ls).length + 1) .none (.bool false) →
        SeqT h' (s.heap.objs.size + (l0 :: ls).length) (itsOf (zsFrom s.heap.objs.size (l0 :: ls))).toArray → SeqT h' (s.heap.objs.size + (l0 :: ls).length + 1) ((itsOf (zsFrom s.heap.objs.size (l0 :: ls))).map fun _ => Value.none).toArray →
        (∀ (n : Nat) (S : Zs), (zsFrom s.heap.objs.size (l0 :: ls))[n]? = some S → S.it 0 h') → h'.objs.size = s.heap.objs.size + (l0 :: ls).length + 3 → (∀ c o, s.heap.get? c = some o → h'.get? c = some o) →
        Q (.ref (s.heap.objs.size + (l0 :: ls).length + 2)) { s with heap := h' }) :
    wpAny (model P w) A (call (.type "zip") ((l0 :: ls).map fun l => Value.ref l.1)) Q E s := by
  refine callType_newIn F.called_zip (by decide) (zipN_type _) (zipN_new _ _) (fun obj => zipN_init _ _) F.entry_zip_new (new_zipN (l0 :: ls) few) ?_
  refine ⟨X, hX, hs, fun h' a b c d e f => ?_⟩
  exact ⟨⟨_, a, rfl⟩, h h' a b c d e f⟩
end
end Bw
set_option Elab.async false
set_option linter.all false
set_option maxRecDepth 100000
set_option maxHeartbeats 4000000
namespace Bw
open PySem PySem.Spec PyProof.Rows L2
/-! ### loops and comprehensions over zip(..) of any number of lists and tuples -/
def SrcV (K : PySem.W.Frag) (H : Hp) (l : Zl) (xs : List V) : Prop := match l.2 with
  | true => SqT K H l.1 xs
  | false => SqL K H l.1 xs
def Srcs (K : PySem.W.Frag) (H : Hp) (ls : List Zl) (vss : List (List V)) : Prop := vss.length = ls.length ∧ ∀ (n : Nat) (l : Zl), ls[n]? = some l → ∃ xs, vss[n]? = some xs ∧ SrcV K H l xs
def Col (i : Nat) (vss : List (List V)) (vs : List V) : Prop := vs.length = vss.length ∧ ∀ (n : Nat) (xs : List V), vss[n]? = some xs → xs[i]? = vs[n]?
def ItzN (K : PySem.W.Frag) (ls : List Zl) : It :=
  ⟨fun i H => ∃ vss vs, Srcs K H ls vss ∧ Col i vss vs,
    fun i H v H' => ∃ T vs, v = .ref T ∧ H T = none ∧ H' = upd H T (.tup vs) ∧ ∀ vss, Srcs K H ls vss → Col i vss vs,
    fun i H => ∃ vss, Srcs K H ls vss ∧ ∃ xs ∈ vss, xs[i]? = none⟩
theorem SrcV.get {X : Cx} {pins : List (Addr × Obj)} {σ : L2.St} {H : Hp} {s : Shared} {l : Zl} {xs : List V} (I : L2.Inv X pins σ H s) (h : SrcV X.K H l xs) : ∃ its : List Value, Vals xs its ∧ l.sq its.toArray s.heap ∧ l.1 < s.heap.objs.size := by
  obtain ⟨a, b⟩ := l
  cases b with
  | true => exact (side_tup (a := a)).get X pins σ H s xs rfl I h
  | false => exact (side_list (a := a)).get X pins σ H s xs rfl I h
theorem SrcV.inj {X : Cx} {pins : List (Addr × Obj)} {σ : L2.St} {H : Hp} {s : Shared} {l : Zl} {xs ys : List V} (I : L2.Inv X pins σ H s) (h : SrcV X.K H l xs) (h' : SrcV X.K H l ys) : xs = ys := by
  obtain ⟨a, b⟩ := l
  cases b with
  | true => exact (side_tup (a := a)).inj X pins σ H s xs ys rfl I h h'
  | false => exact (side_list (a := a)).inj X pins σ H s xs ys rfl I h h'
theorem Srcs.inj {X : Cx} {pins : List (Addr × Obj)} {σ : L2.St} {H : Hp} {s : Shared} {ls : List Zl} {vss wss : List (List V)} (I : L2.Inv X pins σ H s) (h : Srcs X.K H ls vss) (h' : Srcs X.K H ls wss) : vss = wss := by
  refine List.ext_getElem? fun n => ?_
  rcases Nat.lt_or_ge n ls.length with c | c
  · obtain ⟨xs, e1, k1⟩ := h.2 n _ (List.getElem?_eq_getElem c)
    obtain ⟨ys, e2, k2⟩ := h'.2 n _ (List.getElem?_eq_getElem c)
    rw [e1, e2, SrcV.inj I k1 k2]
  · rw [List.getElem?_eq_none (by rw [h.1]; exact c), List.getElem?_eq_none (by rw [h'.1]; exact c)]
theorem Srcs.vals {X : Cx} {pins : List (Addr × Obj)} {σ : L2.St} {H : Hp} {s : Shared} (I : L2.Inv X pins σ H s) : ∀ {ls : List Zl} {vss : List (List V)}, Srcs X.K H ls vss → ∃ Y : List (List Value), Y.length = ls.length ∧ ∀ (n : Nat) (l : Zl), ls[n]? = some l → ∃ xs its, vss[n]? = some xs ∧ Y[n]? = some its ∧ Vals xs its ∧ l.sq its.toArray s.heap ∧ l.1 < s.heap.objs.size
  | [], _, _ => ⟨[], rfl, fun n l e => by simp at e⟩
  | l :: ls, [], h => by
    have := h.1
    cases this
  | l :: ls, xs :: vss, h => by
    obtain ⟨Y, hY, hh⟩ := Srcs.vals I (ls := ls) (vss := vss) ⟨Nat.succ.inj h.1, fun n l' e => h.2 (n + 1) l' e⟩
    obtain ⟨xs', e1, k1⟩ := h.2 0 l rfl
    cases e1
    obtain ⟨its, r1, r2, r3⟩ := SrcV.get I k1
    refine ⟨its :: Y, congrArg (· + 1) hY, fun n l' e => ?_⟩
    match n, e with
    | 0, e =>
      cases e
      exact ⟨xs, its, rfl, rfl, r1, r2, r3⟩
    | n + 1, e => exact hh n l' e
theorem col_vals {i : Nat} : ∀ {vss : List (List V)} {vs : List V} {Y : List (List Value)}, Y.length = vss.length → (∀ (n : Nat) xs, vss[n]? = some xs → ∃ its, Y[n]? = some its ∧ Vals xs its) → Col i vss vs → ∃ us : List Value, Vals vs us ∧ ∀ (n : Nat) (its : List Value), Y[n]? = some its → its[i]? = us[n]?
  | [], vs, Y, hY, hv, hc => by
    have e : vs = [] := List.length_eq_zero_iff.mp hc.1
    have e2 : Y = [] := List.length_eq_zero_iff.mp hY
    subst e e2
    exact ⟨[], .nil, fun n its e => by simp at e⟩
  | xs :: vss, [], Y, hY, hv, hc => by
    have := hc.1
    cases this
  | xs :: vss, v :: vs, [], hY, hv, hc => by cases hY
  | xs :: vss, v :: vs, it :: Y, hY, hv, hc => by
    obtain ⟨us, r, hu⟩ := col_vals (i := i) (vss := vss) (vs := vs) (Y := Y) (Nat.succ.inj hY) (fun n xs' e => hv (n + 1) xs' e) ⟨Nat.succ.inj hc.1, fun n xs' e => hc.2 (n + 1) xs' e⟩
    obtain ⟨its, e1, r1⟩ := hv 0 xs rfl
    cases e1
    have e0 : xs[i]? = some v := hc.2 0 xs rfl
    obtain ⟨u, eu, ru⟩ := r1.get e0
    refine ⟨u :: us, .cons ru r, fun n its' e => ?_⟩
    match n, e with
    | 0, e =>
      cases e
      exact eu
    | n + 1, e => exact hu n its' e
section
variable {P : Program} {w : World} {A : Around} {E : Value → Shared → Prop} {s : Shared} {z TI TO : Addr}
theorem go_zipN {tg : Expr} {f0 f1 : Value} {T : Addr} {Q : Unit → Shared → Prop} (hz : ZipSt s.heap z TI TO f0 f1) (hf : F0 f0) (h : ∀ h' f0', F0 f0' → ZipSt h' z TI TO f0' f1 → Heap.SameBut z s.heap h' → Q () { s with heap := h' }) : wpAny (model P w) A (letOwnedTupleGo tg (.ref z) (.ref T)) Q E s := by
  have h0 : Q () s := h s.heap f0 hf hz ⟨rfl, fun _ _ => rfl⟩
  unfold letOwnedTupleGo
  cases tg <;> first
    | exact wpAny_pure h0
    | (refine wpAny_bind (wpAny_load hz ?_)
       dsimp only
       split
       · refine wpAny_bind (wpAny_rule ?_)
         show wpAny _ _ (setField (.ref z) 0 .none) Q E s
         exact wpAny_setField_rec hz (by simp) fun h' hz' hs' => h h' .none (.inl rfl) hz' hs'
       · exact wpAny_pure h0)
end
def TnZ (z TI TO : Addr) (Ss : List Zs) (i : Nat) (h : Heap) : Prop := ∃ f0 f1 arr, F0 f0 ∧ ZipSt h z TI TO f0 f1 ∧ SeqT h TI (itsOf Ss).toArray ∧ SeqT h TO arr ∧ arr.size = Ss.length ∧ At Ss i 0 h
theorem at_succ {Ss : List Zs} {i : Nat} {h : Heap} (a : At Ss i Ss.length h) : At Ss (i + 1) 0 h := fun n S e => by
  have := a n S e
  rw [if_pos (List.getElem?_eq_some_iff.mp e).1] at this
  exact this
theorem turn_zipN {P : Program} {w : World} {K : PySem.W.Frag} {tg : Expr} {z TI TO : Addr} {ls : List Zl} {Ss : List Zs} (D : ZApart z TI TO Ss) (h0 : Ss ≠ []) (few : Ss.length ≤ sizeLine) (eS : Ss.map (fun S => ((S.l, S.tup) : Zl)) = ls) :
    Turn P w K tg (ItzN K ls) (z :: TI :: TO :: Ss.map (·.i)) z (TnZ z TI TO Ss) where
  mem := by simp
  obj := fun i h st c hc => by
    obtain ⟨f0, f1, arr, hf, hz, hTI, hTO, hA, hI⟩ := st
    rcases List.mem_cons.mp hc with rfl | hc
    · exact ⟨_, hz, fun v q => nomatch q⟩
    rcases List.mem_cons.mp hc with rfl | hc
    · exact ⟨_, hTI, fun v q => nomatch q⟩
    rcases List.mem_cons.mp hc with rfl | hc
    · exact ⟨_, hTO, fun v q => nomatch q⟩
    obtain ⟨S, hS, rfl⟩ := List.mem_map.mp hc
    obtain ⟨n, en⟩ := List.getElem?_of_mem hS
    exact (Zs.src (P := P) (w := w) S).obj _ _ (hI n S en)
  keep := fun i h h' st k => by
    obtain ⟨f0, f1, arr, hf, hz, hTI, hTO, hA, hI⟩ := st
    exact ⟨f0, f1, arr, hf, k z (by simp) _ hz, k TI (by simp) _ hTI, k TO (by simp) _ hTO, hA, hI.keep fun S hS o e => k S.i (by simp; exact .inr (.inr (.inr ⟨S, hS, rfl⟩))) o e⟩
  item := by
    intro X hP hw hK hc i pins s σ H E I hf st hg
    subst hP hw hK
    obtain ⟨f0, f1, arr, hF, hz, hTI, hTO, hA, hI⟩ := st
    obtain ⟨vss, vs, hs, hcol⟩ := hg
    obtain ⟨Y, hY, hh⟩ := hs.vals I
    have ll : Ss.length = ls.length := by rw [← eS, List.length_map]
    obtain ⟨us, rv, hu⟩ := col_vals (i := i) (Y := Y) (by rw [hY, hs.1]) (fun n xs e => by
      have hn := (List.getElem?_eq_some_iff.mp e).1
      rw [hs.1] at hn
      obtain ⟨xs', its, e1, e2, e3, _⟩ := hh n _ (List.getElem?_eq_getElem hn)
      cases (Option.some.inj (e.symm.trans e1))
      exact ⟨its, e2, e3⟩) hcol
    have lus : us.length = Ss.length := by rw [← rv.length, hcol.1, hs.1, ll]
    have hX : Sqs Ss (Y.map fun y => y.toArray) s.heap := by
      refine ⟨by rw [List.length_map, hY, ll], fun n S e => ?_⟩
      obtain ⟨xs', its, e1, e2, e3, e4, _⟩ := hh n (S.l, S.tup) (by rw [← eS, List.getElem?_map, e]; rfl)
      refine ⟨its.toArray, by rw [List.getElem?_map, e2]; rfl, ?_⟩
      obtain ⟨i', l', t'⟩ := S
      cases t' <;> exact e4
    have hx : ∀ (n : Nat) (xs : Array Value), (Y.map fun y => y.toArray)[n]? = some xs → xs[i]? = us[n]? := fun n xs e => by
      rw [List.getElem?_map] at e
      obtain ⟨y, ey, rfl⟩ := Option.map_eq_some_iff.mp e
      rw [← hu n y ey]
      simp
    have fpz : ∀ c, c ∈ (z :: TI :: TO :: Ss.map (·.i)) → c < s.heap.objs.size := fun c hc => by
      rcases List.mem_cons.mp hc with rfl | hc
      · exact Heap.lt_size hz
      rcases List.mem_cons.mp hc with rfl | hc
      · exact Heap.lt_size hTI
      rcases List.mem_cons.mp hc with rfl | hc
      · exact Heap.lt_size hTO
      obtain ⟨S, hS, rfl⟩ := List.mem_map.mp hc
      obtain ⟨n, en⟩ := List.getElem?_of_mem hS
      obtain ⟨o, ho, _⟩ := (Zs.src (P := X.prog) (w := X.w) S).obj _ _ (hI n S en)
      exact Heap.lt_size ho
    have hzl : z < s.heap.objs.size := Heap.lt_size hz
    have hT : s.TypeIs (.ref z) "zip" := ⟨_, hz, rfl⟩
    have fin : ∀ (h' : Heap) (f0' f1' : Value) (arr' : Array Value), F0 f0' → ZipSt h' z TI TO f0' f1' → SeqT h' TO arr' → arr'.size = Ss.length → At Ss i Ss.length h' → SeqT h' s.heap.objs.size us.toArray → (∀ c o, c ≠ z → c ≠ TO → (∀ S ∈ Ss, c ≠ S.i) → s.heap.get? c = some o → h'.get? c = some o) →
        wpAny (model X.prog X.w) X.A (letOwnedTupleGo tg (.ref z) (.ref s.heap.objs.size)) (fun _ s2 => ∃ x H', L2.Inv X pins σ H' s2 ∧ RelV x (.ref s.heap.objs.size) ∧ (ItzN X.K ls).yld i H x H' ∧ TnZ z TI TO Ss (i + 1) s2.heap ∧ ∀ b ∈ (z :: TI :: TO :: Ss.map (·.i)), H' b = none) E { s with heap := h' } := by
      intro h' f0' f1' arr' hF' hz' hTO' hA' hI' hn' hk
      refine go_zipN (s := { s with heap := h' }) hz' hF' fun h'' f0'' hF'' hz'' sb => ?_
      have up : ∀ c o, c ≠ z → h'.get? c = some o → h''.get? c = some o := fun c o c1 e => sb.extBut _ _ c1 e
      have hT2 := up _ _ (Nat.ne_of_gt hzl) hn'
      have new : ObjOk X.prog X.w (upd H s.heap.objs.size (.tup vs)) h'' s.heap.objs.size (.tup vs) := ⟨by rw [rv.length, lus]; exact few, us, rv, ⟨_, hT2, rfl, _, rfl⟩⟩
      have kk' : ∀ (c : Addr) (o : Obj), c ∉ (z :: TI :: TO :: Ss.map (·.i)) → s.heap.get? c = some o → h''.get? c = some o := fun c o hb q => up c o (fun q' => hb (by simp [q'])) (hk c o (fun q' => hb (by simp [q'])) (fun q' => hb (by simp [q'])) (fun S hS q' => hb (by rw [q']; simp; exact .inr (.inr (.inr ⟨S, hS, rfl⟩)))) q)
      have I1 : L2.Inv X pins σ (upd H s.heap.objs.size (.tup vs)) { s with heap := h'' } := I.turnedNew (t' := s.toks) (ch := (z :: TI :: TO :: Ss.map (·.i))) kk' hf (Nat.le_refl _) new
      refine ⟨.ref s.heap.objs.size, _, I1, rfl, ⟨_, vs, rfl, I.hok.fresh (Nat.le_refl _), rfl, fun wss hw => ?_⟩, ⟨f0'', f1', arr', hF'', hz'', ?_, up _ _ D.TOz hTO', hA', (at_succ hI').keep fun S hS o e => up _ _ (D.iz S hS) e⟩, fun c hcm => ?_⟩
      · rw [Srcs.inj I hw hs]
        exact hcol
      · exact up _ _ D.TIz (hk _ _ D.TIz D.TITO (fun S hS => (D.iTI S hS).symm) hTI)
      · rw [upd_ne (Nat.ne_of_lt (fpz c hcm))]
        exact (hf c hcm).1
    unfold pyNext
    rcases owned_cases (P := X.prog) (w := X.w) (A := X.A.in1) (s := s) hz hF with free | held
    · refine wpAny_bind (wpAny_attempt (wpAny_callSpecial?_slot (name := Str.ofString "__next__") hT F.slot_zip_next (wpAny_call_entry F.slot_zip_next hT F.entry_zip_next
        (zip_itemA (s := s) (arr := arr) (X := Y.map fun y => y.toArray) (vs := us) D hz (free _) h0 hTI hTO hA hI hX lus hx few fun h' z' TO' h1' hT' hk => wpAny_pure ?_) (F.args_zip_next_1 _))))
      exact ⟨_, rfl, fin h' _ _ _ (.inr ⟨_, rfl⟩) z' TO' (by rw [List.size_toArray, lus]) h1' hT' hk⟩
    · refine wpAny_bind (wpAny_attempt (wpAny_callSpecial?_slot (name := Str.ofString "__next__") hT F.slot_zip_next (wpAny_call_entry F.slot_zip_next hT F.entry_zip_next
        (zip_itemB (s := s) (X := Y.map fun y => y.toArray) (vs := us) D hz (held _) h0 hTI hI hX lus hx few fun h' f1' z' h1' hT' hk => wpAny_pure ?_) (F.args_zip_next_1 _))))
      exact ⟨_, rfl, fin h' _ _ arr hF z' (hk _ _ D.TOz (fun S hS => (D.iTO S hS).symm) hTO) hA h1' hT' fun c o c1 _ c3 e => hk c o c1 c3 e⟩
  done := by
    intro X hP hw hK hc i pins s σ H E I hf st hg
    subst hP hw hK
    obtain ⟨f0, f1, arr, hF, hz, hTI, hTO, hA, hI⟩ := st
    obtain ⟨vss, hs, xs, hm, hn⟩ := hg
    obtain ⟨Y, hY, hh⟩ := hs.vals I
    have ll : Ss.length = ls.length := by rw [← eS, List.length_map]
    have hX : Sqs Ss (Y.map fun y => y.toArray) s.heap := by
      refine ⟨by rw [List.length_map, hY, ll], fun n S e => ?_⟩
      obtain ⟨xs', its, e1, e2, e3, e4, _⟩ := hh n (S.l, S.tup) (by rw [← eS, List.getElem?_map, e]; rfl)
      refine ⟨its.toArray, by rw [List.getElem?_map, e2]; rfl, ?_⟩
      obtain ⟨i', l', t'⟩ := S
      cases t' <;> exact e4
    have hx : ∃ ys ∈ (Y.map fun y => y.toArray), ys[i]? = none := by
      obtain ⟨n, en⟩ := List.getElem?_of_mem hm
      have hl := (List.getElem?_eq_some_iff.mp en).1
      rw [hs.1] at hl
      obtain ⟨xs', its, e1, e2, e3, _⟩ := hh n _ (List.getElem?_eq_getElem hl)
      cases (Option.some.inj (en.symm.trans e1))
      refine ⟨its.toArray, List.mem_map.mpr ⟨its, List.mem_of_getElem? e2, rfl⟩, ?_⟩
      have := e3.none_of hn
      simpa using this
    have hT : s.TypeIs (.ref z) "zip" := ⟨_, hz, rfl⟩
    unfold pyNext
    rcases owned_cases (P := X.prog) (w := X.w) (A := X.A.in1) (s := s) hz hF with free | held
    · refine wpAny_bind (wpAny_attempt (wpAny_callSpecial?_slot (name := Str.ofString "__next__") hT F.slot_zip_next
        (wpAny_call_entry F.slot_zip_next hT F.entry_zip_next (zip_endA (s := s) (arr := arr) (X := Y.map fun y => y.toArray) (I.ok.hd hc) D hz free h0 hTI hTO hA hI hX hx few fun h' e hk he => ?_) (F.args_zip_next_1 _))))
      obtain ⟨o, ho, hc'⟩ := he
      refine wpAny_bind (wpAny_isInstance (T := "StopIteration") (b := true) ⟨o, ho, hc'⟩ isSubtype_stop ?_)
      refine wpAny_pure ⟨rfl, I.turnedL (t' := s.toks) (ch := (z :: TI :: TO :: Ss.map (·.i))) (fun c o hb q => hk c o (fun q' => hb (by simp [q'])) (fun q' => hb (by simp [q'])) (fun S hS q' => hb (by rw [q']; simp; exact .inr (.inr (.inr ⟨S, hS, rfl⟩)))) q) hf⟩
    · refine wpAny_bind (wpAny_attempt (wpAny_callSpecial?_slot (name := Str.ofString "__next__") hT F.slot_zip_next
        (wpAny_call_entry F.slot_zip_next hT F.entry_zip_next (zip_endB (s := s) (X := Y.map fun y => y.toArray) (I.ok.hd hc) D hz (held _) h0 hTI hI hX hx fun h' e hk he => ?_) (F.args_zip_next_1 _))))
      obtain ⟨o, ho, hc'⟩ := he
      refine wpAny_bind (wpAny_isInstance (T := "StopIteration") (b := true) ⟨o, ho, hc'⟩ isSubtype_stop ?_)
      refine wpAny_pure ⟨rfl, I.turnedL (t' := s.toks) (ch := (z :: TI :: TO :: Ss.map (·.i))) (fun c o hb q => hk c o (fun q' => hb (by simp [q'])) (fun S hS q' => hb (by rw [q']; simp; exact .inr (.inr (.inr ⟨S, hS, rfl⟩)))) q) hf⟩
  self := fun A i s Q E st h => by
    obtain ⟨f0, f1, arr, hf, hz, _⟩ := st
    have hT : s.TypeIs (.ref z) "zip" := ⟨_, hz, rfl⟩
    refine wpAny_pyIter_slot hT F.slot_zip_iter (wpAny_call_entry F.slot_zip_iter hT F.entry_zip_iter ?_ (F.args_zip_iter_1 _))
    show wpAny _ _ (ret (.ref z)) _ _ s
    exact wpAny_pure ⟨_, rfl, "zip", _, hT, F.slot_zip_next.lookup, h⟩
theorem zapart_from {m : Nat} : ∀ {ls : List Zl} {n : Nat}, (∀ l ∈ ls, @LT.lt Nat _ l.1 m) → m ≤ n → (∀ S ∈ zsFrom n ls, @LE.le Nat _ n S.i ∧ @LT.lt Nat _ S.i (n + ls.length) ∧ @LT.lt Nat _ S.l m) ∧ ((zsFrom n ls).map (·.i)).Nodup ∧ (zsFrom n ls).map (fun S => ((S.l, S.tup) : Zl)) = ls
  | [], n, _, _ => ⟨fun S h => (by cases h), List.nodup_nil, rfl⟩
  | l :: ls, n, hl, hm => by
    obtain ⟨h1, h2, h3⟩ := zapart_from (m := m) (ls := ls) (n := n + 1) (fun l' h => hl l' (List.mem_cons_of_mem _ h)) (by omega)
    refine ⟨fun S h => ?_, ?_, ?_⟩
    · rcases List.mem_cons.mp h with rfl | h
      · exact ⟨Nat.le_refl _, by show n < n + (ls.length + 1); omega, hl l (List.mem_cons_self ..)⟩
      · obtain ⟨a, b, c⟩ := h1 S h
        exact ⟨Nat.le_of_succ_le a, by show @LT.lt Nat _ S.i (n + (ls.length + 1)); omega, c⟩
    · refine List.nodup_cons.mpr ⟨fun h => ?_, h2⟩
      obtain ⟨S, hS, e⟩ := List.mem_map.mp h
      have k := (h1 S hS).1
      rw [e] at k
      exact absurd k (Nat.not_succ_le_self n)
    · show (l.1, l.2) :: _ = l :: ls
      rw [h3]
theorem Srcs.lt {X : Cx} {pins : List (Addr × Obj)} {σ : L2.St} {H : Hp} {s : Shared} {ls : List Zl} {vss : List (List V)} (I : L2.Inv X pins σ H s) (h : Srcs X.K H ls vss) : ∀ l ∈ ls, l.1 < s.heap.objs.size := fun l hl => by
  obtain ⟨n, en⟩ := List.getElem?_of_mem hl
  obtain ⟨Y, _, hh⟩ := h.vals I
  obtain ⟨_, _, _, _, _, _, k⟩ := hh n l en
  exact k
/-- zip(..) of the sources called, an iterator of which comes -/
theorem zip_comes {X : Cx} {pins : List (Addr × Obj)} {σ : L2.St} {H : Hp} {s : Shared} {ls : List Zl} {vss : List (List V)} {tg : Expr} {R : It → Hp → Prop} (I : L2.Inv X pins σ H s) (h0 : ls ≠ []) (few : ls.length ≤ sizeLine) (hs : Srcs X.K H ls vss) (q : R (ItzN X.K ls) H) :
    wpAny (model X.prog X.w) X.A (call (.type "zip") (ls.map fun l => Value.ref l.1)) (fun v s1 => wpAny (model X.prog X.w) X.A (pyIter v) (PIE X pins σ tg R) X.xe s1) X.xe s := by
  obtain ⟨Y, hY, hh⟩ := hs.vals I
  have lt := hs.lt I
  obtain ⟨z1, z2, z3⟩ := zapart_from (m := s.heap.objs.size) (ls := ls) (n := s.heap.objs.size) lt (Nat.le_refl _)
  cases ls with
  | nil => exact absurd rfl h0
  | cons l0 ls =>
    refine call_zipN (X := Y.map fun y => y.toArray) few (by rw [List.length_map, hY]) (fun n l e => ?_) fun h' hz hTI hTO hI hsz hk => ?_
    · obtain ⟨xs', its, e1, e2, e3, e4, _⟩ := hh n l e
      exact ⟨its.toArray, by rw [List.getElem?_map, e2]; rfl, e4⟩
    · generalize hS : zsFrom s.heap.objs.size (l0 :: ls) = Ss at *
      have lS : Ss.length = (l0 :: ls).length := by rw [← hS, zsFrom_len]
      have D : ZApart (s.heap.objs.size + (l0 :: ls).length + 2) (s.heap.objs.size + (l0 :: ls).length) (s.heap.objs.size + (l0 :: ls).length + 1) Ss := by
        refine ⟨by show @Ne Nat _ _; omega, by show @Ne Nat _ _; omega, by show @Ne Nat _ _; omega, fun S h => ?_, fun S h => ?_, fun S h => ?_, fun S h => ?_, fun S h => ?_, fun S h S' h' => ?_, z2⟩
        · obtain ⟨_, _, _⟩ := z1 S h; show @Ne Nat _ _; omega
        · obtain ⟨_, _, _⟩ := z1 S h; show @Ne Nat _ _; omega
        · obtain ⟨_, _, _⟩ := z1 S h; show @Ne Nat _ _; omega
        · obtain ⟨_, _, _⟩ := z1 S h; show @Ne Nat _ _; omega
        · obtain ⟨_, _, _⟩ := z1 S h; show @Ne Nat _ _; omega
        · obtain ⟨_, _, _⟩ := z1 S h; obtain ⟨_, _, _⟩ := z1 S' h'; show @Ne Nat _ _; omega
      have hT : ({ s with heap := h' } : Shared).TypeIs (.ref (s.heap.objs.size + (l0 :: ls).length + 2)) "zip" := ⟨_, hz, rfl⟩
      have I2 : L2.Inv X pins σ H { s with heap := h' } := I.kept (t' := s.toks) hk
      have T := turn_zipN (P := X.prog) (w := X.w) (K := X.K) (tg := tg) (ls := l0 :: ls) D (fun e => by rw [e] at lS; cases lS) (by rw [lS]; exact few) z3
      have st : TnZ (s.heap.objs.size + (l0 :: ls).length + 2) (s.heap.objs.size + (l0 :: ls).length) (s.heap.objs.size + (l0 :: ls).length + 1) Ss 0 h' := by
        refine ⟨.none, .bool false, _, .inl rfl, hz, hTI, hTO, by rw [List.size_toArray, List.length_map, itsOf_len], fun n S e => ?_⟩
        rw [if_neg (Nat.not_lt_zero _)]
        exact hI n S e
      refine T.self X.A 0 { s with heap := h' } _ _ st ?_
      refine ⟨_, _, _, _, H, rfl, I2, T, st, fun c hc => ?_, q⟩
      have hle : s.heap.objs.size ≤ c := by
        rcases List.mem_cons.mp hc with rfl | hc
        · omega
        rcases List.mem_cons.mp hc with rfl | hc
        · omega
        rcases List.mem_cons.mp hc with rfl | hc
        · omega
        obtain ⟨S, hS', rfl⟩ := List.mem_map.mp hc
        exact (z1 S hS').1
      exact I.fpOk hle (I.hok.fresh hle)
theorem vals_refs : ∀ {ls : List Zl} {us : List Value}, Vals (ls.map fun l => V.ref l.1) us → us = ls.map fun l => Value.ref l.1
  | [], us, r => by
    cases r
    rfl
  | l :: ls, us, r => by
    cases r with
    | cons r rr =>
      cases r
      rw [vals_refs rr]
      rfl
def iZipN (K : PySem.W.Frag) (ta : TA) : TI := fun σ H R => ta σ H fun vs H1 => ∃ ls vss, vs = (ls.map fun l : Zl => V.ref l.1) ∧ ls ≠ [] ∧ ls.length ≤ 1000 ∧ Srcs K H1 ls vss ∧ R (ItzN K ls) H1
theorem thousand_line : (1000 : Nat) ≤ sizeLine := by decide
/-- zip(e, ..) of lists and tuples, whatever the target -/
theorem p_zipN {X : Cx} {K : PySem.W.Frag} {tg e : Expr} {es : List Expr} {ta : TA} {p pos : Pos} (hg : Gl X "zip") (hm : X.mg "zip" = none) (ha : PA X (e :: es) ta) (hK : X.K = K := by rfl)
    (hs : starEach (e :: es) X.env = (false, eval e X.env) :: starEach es X.env := by rfl) (hpl : (backTo pos (starEach es X.env)).any (·.1) = false := by rfl) : PI X tg (.Call (.Name "zip" p) (e :: es) [] pos) (iZipN K ta) := by
  subst hK
  refine ⟨fun pins s σ H R I h => ?_⟩
  refine Call_ (ld_blt I hg hm PyProof.Rows.boot_zip (PyProof.Rows.callWith_type1 (thn (ha.run pos pins s σ H _ I h) fun us s1 ⟨vs, H1, I1, r1, q1⟩ => ?_) hs hpl))
  obtain ⟨ls, vss, rfl, n0, few, hsr, q⟩ := q1
  rw [vals_refs r1]
  exact zip_comes I1 n0 (Nat.le_trans few thousand_line) hsr q
def iZipS (K : PySem.W.Frag) (te : TE) : TI := fun σ H R => te σ H fun y H1 => ∃ a ls vss, y = V.ref a ∧ (SqT K H1 a (ls.map fun l : Zl => V.ref l.1) ∨ SqL K H1 a (ls.map fun l : Zl => V.ref l.1)) ∧ ls ≠ [] ∧ ls.length ≤ 1000 ∧ Srcs K H1 ls vss ∧ R (ItzN K ls) H1
theorem looks_type {M : Model} {h : Heap} {T : String} : ∃ k, (k = Keeper.frame ∨ k = Keeper.machine ∨ k = Keeper.boundFrame) ∧ PySem.W.Looks M h (keeperOf (.type T)) k := ⟨.machine, .inr (.inl rfl), PySem.W.Looks.of_pure rfl⟩
/-- zip(*e), e a list or tuple of lists and tuples -/
theorem p_zipS {X : Cx} {K : PySem.W.Frag} {tg e : Expr} {te : TE} {p pos sp_ : Pos} (hg : Gl X "zip") (hm : X.mg "zip" = none) (he : PE X e te) (hK : X.K = K := by rfl)
    (hst : starEach [.Starred e sp_] X.env = [(true, eval e X.env)] := by rfl) : PI X tg (.Call (.Name "zip" p) [.Starred e sp_] [] pos) (iZipS K te) := by
  subst hK
  refine ⟨fun pins s σ H R I h => ?_⟩
  refine Call_ (ld_blt I hg hm PyProof.Rows.boot_zip ?_)
  rw [hst]
  refine PySem.W.ks_call (P := fun _ => True) rfl (fun _ _ => looks_type) (PySem.W.ks_lone (thn (he.run pins s σ H _ I h) fun v s1 ⟨y, H1, I1, ry, q1⟩ => ?_))
  obtain ⟨a, ls, vss, rfl, hsq, n0, few, hsr, q⟩ := q1
  obtain rfl : v = Value.ref a := ry
  refine StX.star_any I1 hsq fun us s2 I2 rv => ⟨trivial, ?_⟩
  rw [List.nil_append, vals_refs rv]
  exact zip_comes I2 n0 (Nat.le_trans few thousand_line) hsr q
/-- what is drawn from zip(..): tuples of columns -/
theorem walk_zipN {K : PySem.W.Frag} {ls : List Zl} {vss : List (List V)} {cols : Nat → List V} {n : Nat} (hc : ∀ i, i < n → Col i vss (cols i)) (hn : ∃ xs ∈ vss, xs[n]? = none) :
    Walk (ItzN K ls) n (fun H => Srcs K H ls vss) (fun i H v H' => ∃ T, v = .ref T ∧ H T = none ∧ H' = upd H T (.tup (cols i))) := by
  refine ⟨fun i H hi h => ⟨vss, cols i, h, hc i hi⟩, fun H h => ⟨vss, h, hn⟩, fun i H v H' hi h y => ?_⟩
  obtain ⟨T, vs, k1, k2, k3, k4⟩ := y
  have e := k4 vss h
  have e2 := hc i hi
  have : vs = cols i := by
    refine List.ext_getElem? fun n => ?_
    rcases Nat.lt_or_ge n vss.length with c | c
    · rw [← e.2 n _ (List.getElem?_eq_getElem c), e2.2 n _ (List.getElem?_eq_getElem c)]
    · rw [List.getElem?_eq_none (by rw [e.1]; exact c), List.getElem?_eq_none (by rw [e2.1]; exact c)]
  subst this
  exact ⟨T, k1, k2, k3⟩
end Bw
set_option Elab.async false
set_option linter.all false
set_option maxRecDepth 100000
set_option maxHeartbeats 4000000
namespace Bw
open PySem PySem.Spec PyProof.Rows L2
/-! ### max of a dict whose keys are tuples of ints -/
def gz (q : List Int) (j : Nat) : Int := q.getD j 0
theorem lexAt_lex (p q : List Int) : ∀ k i, i + k = min p.length q.length →
    Ob.lexAt (fun j => decide (gz p j = gz q j)) (fun j => decide (gz q j < gz p j)) (decide (p.length > q.length)) i k = HT.lexLt (q.drop i) (p.drop i)
  | 0, i, h => by
    rw [Ob.lexAt_zero]
    by_cases c : i < p.length
    · have c2 : q.length ≤ i := by omega
      rw [List.drop_of_length_le c2, List.drop_eq_getElem_cons c, HT.lexLt_nil_cons, decide_eq_true (by omega)]
    · rw [List.drop_of_length_le (show p.length ≤ i by omega), decide_eq_false (by omega)]
      by_cases d : i < q.length
      · rw [List.drop_eq_getElem_cons d, HT.lexLt_cons_nil]
      · rw [List.drop_of_length_le (show q.length ≤ i by omega), HT.lexLt_nil_nil]
  | k + 1, i, h => by
    have c : i < p.length := by omega
    have d : i < q.length := by omega
    have ep : gz p i = p[i] := by unfold gz; rw [List.getD_eq_getElem?_getD, List.getElem?_eq_getElem c]; rfl
    have eq : gz q i = q[i] := by unfold gz; rw [List.getD_eq_getElem?_getD, List.getElem?_eq_getElem d]; rfl
    rw [Ob.lexAt_succ, lexAt_lex p q k (i + 1) (by omega), List.drop_eq_getElem_cons c, List.drop_eq_getElem_cons d, HT.lexLt_cons, ep, eq]
    by_cases e : p[i] = q[i]
    · rw [decide_eq_true e, if_pos rfl, if_pos e.symm]
    · rw [decide_eq_false e, if_neg (by decide), if_neg (fun z => e z.symm)]
theorem rc_gtI {A : Around} {s : Shared} {l b : Addr} {its its2 : List Value} {p q : List Int} (hl : s.heap.IsTuple l its.toArray) (hb : s.heap.IsTuple b its2.toArray) (i1 : IntsAre its p) (i2 : IntsAre its2 q) (hu : A.units < cLine) : Ob.RcOp .Gt A s (.ref l) (.ref b) (HT.lexLt q p) := by
  have z1 : its.toArray.size = p.length := by rw [List.size_toArray]; exact i1.length
  have z2 : its2.toArray.size = q.length := by rw [List.size_toArray]; exact i2.length
  have a1 : ∀ j (h : j < its.toArray.size), ∃ t, its.toArray[j] = .int (gz p j) t := fun j h => PyProof.Rows.IntsAre.int_at i1 _ _ (by simp at h; simp [h])
  have a2 : ∀ j (h : j < its2.toArray.size), ∃ t, its2.toArray[j] = .int (gz q j) t := fun j h => PyProof.Rows.IntsAre.int_at i2 _ _ (by simp at h; simp [h])
  have R := Ob.RcOp.tuples_gt (A := A) (s := s) (e := fun j => decide (gz p j = gz q j)) (r := fun j => decide (gz q j < gz p j)) hl hb hu ?_ ?_
  · rw [z1, z2, lexAt_lex p q _ 0 (Nat.zero_add _)] at R
    exact R
  · intro j h1 h2
    obtain ⟨t, e1⟩ := a1 j h1
    obtain ⟨u, e2⟩ := a2 j h2
    have z : decide (gz p j = gz q j) = (gz p j == gz q j) := by
      by_cases y : gz p j = gz q j
      · rw [decide_eq_true y]; exact (beq_iff_eq.mpr y).symm
      · rw [decide_eq_false y]; exact (beq_eq_false_iff_ne.mpr y).symm
    show SeqAt.EqAt A.in1 s its.toArray[j] its2.toArray[j] (decide (gz p j = gz q j))
    rw [e1, e2, z]
    exact SeqAt.EqAt.int_int _ _ _ _
  · intro j h1 h2 _
    obtain ⟨t, e1⟩ := a1 j h1
    obtain ⟨u, e2⟩ := a2 j h2
    rw [e1, e2]
    exact Ob.RcOp.gt_int _ _ _ _
theorem best_lex (key : Nat → List Int) : ∀ k, argBest (fun i j => HT.lexLt (key j) (key i)) k ≤ k ∧ ∀ j, j ≤ k → HT.lexLt (key (argBest (fun i j => HT.lexLt (key j) (key i)) k)) (key j) = false
  | 0 => ⟨Nat.le_refl _, fun j hj => by
    have : j = 0 := by omega
    subst this
    cases e : HT.lexLt (key (argBest (fun i j => HT.lexLt (key j) (key i)) 0)) (key 0) with
    | false => rfl
    | true => have z := NtL.lex_asym _ _ e; exact e.symm.trans z⟩
  | k + 1 => by
    obtain ⟨i1, i2⟩ := best_lex key k
    have un : argBest (fun i j => HT.lexLt (key j) (key i)) (k + 1) = if HT.lexLt (key (argBest (fun i j => HT.lexLt (key j) (key i)) k)) (key (k + 1)) then k + 1 else argBest (fun i j => HT.lexLt (key j) (key i)) k := rfl
    generalize argBest (fun i j => HT.lexLt (key j) (key i)) k = b at i1 i2 un
    rw [un]
    cases e : HT.lexLt (key b) (key (k + 1)) with
    | true =>
      rw [if_pos rfl]
      have as := NtL.lex_asym _ _ e
      refine ⟨Nat.le_refl _, fun j hj => ?_⟩
      by_cases c : j = k + 1
      · subst c
        cases z : HT.lexLt (key (k + 1)) (key (k + 1)) with
        | false => rfl
        | true => exact z.symm.trans (NtL.lex_asym _ _ z)
      · exact NtL.lex_tr _ _ _ (i2 j (by omega)) as
    | false =>
      rw [if_neg (by decide)]
      refine ⟨by omega, fun j hj => ?_⟩
      by_cases c : j = k + 1
      · subst c; exact e
      · exact i2 j (by omega)
theorem kt_at {H : Hp} {kvs : List (List Key × V)} {ks : List (List Key × Addr × Value)} {ps : List (List Int)} (r : KT H kvs ks) (h : KeysI kvs ps) {j : Nat} {b : List Key × Addr × Value} (hb : ks[j]? = some b) : ∃ q, ps[j]? = some q ∧ H b.2.1 = some (.tup (q.map V.int)) := by
  obtain ⟨k1, k2⟩ := keys_kt r h
  obtain ⟨q, hq⟩ := k1 b.2.1 (List.mem_map.mpr ⟨b, List.mem_of_getElem? hb, rfl⟩)
  refine ⟨q, ?_, hq⟩
  rw [← k2, List.getElem?_map, List.getElem?_map, hb]
  exact congrArg some (keyOf_at hq)
def rMaxDT : List V → Hp → VK → Prop := fun vs H Q => ∃ (d : Addr) (kvs : List (List Key × V)) (ps : List (List Int)), vs = [V.ref d] ∧ Rd H d (.dT kvs) ∧ KeysI kvs ps ∧ 0 < ps.length ∧
  ∀ (b : Addr) (q : List Int), H b = some (.tup (q.map V.int)) → q ∈ ps → (∀ p ∈ ps, HT.lexLt q p = false) → Q (.ref b) H
section
variable {X : Cx}
theorem c_maxDT (hc : X.calm = true) (hu : X.A.units + 64 < cLine) : CallR X (.builtin "max") rMaxDT := by
  intro pins s σ H vs us Q I r h
  obtain ⟨d, kvs, ps, rfl, hd, hK, h0, q⟩ := h
  rw [Vals.ref1 r]
  obtain ⟨z, hs, ks, pr, o, es, ep, ho, hx, hdt, he, hn⟩ := (show ObjOk X.prog X.w H s.heap d (.dT kvs) from hd.ok I.hok)
  have l1 : es.size = ks.length := size_of_entries he
  have l3 : ks.length = ps.length := by
    rw [← (keys_kt pr hK).2, List.length_map, List.length_map]
  have key : ∀ (i : Nat) (v : Value), (∃ en : DictEntry, es[i]? = some en ∧ v = en.key) → ∃ b q, v = .ref b ∧ ps[i]? = some q ∧ H b = some (.tup (q.map V.int)) := fun i v ⟨en, hen, hv⟩ => by
    have qe := entry_at he i
    rw [hen] at qe
    cases hb : ks[i]? with
    | none =>
      rw [hb] at qe
      cases qe
    | some b =>
      rw [hb] at qe
      have e2 := Option.some.inj qe
      obtain ⟨p, hp, hq⟩ := kt_at pr hK hb
      exact ⟨b.2.1, p, by rw [hv, e2]; rfl, hp, hq⟩
  refine call_max_walkH (iter_keys hs ho hx hdt ?_)
  have hne : d ≠ s.heap.objs.size := Nat.ne_of_lt (Heap.lt_size ho)
  refine ⟨_, _, _, _, _, _, _, s.heap, fun i j => HT.lexLt (ps.getD j []) (ps.getD i []), rfl, (walks_raw (prog := X.prog) (w := X.w) (A := X.A.in1) (I.ok.hd hc) s.heap.objs.size d hne hdt).toS,
    ⟨⟨_, Heap.get?_push_size _ rfl, rfl, rfl⟩, Heap.get?_push_of_some _ ho⟩, fun b hb => ?_, by omega, fun b u e hb => ?_, fun b u e => Heap.get?_push_of_some _ e, fun i j vi vj s' Q' E' hk hi hj hq => ?_, fun v s' hP hm => ?_⟩
  · show b < (s.heap.push _).objs.size
    rw [Heap.size_push]
    rcases List.mem_cons.mp hb with e | hb
    · rw [e]; exact Nat.lt_succ_self _
    · rw [List.mem_singleton.mp hb]; exact Nat.lt_succ_of_lt (Heap.lt_size ho)
  · rw [List.mem_singleton.mp hb] at e
    exact absurd (Heap.lt_size e) (Nat.lt_irrefl _)
  · obtain ⟨b1, q1, rfl, p1, t1⟩ := key i vi hi
    obtain ⟨b2, q2, rfl, p2, t2⟩ := key j vj hj
    obtain ⟨its1, r1, u1, _⟩ := I.tuple (SqT.of t1)
    obtain ⟨its2, r2, u2, _⟩ := I.tuple (SqT.of t2)
    have e1 : ps.getD i [] = q1 := by rw [List.getD_eq_getElem?_getD, p1]; rfl
    have e2 : ps.getD j [] = q2 := by rw [List.getD_eq_getElem?_getD, p2]; rfl
    have hq : Q' (.bool (HT.lexLt (ps.getD j []) (ps.getD i []))) s' := hq
    rw [e1, e2] at hq
    have k1 : s'.heap.IsTuple b1 its1.toArray := Heap.IsTuple.at u1 fun o e => hk _ _ e
    have k2 : s'.heap.IsTuple b2 its2.toArray := Heap.IsTuple.at u2 fun o e => hk _ _ e
    refine rc_gtI k1 k2 (Vals.ints r1) (Vals.ints r2) ?_ _ _ _ _ hq
    show X.A.in1.units < cLine
    have : X.A.in1.units ≤ X.A.units + 1 := Nat.le_refl _
    omega
  · obtain ⟨b, q', rfl, p1, t1⟩ := key _ v hP
    obtain ⟨g1, g2⟩ := best_lex (fun i => ps.getD i []) (es.size - 1)
    have e1 : ps.getD (argBest (fun i j => HT.lexLt (ps.getD j []) (ps.getD i [])) (es.size - 1)) [] = q' := by rw [List.getD_eq_getElem?_getD, p1]; rfl
    rw [hm.eq_with]
    have J : Inv X pins σ H { s with heap := s'.heap, toks := s'.toks } := I.kept fun c u e => hm.heap c u (fun hb => by
      rw [List.mem_singleton.mp hb] at e
      exact absurd (Heap.lt_size e) (Nat.lt_irrefl _)) (Heap.get?_push_of_some _ e)
    refine ⟨.ref b, H, J, rfl, q b q' t1 (List.mem_of_getElem? p1) fun p hp => ?_⟩
    obtain ⟨j, hj⟩ := List.getElem?_of_mem hp
    have hjl := (List.getElem?_eq_some_iff.mp hj).1
    have g := g2 j (by omega)
    rw [← e1]
    have e3 : ps.getD j [] = p := by rw [List.getD_eq_getElem?_getD, hj]; rfl
    rw [← e3]
    exact g
end
end Bw
set_option Elab.async false
set_option linter.all false
set_option maxRecDepth 100000
set_option maxHeartbeats 4000000
namespace Bw
open PySem PySem.Spec PyProof.Rows L2
/-! ### min(list, default=None), max(list, default=None) of whole numbers -/
theorem reads_ints {h : Heap} : ∀ {vs : List Value} {ns : List Int}, IntsAre vs ns → ∃ as, ReadsAll h vs (ns.map .int) as
  | [], [], _ => ⟨_, .nil⟩
  | [], _ :: _, r => nomatch r
  | _ :: _, [], r => nomatch r
  | v :: vs, n :: ns, r => by
    cases r with
    | cons _ t r =>
      obtain ⟨as, hh⟩ := reads_ints (h := h) r
      exact ⟨_, .cons (.int n t) hh⟩
theorem alike_ints (ns : List Int) : PySem.W.AlikeAll (ns.map .int) := by
  refine ⟨fun x hx y hy => ?_, fun x hx => ?_⟩
  · obtain ⟨a, _, rfl⟩ := List.mem_map.mp hx
    obtain ⟨b, _, rfl⟩ := List.mem_map.mp hy
    rfl
  · obtain ⟨a, _, rfl⟩ := List.mem_map.mp hx
    exact fun z => nomatch z
theorem depth_ints : ∀ ns : List Int, PyData.depthAll (ns.map .int) ≤ 1
  | [] => Nat.zero_le _
  | n :: ns => Nat.max_le.mpr ⟨by show PyData.depth (.int n) ≤ 1; unfold PyData.depth; omega, depth_ints ns⟩
section
variable {X : Cx} {K : PySem.W.Frag}
def rMinD (K : PySem.W.Frag) : List V → List V → Hp → VK → Prop := fun vs zs H Q => ∃ (a : Addr) (ns : List Int), vs = [V.ref a] ∧ zs = [V.non] ∧ SqL K H a (ns.map V.int) ∧ (ns = [] → Q .non H) ∧ ∀ n ms, ns = n :: ms → Q (.int (ms.foldl min n)) H
def rMaxD (K : PySem.W.Frag) : List V → List V → Hp → VK → Prop := fun vs zs H Q => ∃ (a : Addr) (ns : List Int), vs = [V.ref a] ∧ zs = [V.non] ∧ SqL K H a (ns.map V.int) ∧ (ns = [] → Q .non H) ∧ ∀ n ms, ns = n :: ms → Q (.int (ms.foldl max n)) H
theorem cr_minD (hc : X.calm = true) (hu : X.A.units + 64 < cLine) (h : X.K = K := by rfl) : CallRK X (.builtin "min") [Str.ofString "default"] (rMinD K) := by
  subst h
  intro pins s σ H vs zs us ws Q I r rz h
  obtain ⟨a, ns, rfl, rfl, hs, q0, q⟩ := h
  obtain rfl := Vals.ref1 r
  obtain ⟨w1, rfl, e1⟩ := vals1 rz
  obtain rfl : w1 = Value.none := e1
  obtain ⟨its, rv, hl, _⟩ := I.list hs
  obtain ⟨as, hr⟩ := reads_ints (h := s.heap) rv.ints
  show wpAny (model X.prog X.w) X.A (call (.builtin "min") [.ref a] [(Str.ofString "default", .none)]) _ _ _
  refine PySem.W.min_list_default (I.ok.hd hc) hl.isList (vs := its.toArray) (by exact hr) (alike_ints ns) (by have := depth_ints ns; omega) (fun e h' tk hk => ?_) fun y ys i v h' tk bs e hv hrd hk => ?_
  · have e : ns = [] := List.map_eq_nil_iff.mp e
    exact ⟨.non, H, I.kept hk, rfl, q0 e⟩
  · cases ns with
    | nil => cases e
    | cons n ms =>
      obtain ⟨e1, e2⟩ := List.cons.inj e
      subst e1 e2
      rw [PySem.W.minD_ints] at hrd
      cases hrd
      exact ⟨.int _, H, I.kept hk, ⟨_, rfl⟩, q n ms rfl⟩
theorem cr_maxD (hc : X.calm = true) (hu : X.A.units + 64 < cLine) (h : X.K = K := by rfl) : CallRK X (.builtin "max") [Str.ofString "default"] (rMaxD K) := by
  subst h
  intro pins s σ H vs zs us ws Q I r rz h
  obtain ⟨a, ns, rfl, rfl, hs, q0, q⟩ := h
  obtain rfl := Vals.ref1 r
  obtain ⟨w1, rfl, e1⟩ := vals1 rz
  obtain rfl : w1 = Value.none := e1
  obtain ⟨its, rv, hl, _⟩ := I.list hs
  obtain ⟨as, hr⟩ := reads_ints (h := s.heap) rv.ints
  show wpAny (model X.prog X.w) X.A (call (.builtin "max") [.ref a] [(Str.ofString "default", .none)]) _ _ _
  refine PySem.W.max_list_default (I.ok.hd hc) hl.isList (vs := its.toArray) (by exact hr) (alike_ints ns) (by have := depth_ints ns; omega) (fun e h' tk hk => ?_) fun y ys i v h' tk bs e hv hrd hk => ?_
  · have e : ns = [] := List.map_eq_nil_iff.mp e
    exact ⟨.non, H, I.kept hk, rfl, q0 e⟩
  · cases ns with
    | nil => cases e
    | cons n ms =>
      obtain ⟨e1, e2⟩ := List.cons.inj e
      subst e1 e2
      rw [PySem.W.maxD_ints] at hrd
      cases hrd
      exact ⟨.int _, H, I.kept hk, ⟨_, rfl⟩, q n ms rfl⟩
end
end Bw
set_option Elab.async false
set_option linter.all false
set_option maxRecDepth 100000
set_option maxHeartbeats 4000000
namespace Bw
open PySem PySem.Spec PyProof.Rows L2
section
variable {X : Cx} {K : PySem.W.Frag}
theorem p_bm {o e : Expr} {es : List Expr} {to : TE} {t : TA} {name : Str} {apos cpos : Pos} {T id : String} {r : V → List V → Hp → VK → Prop} (pa : PlainAttrs T) (slot : Slot T name id) (hty : typeOf (.builtin id) = pure (.type "method_descriptor")) (hm : MtM X id r) (ho : PE X o to) (ha : PA X (e :: es) t) (hK : X.K = K := by rfl)
    (hbase : attributeBase o name X.env (eval o X.env) = eval o X.env := by rfl)
    (hfew : ((backTo cpos (starEach (e :: es) X.env)).all (fun x => !x.1) && (backToKw cpos (keywordEach [] X.env)).all (fun x => x.1.isSome) && decide ((e :: es).length + ([] : List Keyword).length + (if ([] : List Keyword).isEmpty then 0 else 1) < 30)) = true := by rfl)
    (hline : (apos.endLine == cpos.line) = true := by rfl) (hs : starEach (e :: es) X.env = (false, eval e X.env) :: starEach es X.env := by rfl) (hplain : (backTo cpos (starEach es X.env)).any (·.1) = false := by rfl) :
    PE X (.Call (.Attribute o name apos) (e :: es) [] cpos) (tBM K T r to t) := by
  subst hK
  exact pe_bm pa slot hty hm ho ha hbase hfew hline hs hplain
theorem p_zipA {e e2 : Expr} {ta : TA} {p pos tpos : Pos} {elts : List Expr} {kk : Nat} (hg : Gl X "zip") (hm : X.mg "zip" = none) (ha : PA X [e, e2] ta) (hK : X.K = K := by rfl)
    (hs : starEach [e, e2] X.env = (false, eval e X.env) :: starEach [e2] X.env := by rfl) (hpl : (backTo pos (starEach [e2] X.env)).any (·.1) = false := by rfl) : PI X (.Tuple elts kk tpos) (.Call (.Name "zip" p) [e, e2] [] pos) (RZ.iZipA K ta) := by
  subst hK
  exact RZ.pi_zipA hg hm ha hs hpl
/-! ### a walk over a list or a tuple -/
def SqS (K : PySem.W.Frag) (b : Bool) (H : Hp) (a : Addr) (xs : List V) : Prop := if b then SqL K H a xs else SqT K H a xs
def ItS (K : PySem.W.Frag) (b : Bool) (a : Addr) : It := if b then Itl K a else Itt K a
def oS (b : Bool) (xs : List V) : HO := if b then .lst xs else .tup xs
theorem SqS.of {K : PySem.W.Frag} {b : Bool} {H : Hp} {a : Addr} {xs : List V} (h : H a = some (oS b xs)) : SqS K b H a xs := by
  cases b
  · exact SqT.of h
  · exact SqL.of h
theorem SqS.or {K : PySem.W.Frag} {b : Bool} {H : Hp} {a : Addr} {xs : List V} (h : SqS K b H a xs) : SqL K H a xs ∨ SqT K H a xs := by
  cases b
  · exact .inr h
  · exact .inl h
theorem walk_seq {b : Bool} {a : Addr} {xs : List V} : Walk (ItS K b a) xs.length (fun H => SqS K b H a xs) (YAt xs) := by
  cases b
  · exact walk_tup
  · exact walk_list
def iSeq (K : PySem.W.Frag) (tl : TE) : TI := fun σ H R => tl σ H fun v H1 => ∃ (a : Addr) (xs : List V) (b : Bool), v = .ref a ∧ SqS K b H1 a xs ∧ R (ItS K b a) H1
theorem p_seq {tg l : Expr} {tl : TE} (hl : PE X l tl) (hK : X.K = K := by rfl) : PI X tg l (iSeq K tl) := by
  subst hK
  refine ⟨fun pins s σ H R I h => thn (hl.run pins s σ H _ I h) fun v s1 ⟨x, H1, I1, r1, q1⟩ => ?_⟩
  obtain ⟨a, xs, b, rfl, hq, q⟩ := q1
  cases r1
  have hf : ∀ c ∈ [s1.heap.objs.size], FpOk X pins H1 c := fun c hc => by
    rw [List.mem_singleton.mp hc]
    exact I1.fpOk (Nat.le_refl _) (I1.hok.fresh (Nat.le_refl _))
  cases b
  · obtain ⟨its, rv, p, hz⟩ := I1.tuple hq
    exact wpAny_pyIter_tuple (show s1.heap.IsTuple a its.toArray from p) ⟨s1.heap.objs.size, [s1.heap.objs.size], _, _, H1, rfl, I1.kept (t' := s1.toks) fun b o e => Heap.get?_push_of_some _ e, turn_tuple a _, ⟨_, Heap.get?_push_size _ rfl, rfl, rfl⟩, hf, q⟩
  · obtain ⟨its, rv, p, hz⟩ := I1.list hq
    exact wpAny_pyIter_list p.isList ⟨s1.heap.objs.size, [s1.heap.objs.size], _, _, H1, rfl, I1.kept (t' := s1.toks) fun b o e => Heap.get?_push_of_some _ e, turn_list a _, ⟨_, Heap.get?_push_size _ rfl, rfl, rfl⟩, hf, q⟩
end
end Bw
set_option Elab.async false
set_option linter.all false
set_option maxRecDepth 100000
set_option maxHeartbeats 4000000
namespace Bw
open PySem PySem.Spec PyProof.Rows L2
/-- a def read off its class, by the class's name -/
structure ClsFn (K : PySem.W.Frag) (mg : Str → Option Value) (x m : Str) (C f : Addr) : Prop where
  g : mg x = some (.ref C)
  sg : PySem.W.specialIn K (.ref C) "__getattribute__" = some (some (.builtin "type.__getattribute__"))
  ty : PySem.W.typeIn K (.ref C) = some (.type "type")
  rd : PySem.W.readsIn K C (.type "type") = true
  fc : PySem.W.findCls K (.ref C) (.type "type") m = some (.val (.ref f))
  kf : PySem.W.keepIn K (.ref f) = true
theorem pe_cfun {X : Cx} {x m : Str} {C f : Addr} {CX : CXT} {k : Nat} {fd : FuncData} {ps : List Str} {sp : Sp} {E : XK} {e : Expr} {es : List Expr} {t : TA} {np apos pos : Pos} {pl : Sem Bool} (T : ClsFn X.K X.mg x m C f) (F : FnOk X.prog X.w X.K X.mg X.base CX k f fd ps sp) (hr : Room k X.A) (hg : Gl X x)
    (hb : Binds X.K fd ps []) (hx : Passes CX X E) (ha : PA X (e :: es) t) (hdb : (x == ("__debug__" : Str)) = false := by decide)
    (ht : eval (.Call (.Attribute (.Name x np) m apos) (e :: es) [] pos) X.env = (do
      let ov ← eval (.Name x np) X.env
      standAt apos.atName
      let (f, first) ← holding [ov] (getMethod ov m pl)
      callWith pos f first (backTo pos (starEach (e :: es) X.env)) (backToKw pos (keywordEach [] X.env))) := by rfl)
    (he : starEach (e :: es) X.env = (false, eval e X.env) :: starEach es X.env := by rfl) (hpl : (backTo pos (starEach es X.env)).any (·.1) = false := by rfl) :
    PE X (.Call (.Attribute (.Name x np) m apos) (e :: es) [] pos) (tCall sp [] E t) := by
  refine ⟨fun pins s σ H Q I h => ?_⟩
  refine PySem.W.methodCall_KW (ld_glob I hg T.g ?_ hdb) ht
  obtain ⟨m, fr⟩ := I.fr
  refine PySem.W.method_of_cls fr I.ok.mod.kin T.sg (PySem.W.cls_val fr I.ok.mod.kin T.ty T.rd T.fc rfl ?_)
  show wpAny _ _ (callWith pos (Value.ref f) [] (backTo pos (starEach (e :: es) X.env)) []) _ _ _
  refine PySem.W.callWith_K (h₀ := X.base) I.ok.mod.kin T.kf (thn (ha.run pos pins _ σ H _ (I.tok _) h) fun us s1 ⟨vs, H1, I1, r, q⟩ => ⟨I1.kIn, ?_⟩) he hpl
  exact run_fn F hr hb .nil hx I1 r q
/-! ### raise C(), C with an __init__ of its own that wants nothing -/
theorem pmk_oex0 {X : Cx} {p pos : Pos} {CX : CXT} {x : Str} {C fI : Addr} {k : Nat} {fd : FuncData} {ps : List Str} {sp : Sp} (T : OexC X.K C) (iC : PySem.W.findIn X.K (.ref C) "__init__" = some (some (.ref fI))) (tI : PySem.W.typeIn X.K (.ref fI) = some (.type "function"))
    (F1 : FnOk X.prog X.w X.K X.mg X.base CX k fI fd ps sp) (hr : Room (k + 1) X.A) (hb : Binds X.K fd ps []) (hx : Passes CX X (fun _ _ _ => False)) (hg : Gl X x) (hm : X.mg x = some (.ref C)) (hdb : (x == ("__debug__" : Str)) = false := by decide) :
    PMk X (.Call (.Name x p) [] [] pos) (tMkO C sp [] tNil) := by
  intro pins s1 σ H1 Q I1 h
  obtain ⟨hz, q1⟩ := h
  obtain ⟨nm, q, N, bs, bm, sn, sub, ab, col, dd, k0, k1, k2, k3, k5, hC, hbm⟩ := T.cls
  refine wpAny_Call_Name_kw (ld_glob I1 hg hm ?_ hdb); refine PySem.W.callWith_K0 I1.kIn T.kC ?_
  show wpAny _ _ (call (.ref C) []) _ _ _
  obtain ⟨hp, g, dr, tk, os⟩ := s1
  have hsz : hp.objs.size ≤ hp.objs.size + 1 := Nat.le_succ _
  have hn : H1 (hp.objs.size + 1) = none := I1.hok.fresh hsz
  have hq := q1 (hp.objs.size + 1) hn
  have kk : ∀ b o, hp.get? b = some o → ((hp.push (PySem.W.kdv_tup [])).push (PySem.HandSPX.excO C hp.objs.size)).get? b = some o := fun b o e => Heap.get?_push_of_some _ (Heap.get?_push_of_some _ e)
  have hget : ((hp.push (PySem.W.kdv_tup [])).push (PySem.HandSPX.excO C hp.objs.size)).get? (hp.objs.size + 1) = some (PySem.HandSPX.excO C hp.objs.size) := by heap_get
  have I2 : L2.Inv X pins σ (upd H1 (hp.objs.size + 1) (exo (hp.objs.size + 1) C none)) ⟨(hp.push (PySem.W.kdv_tup [])).push (PySem.HandSPX.excO C hp.objs.size), g, dr, tk, os⟩ := I1.laid (t' := tk) (a := hp.objs.size + 1) (o := exo (hp.objs.size + 1) C none) (h' := (hp.push (PySem.W.kdv_tup [])).push (PySem.HandSPX.excO C hp.objs.size)) kk hsz (exo_ok hget)
  have r2 : Vals [V.ref (hp.objs.size + 1)] [Value.ref (hp.objs.size + 1)] := .cons rfl .nil
  have hl : ([Value.ref (hp.objs.size + 1)] ++ ([] : List Value)).length = ps.length := F1.len _ _ _ _ hq
  refine wpAny_call (PySem.HandSPX.call_own F.excBase_ValueError (fun Y => PySem.HandSPX.refsVE_contains Y bm hbm) (I1.kIn _ _ hC) (PySem.W.looks_findIn I1.kIn iC) (fun self => PySem.W.bind_fn I1.kIn self tI) (Nat.zero_le _)
    (codeAny_mono (F1.run _ X.stack _ _ ⟨[Value.ref (hp.objs.size + 1)], []⟩ [Value.ref (hp.objs.size + 1)] _ _ (fun _ _ _ => False) (hr.make C [] []) (I2.env0.make C [] []) (hb _ [Value.ref (hp.objs.size + 1)] I2.kIn hl) r2 hq) fun r s' hq' => ?_))
  cases r with
  | error er => exact hx pins σ _ _ er s' I2 hq'
  | ok fl =>
    cases fl with
    | ret u =>
      obtain ⟨v, H2, os2, bare2, un2, hok2, rv, ev, d, fs, ea, ed, hd1, q2⟩ := hq'
      subst ev
      obtain ⟨h2, g2, d2, t2, os'⟩ := s'
      exact ⟨rv, mk_end (raises_own T.exC T.tyC) I1 hsz kk un2 hok2 os2 bare2 ea ed hd1 q2⟩
    | next => exact False.elim hq'
    | brk => exact False.elim hq'
    | cont => exact False.elim hq'
/-- f(k = e, ..), nothing by place -/
def tCallK0 (sp : Sp) (gV : List V → List V → List V) (E : XK) (tk : TA) : TE := fun σ H Q => tk σ H fun zs H2 => sp (gV [] zs) H2 Q E
theorem pe_callK0 {X : Cx} {CX : CXT} {k : Nat} {f : Addr} {fd : FuncData} {ps ks : List Str} {sp : Sp} {E : XK} {x : Str} {p pos : Pos} {kws : List Keyword} {tk : TA} {g : List Value → List Value → List Value} {gV : List V → List V → List V}
    (F : FnOk X.prog X.w X.K X.mg X.base CX k f fd ps sp) (hr : Room k X.A) (hg : Gl X x) (hm : X.mg x = some (.ref f)) (hk : PySem.W.keepIn X.K (.ref f) = true) (hb : KBinds X.K fd ps ks g gV) (hx : Passes CX X E)
    (hkw : PK X kws tk) (hall : (backToKw pos (keywordEach kws X.env)).all (·.1.isSome) = true := by rfl) (hks : (backToKw pos (keywordEach kws X.env)).filterMap (·.1) = ks := by rfl)
    (hdb : (x == ("__debug__" : Str)) = false := by decide) (hpl : ((backTo pos (starEach [] X.env)).any (·.1) || (backToKw pos (keywordEach kws X.env)).any (·.1.isNone)) = false := by rfl) :
    PE X (.Call (.Name x p) [] kws pos) (tCallK0 sp gV E tk) := by
  refine ⟨fun pins s σ H Q I h => ?_⟩
  refine wpAny_Call_Name_kw (ld_glob I hg hm ?_ hdb)
  refine PySem.W.callWith_KW0 (h₀ := X.base) I.ok.mod.kin hk hall (thn (hkw.run pos pins s σ H _ I h) fun ws s2 ⟨zs, H2, I2, rz, q2⟩ => ⟨I2.kIn, ?_⟩) hpl
  rw [hks]
  exact run_fnk (us := []) (vs := []) F hr hb hx I2 .nil rz q2
theorem it_walk {J : It} {n : Nat} {G : Hp → Prop} {Y : Nat → Hp → V → Hp → Prop} (wk : Walk J n G Y) {H1 : Hp} {Qd : Hp → Prop} {Body : V → Hp → (Hp → Prop) → Prop} (Pv : Nat → Hp → Prop) (h0 : Pv 0 H1) (hG : ∀ i H, i ≤ n → Pv i H → G H)
    (hs : ∀ i x H H', i < n → Pv i H → Y i H x H' → Body x H' (Pv (i + 1))) (hd : ∀ H, Pv n H → Qd H) :
    ∃ W : Nat → Nat → Hp → Prop, (∃ m, W 0 m H1) ∧ ∀ i m H, W i m H → (J.stop i H ∧ Qd H) ∨ (J.go i H ∧ ∃ Nx : Hp → Prop, (∀ H', Nx H' → ∃ m', m' < m ∧ W (i + 1) m' H') ∧ ∀ x H', J.yld i H x H' → Body x H' Nx) := by
  refine ⟨fun i m H => m = n - i ∧ i ≤ n ∧ Pv i H, ⟨n, rfl, Nat.zero_le _, h0⟩, ?_⟩
  rintro i m H ⟨rfl, hi, p⟩
  have q := hG i H hi p
  by_cases hlt : i < n
  · exact .inr ⟨wk.goes i H hlt q, Pv (i + 1), fun H' p' => ⟨n - (i + 1), by omega, rfl, hlt, p'⟩, fun x H' y => hs i x H H' hlt p (wk.yields i H x H' hlt q y)⟩
  · have e : i = n := by omega
    subst e
    exact .inl ⟨wk.stops H q, hd H p⟩
section
variable {X : Cx} {K : PySem.W.Frag}
theorem p_bmR {o e : Expr} {es : List Expr} {to : TE} {t : TA} {name : Str} {apos cpos : Pos} {T id : String} {r : V → List V → Hp → VK → Prop} (pa : PlainAttrs T) (slot : Slot T name id) (hty : typeOf (.builtin id) = pure (.type "method_descriptor")) (hm : MtR X id r) (ho : PE X o to) (ha : PA X (e :: es) t) (hK : X.K = K := by rfl)
    (hbase : attributeBase o name X.env (eval o X.env) = eval o X.env := by rfl)
    (hfew : ((backTo cpos (starEach (e :: es) X.env)).all (fun x => !x.1) && (backToKw cpos (keywordEach [] X.env)).all (fun x => x.1.isSome) && decide ((e :: es).length + ([] : List Keyword).length + (if ([] : List Keyword).isEmpty then 0 else 1) < 30)) = true := by rfl)
    (hline : (apos.endLine == cpos.line) = true := by rfl) (hs : starEach (e :: es) X.env = (false, eval e X.env) :: starEach es X.env := by rfl) (hplain : (backTo cpos (starEach es X.env)).any (·.1) = false := by rfl) :
    PE X (.Call (.Attribute o name apos) (e :: es) [] cpos) (tBM K T r to t) := by
  subst hK
  exact pe_bm pa slot hty hm ho ha hbase hfew hline hs hplain
theorem c_max (hc : X.calm = true) (h : X.K = K := by rfl) : CallR X (.builtin "max") (rMax K) := by
  subst h
  exact cr_max hc
end
end Bw
set_option Elab.async false
set_option linter.all false
set_option maxRecDepth 100000
set_option maxHeartbeats 4000000
namespace Bw
open PySem PySem.Spec PyProof.Rows L2
/-! ### max and min of a tuple of whole numbers -/
section
variable {prog : Program} {w : World} {A : Around} {E : Value → Shared → Prop} {s : Shared} {l : Addr} {xs : Array (Int × Tok)}
theorem iter_intTup {Q : Value → Shared → Prop} (hl : s.heap.IsTuple l (intItems xs))
    (h : ∀ s₂ : Shared, s₂ = { s with heap := s.heap.push { cls := .type "tuple_iterator", data := .fields #[.ref l, .int 0 0] } } →
      (s₂.heap.IsTupleIter s.heap.objs.size l 0 ∧ s₂.heap.IsTuple l (intItems xs)) → (∀ b ∈ [s.heap.objs.size, l], b < s₂.heap.objs.size) → l ≠ s.heap.objs.size → Q (.ref s.heap.objs.size) s₂) :
    wpAny (model prog w) A (pyIter (.ref l)) Q E s := by
  have hlt : l < s.heap.objs.size := by obtain ⟨_, e, _⟩ := hl; exact Heap.lt_size e
  refine wpAny_pyIter_tuple hl (h _ rfl ⟨⟨_, Heap.get?_push_size _ rfl, rfl, rfl⟩, hl.at fun o e => Heap.get?_push_of_some _ e⟩ (fun b hb => ?_) (Nat.ne_of_lt hlt))
  show b < (s.heap.push _).objs.size
  rw [Heap.size_push]
  rcases List.mem_cons.mp hb with rfl | hb
  · exact Nat.lt_succ_self _
  · rcases List.mem_cons.mp hb with rfl | hb
    · exact Nat.lt_succ_of_lt hlt
    · cases hb
theorem old_keptT {h' : Heap} {o₀ : Obj} (hk : ∀ b o, b ∉ [s.heap.objs.size] → (s.heap.push o₀).get? b = some o → h'.get? b = some o) :
    ∀ b o, s.heap.get? b = some o → h'.get? b = some o := fun b o e => by
  refine hk b o (fun hm => ?_) (Heap.get?_push_of_some _ e)
  rcases List.mem_cons.mp hm with e1 | hm
  · exact absurd (e1 ▸ Heap.lt_size e) (Nat.lt_irrefl _)
  · cases hm
theorem max_intTup {Q : Value → Shared → Prop} (hh : A.handled = none) (hl : s.heap.IsTuple l (intItems xs)) (hne : 0 < xs.size)
    (h : ∀ v h' tk, (intItems xs)[argBest (fun i j => decide (numAt xs i > numAt xs j)) (xs.size - 1)]? = some v → (∀ b o, s.heap.get? b = some o → h'.get? b = some o) → Q v { s with heap := h', toks := tk }) :
    wpAny (model prog w) A (call (.builtin "max") [.ref l]) Q E s := by
  refine call_max_walk (iter_intTup hl fun s₂ e st hfp hlI => ?_)
  subst e
  refine ⟨_, _, _, _, _, _, _, rfl, Walks.tuple (A := A.in1) hh _ l hlI (intItems xs), st, hfp, by simpa [intItems] using hne, CmpOf.ints_gt (numAt xs) (fun _ _ => intItems_at), fun v h' tk hP hk => ?_⟩
  exact h v h' tk (by simpa [intItems] using hP) (old_keptT hk)
theorem min_intTup {Q : Value → Shared → Prop} (hh : A.handled = none) (hl : s.heap.IsTuple l (intItems xs)) (hne : 0 < xs.size)
    (h : ∀ v h' tk, (intItems xs)[argBest (fun i j => decide (numAt xs i < numAt xs j)) (xs.size - 1)]? = some v → (∀ b o, s.heap.get? b = some o → h'.get? b = some o) → Q v { s with heap := h', toks := tk }) :
    wpAny (model prog w) A (call (.builtin "min") [.ref l]) Q E s := by
  refine call_min_walk (iter_intTup hl fun s₂ e st hfp hlI => ?_)
  subst e
  refine ⟨_, _, _, _, _, _, _, rfl, Walks.tuple (A := A.in1) hh _ l hlI (intItems xs), st, hfp, by simpa [intItems] using hne, CmpOf.ints_lt (numAt xs) (fun _ _ => intItems_at), fun v h' tk hP hk => ?_⟩
  exact h v h' tk (by simpa [intItems] using hP) (old_keptT hk)
theorem max_rawT {its : List Value} {ns : List Int} {Q : Value → Shared → Prop} (hh : A.handled = none) (hl : s.heap.IsTuple l its.toArray) (hi : IntsAre its ns) (hne : 0 < ns.length)
    (h : ∀ h' tk M t', (∀ b o, s.heap.get? b = some o → h'.get? b = some o) → M ∈ ns → (∀ a, a ∈ ns → a ≤ M) → Q (.int M t') { s with heap := h', toks := tk }) : wpAny (model prog w) A (call (.builtin "max") [.ref l]) Q E s := by
  obtain ⟨xs, e⟩ := hi.allInts.items
  have hn : numsOf (intItems xs).toList = ns := by rw [← e]; exact hi.numsOf
  rw [nums_intItems] at hn
  subst hn
  rw [e] at hl
  have hsz : 0 < xs.size := by simpa using hne
  refine max_intTup hh hl hsz fun v h' tk hv hk => ?_
  obtain ⟨t, rfl⟩ := intItems_at hv
  obtain ⟨h1, h2⟩ := argBest_gt (numAt xs) (xs.size - 1)
  refine h h' tk _ t hk ?_ fun a ha => ?_
  · rw [numAt_eq]; exact PySem.getD_mem (by rw [List.length_map, Array.length_toList]; omega)
  · obtain ⟨j, hj, rfl⟩ := mem_getD ha
    rw [List.length_map, Array.length_toList] at hj
    rw [← numAt_eq]; exact h2 j (by omega)
theorem min_rawT {its : List Value} {ns : List Int} {Q : Value → Shared → Prop} (hh : A.handled = none) (hl : s.heap.IsTuple l its.toArray) (hi : IntsAre its ns) (hne : 0 < ns.length)
    (h : ∀ h' tk M t', (∀ b o, s.heap.get? b = some o → h'.get? b = some o) → M ∈ ns → (∀ a, a ∈ ns → M ≤ a) → Q (.int M t') { s with heap := h', toks := tk }) : wpAny (model prog w) A (call (.builtin "min") [.ref l]) Q E s := by
  obtain ⟨xs, e⟩ := hi.allInts.items
  have hn : numsOf (intItems xs).toList = ns := by rw [← e]; exact hi.numsOf
  rw [nums_intItems] at hn
  subst hn
  rw [e] at hl
  have hsz : 0 < xs.size := by simpa using hne
  refine min_intTup hh hl hsz fun v h' tk hv hk => ?_
  obtain ⟨t, rfl⟩ := intItems_at hv
  obtain ⟨h1, h2⟩ := argBest_lt (numAt xs) (xs.size - 1)
  refine h h' tk _ t hk ?_ fun a ha => ?_
  · rw [numAt_eq]; exact PySem.getD_mem (by rw [List.length_map, Array.length_toList]; omega)
  · obtain ⟨j, hj, rfl⟩ := mem_getD ha
    rw [List.length_map, Array.length_toList] at hj
    rw [← numAt_eq]; exact h2 j (by omega)
end
section
variable {X : Cx} {K : PySem.W.Frag}
def rMaxT (K : PySem.W.Frag) : List V → Hp → VK → Prop := fun vs H Q => ∃ (a : Addr) (ns : List Int), vs = [V.ref a] ∧ SqT K H a (ns.map V.int) ∧ 0 < ns.length ∧ ∀ m, m ∈ ns → (∀ y, y ∈ ns → y ≤ m) → Q (.int m) H
def rMinT (K : PySem.W.Frag) : List V → Hp → VK → Prop := fun vs H Q => ∃ (a : Addr) (ns : List Int), vs = [V.ref a] ∧ SqT K H a (ns.map V.int) ∧ 0 < ns.length ∧ ∀ m, m ∈ ns → (∀ y, y ∈ ns → m ≤ y) → Q (.int m) H
theorem c_maxT (hc : X.calm = true) (h : X.K = K := by rfl) : CallR X (.builtin "max") (rMaxT K) := by
  subst h
  intro pins s σ H vs us Q I r h
  obtain ⟨a, ns, rfl, hs, hne, q⟩ := h
  obtain ⟨its, rv, hl, _⟩ := I.tuple hs
  rw [Vals.ref1 r]
  exact max_rawT (I.ok.hd hc) hl rv.ints hne fun h' tk m t' hk h1 h2 => ⟨.int _, H, I.kept hk, ⟨_, rfl⟩, q m h1 h2⟩
theorem c_minT (hc : X.calm = true) (h : X.K = K := by rfl) : CallR X (.builtin "min") (rMinT K) := by
  subst h
  intro pins s σ H vs us Q I r h
  obtain ⟨a, ns, rfl, hs, hne, q⟩ := h
  obtain ⟨its, rv, hl, _⟩ := I.tuple hs
  rw [Vals.ref1 r]
  exact min_rawT (I.ok.hd hc) hl rv.ints hne fun h' tk m t' hk h1 h2 => ⟨.int _, H, I.kept hk, ⟨_, rfl⟩, q m h1 h2⟩
end
end Bw
set_option Elab.async false
set_option linter.all false
set_option maxRecDepth 100000
set_option maxHeartbeats 4000000
namespace Bw
open PySem PySem.Spec PyProof.Rows L2
/-! ### a op b op c op d -/
section
variable {X : Cx} {K : PySem.W.Frag} {a b c d : Expr} {ta tb tc td : TE} {pos : Pos}
def tChain3 (r r' r'' : R2) (ta tb tc td : TE) : TE := fun σ H Q => ta σ H fun x H1 => tb σ H1 fun y H2 => r x y H2 fun z H3 => ∃ k, z = .bl k ∧
  (if k = true then tc σ H3 fun w' H4 => r' y w' H4 fun z H5 => ∃ k, z = .bl k ∧ (if k = true then td σ H5 fun v' H6 => r'' w' v' H6 Q else Q (.bl false) H5) else Q (.bl false) H3)
theorem pe_chain3 {op op' op'' : CmpOp} {r r' r'' : R2} (ho : OpR X (compareOp op) r) (ho' : OpR X (compareOp op') r') (ho'' : OpR X (compareOp op'') r'') (ha : PE X a ta) (hb : PE X b tb) (hc : PE X c tc) (hd : PE X d td)
    (hm : lastMarks [op, op', op''] [b, c, d] = false := by with_unfolding_all rfl) : PE X (.Compare a [op, op', op''] [b, c, d] pos) (tChain3 r r' r'' ta tb tc td) := by
  refine ⟨fun pins s σ H Q I h => ?_⟩
  refine Compare_chain (thn (ha.run pins s σ H _ I h) fun v s1 ⟨x, H1, I1, r1, q1⟩ => chain_link (thn (hb.run pins s1 σ H1 _ I1 q1) fun u s2 ⟨y, H2, I2, r2, q2⟩ =>
    thn (ho pins s2 σ H2 x y v u _ I2 r1 r2 q2) fun d s3 ⟨z, H3, I3, r3, k, e, q3⟩ => ?_)) hm
  subst e
  cases r3
  refine wpAny_truthy_bool ?_
  cases k with
  | false => exact ite_ff ⟨.bl false, H3, I3, rfl, q3⟩
  | true =>
    refine ite_tt (chain_link (thn (hc.run pins s3 σ H3 _ I3 q3) fun w' s4 ⟨z', H4, I4, r4, q4⟩ => thn (ho' pins s4 σ H4 y z' u w' _ I4 r2 r4 q4) fun d s5 ⟨z, H5, I5, r5, k, e, q5⟩ => ?_))
    subst e
    cases r5
    refine wpAny_truthy_bool ?_
    cases k with
    | false => exact ite_ff ⟨.bl false, H5, I5, rfl, q5⟩
    | true => exact ite_tt (chain_last (thn (hd.run pins s5 σ H5 _ I5 q5) fun w2 s6 ⟨z2, H6, I6, r6, q6⟩ => ho'' pins s6 σ H6 z' z2 w' w2 Q I6 r4 r6 q6))
/-! ### x in t, a tuple of data -/
def rInDT (K : PySem.W.Frag) (neg : Bool) : R2 := fun x y H Q => ∃ d ds, Dp K H x d ∧ Dp K H y (.tuple ds) ∧ SeqAt.shaped d = true ∧ SeqAt.shaped (.tuple ds) = true ∧ Q (.bl (if neg then !(ds.any fun z => PyData.eqv z d) else ds.any fun z => PyData.eqv z d)) H
theorem o_inDT (hu : X.A.units + 65 < cLine) (hK : X.K = K := by rfl) : OpR X (compareOp .In) (rInDT K false) := by
  subst hK
  intro pins s σ H x y v u Q I rx ry h
  obtain ⟨d, ds, hd, he, sd, se, q⟩ := h
  obtain ⟨as, r1⟩ := Dp.reads I d x v hd rx
  obtain ⟨bs, r2⟩ := Dp.reads I (.tuple ds) y u he ry
  exact SeqAt.in_tuple_reads r2 r1 (SeqAt.canLay_of_shaped se) (SeqAt.canLay_of_shaped sd) (room_in_shaped sd hu) ⟨.bl _, H, I, rfl, q⟩
theorem o_notInDT (hu : X.A.units + 65 < cLine) (hK : X.K = K := by rfl) : OpR X (compareOp .NotIn) (rInDT K true) := by
  subst hK
  intro pins s σ H x y v u Q I rx ry h
  obtain ⟨d, ds, hd, he, sd, se, q⟩ := h
  obtain ⟨as, r1⟩ := Dp.reads I d x v hd rx
  obtain ⟨bs, r2⟩ := Dp.reads I (.tuple ds) y u he ry
  exact SeqAt.notIn_tuple_reads r2 r1 (SeqAt.canLay_of_shaped se) (SeqAt.canLay_of_shaped sd) (room_in_shaped sd hu) ⟨.bl _, H, I, rfl, q⟩
theorem o_inDL (hu : X.A.units + 65 < cLine) (hK : X.K = K := by rfl) : OpR X (compareOp .In) (rInD K) := by
  subst hK
  exact op_inD hu
theorem o_notInDL (hu : X.A.units + 65 < cLine) (hK : X.K = K := by rfl) : OpR X (compareOp .NotIn) (rNotInD K) := by
  subst hK
  exact op_notInD hu
theorem o_leT (hu : X.A.units < cLine) (hK : X.K = K := by rfl) : OpR X (compareOp .LtE) (rLeT K) := by
  subst hK
  exact op_leT hu
theorem o_ltT (hu : X.A.units < cLine) (hK : X.K = K := by rfl) : OpR X (compareOp .Lt) (rLtT K) := by
  subst hK
  exact op_ltT hu
end
/-! ### t[::-1] of a tuple -/
section
variable {prog : Program} {w : World} {A : Around} {E : Value → Shared → Prop} {s : Shared}
theorem places_rev (n : Nat) : Builtin.Slice.slicePlaces ((n : Int) - 1) (-1) (-1) = n := by
  unfold Builtin.Slice.slicePlaces
  rw [if_neg (by decide)]
  by_cases h : (n : Int) - 1 > -1
  · rw [if_pos h, show (- -1 : Int) = 1 by decide, Int.ediv_one]
    omega
  · rw [if_neg h]
    omega
theorem fm_congr {α β : Type} {f g : α → Option β} : ∀ {l : List α}, (∀ x ∈ l, f x = g x) → l.filterMap f = l.filterMap g
  | [], _ => rfl
  | x :: l, h => by
    rw [List.filterMap_cons, List.filterMap_cons, h x List.mem_cons_self, fm_congr (l := l) fun y hy => h y (List.mem_cons_of_mem _ hy)]
theorem pick_rev (xs : Array Value) : ((List.range xs.size).filterMap fun (k : Nat) => xs[(((xs.size : Int) - 1) + (k : Int) * (-1)).toNat]?).toArray = xs.toList.reverse.toArray := by
  have e : ((List.range xs.size).filterMap fun (k : Nat) => xs[(((xs.size : Int) - 1) + (k : Int) * (-1)).toNat]?) = ((List.range xs.size).map fun k => xs.size - 1 - k).filterMap (xs[·]?) := by
    rw [List.filterMap_map]
    refine fm_congr fun k hk => ?_
    have := List.mem_range.mp hk
    show _ = xs[xs.size - 1 - k]?
    congr 1
    omega
  rw [e, PySem.W.krv_range, List.filterMap_reverse, PySem.W.krv_all]
theorem sliceApplied_rev {sl : Addr} {n : Nat} {u : Tok} {Q : Int × Int × Nat → Shared → Prop} (hs : s.heap.IsSliceOf sl .none .none (.int (-1) u))
    (h : Q ((n : Int) - 1, -1, n) s) :
    wpAny (model prog w) A (Builtin.Slice.sliceApplied (.ref sl) (pure (n : Int))) Q E s := by
  obtain ⟨os, hos, hcs, hds⟩ := id hs
  unfold Builtin.Slice.sliceApplied Builtin.Slice.sliceFields
  refine wpAny_bind (wpAny_bind (wpAny_field hos hds (x := .none) rfl (wpAny_bind (wpAny_field hos hds (x := .none) rfl (wpAny_bind (wpAny_field hos hds (x := .int (-1) u) rfl (wpAny_pure ?_)))))))
  refine wpAny_bind (slicePart_int ?_)
  show wpAny _ _ (if ((-1 : Int) == 0) = true then _ else _) _ _ s
  rw [if_neg (by decide)]
  refine wpAny_bind (slicePart_none (wpAny_bind (slicePart_none (wpAny_bind (wpAny_pure ?_)))))
  show wpAny _ _ (pure ((n : Int) - 1, (-1 : Int), Builtin.Slice.slicePlaces ((n : Int) - 1) (-1) (-1))) _ _ s
  rw [places_rev]
  exact wpAny_pure h
theorem getItem_tuple_rev {t sl : Addr} {items : Array Value} {u : Tok} {Q : Value → Shared → Prop} (ht : IsTup s.heap t items) (hs : s.heap.IsSliceOf sl .none .none (.int (-1) u))
    (h : Q (.ref s.heap.objs.size) { s with heap := s.heap.push { cls := .type "tuple", data := .seq items.toList.reverse.toArray } })
    (hsz : items.size ≤ sizeLine := by size_fits) : wpAny (model prog w) A (getItem (.ref t) (.ref sl)) Q E s := by
  have hdrop : sizeOk (.seq items.toList.reverse.toArray) := by
    show items.toList.reverse.toArray.size ≤ sizeLine
    rw [List.size_toArray, List.length_reverse, Array.length_toList]
    omega
  obtain ⟨os, hos, hcs, hds⟩ := id hs
  have hTs : s.TypeIs (.ref sl) "slice" := ⟨os, hos, hcs⟩
  unfold getItem
  try with_reducible refine wpAny_holding ?_
  first | refine wpAny_bind (wpAny_pure ?_) | skip
  refine wpAny_bind (wpAny_sequenceKey ht.typeIs (by decide) ?_)
  refine wpAny_bind (wpAny_callSpecial?_slot (name := Str.ofString "__getitem__") ht.typeIs slot_tuple_getitem
    (wpAny_call_entry slot_tuple_getitem ht.typeIs entry_tuple_getitem ?_ (args_tuple_getitem _ _)))
  show wpAny _ _ (Builtin.Tuple.tupleItemsOf (.ref t) >>= _) _ _ s
  refine wpAny_bind (tupleItemsOf_ ht ?_)
  refine wpAny_bind (wpAny_typeOf hTs ?_)
  rw [if_pos (by decide)]
  refine wpAny_bind (sliceApplied_rev hs ?_)
  have hno : ¬ ((((items.size : Int) - 1 == 0) && ((-1 : Int) == 1) && (items.size == items.size)) = true) := by
    cases ((items.size : Int) - 1 == 0) <;> simp
  show wpAny _ _ (if (((items.size : Int) - 1 == 0) && ((-1 : Int) == 1) && (items.size == items.size)) = true then _ else _) _ _ s
  rw [if_neg hno, pick_rev items]
  first
    | exact wpAny_bind (m := Builtin.Tuple.tupleExact _) (wpAny_newObj_type (wpAny_pure ⟨_, rfl, wpAny_pure h⟩) hdrop)
    | exact wpAny_bind (m := Builtin.Tuple.tupleExact _) (wpAny_newObj_type (wpAny_bind (wpAny_pure (wpAny_pure ⟨_, rfl, wpAny_pure h⟩))) hdrop)
    | exact wpAny_bind (wpAny_bind (m := Builtin.Tuple.tupleExact _) (wpAny_newObj_type (wpAny_pure (wpAny_pure ⟨_, rfl, wpAny_pure h⟩)) hdrop))
    | exact wpAny_bind (wpAny_bind (m := Builtin.Tuple.tupleExact _) (wpAny_newObj_type (wpAny_pure ⟨_, rfl, wpAny_pure h⟩) hdrop))
end
section
variable {X : Cx} {K : PySem.W.Frag}
def tRevT (K : PySem.W.Frag) (te : TE) : TE := fun σ H Q => te σ H fun x H1 => ∃ a xs, x = .ref a ∧ SqT K H1 a xs ∧ ∀ p, H1 p = none → Q (.ref p) (upd H1 p (.tup xs.reverse))
theorem pe_revT {e : Expr} {te : TE} {k : Nat} {p1 p2 p3 pos : Pos} (he : PE X e te) (hK : X.K = K := by rfl) : PE X (.Subscript e (.Slice none none (some (.UnaryOp .USub (.Constant (.int 1) k p1) p2)) p3) pos) (tRevT K te) := by
  subst hK
  refine ⟨fun pins s σ H Q I h => ?_⟩
  refine Subscript_ (thn (he.run pins s σ H _ I h) fun v s1 ⟨x, H1, I1, r1, q1⟩ => ?_)
  obtain ⟨a, xs, ex, hx, q⟩ := q1
  subst ex
  cases r1
  have hst : PO X (some (.UnaryOp .USub (.Constant (.int 1) k p1) p2)) (tPart (tUn (rU fun i => .int (-i)) (tC (.int 1)))) := po_some (pe_un un_neg pe_int)
  refine wpAny_Slice (thn (po_none.run pins s1 σ H1 (fun o H2 => o = none ∧ H2 = H1) I1 ⟨rfl, rfl⟩) fun vl s2 ⟨l, H2, I2, pl, el, e2⟩ => ?_)
  subst el e2
  refine thn (po_none.run pins s2 σ H2 (fun o H3 => o = none ∧ H3 = H2) I2 ⟨rfl, rfl⟩) fun vu s3 ⟨u, H3, I3, pu, eu, e3⟩ => ?_
  subst eu e3
  refine thn (hst.run pins s3 σ H3 (fun o H4 => o = some (-1) ∧ H4 = H3) I3 ⟨1, rfl, -1, rfl, rfl, rfl⟩) fun vs s4 ⟨o, H4, I4, ps, eo, e4⟩ => ?_
  subst eo e4
  have I5 : L2.Inv X pins σ H4 { s4 with heap := s4.heap.push { cls := .type "slice", data := .fields #[vl, vu, vs] } } := I4.kept (t' := s4.toks) fun b ob q => Heap.get?_push_of_some _ q
  obtain ⟨its, r, ht, hz⟩ := I5.tuple hx
  have hlen := r.length
  cases pl
  cases pu
  obtain ⟨u, es⟩ : ∃ u, vs = .int (-1) u := by
    cases ps
    exact ⟨_, rfl⟩
  subst es
  show wpAny (model X.prog X.w) X.A (subscriptTail e (.Slice none none (some (.UnaryOp .USub (.Constant (.int 1) k p1) p2)) p3) (.ref a) (.ref s4.heap.objs.size)) (EP X pins σ Q) X.xe _
  refine tail_any (ops := [.ref a, .ref s4.heap.objs.size]) ht.typeIs (slot_tuple_getitem.lookup) ?_ (by with_unfolding_all rfl)
  refine getItem_tuple_rev ht (Heap.IsSliceOf.new _ _ _ _) ?_ (by rw [List.size_toArray]; omega)
  refine ⟨.ref _, _, I5.laid (t' := s4.toks) (o := .tup xs.reverse) (fun b ob q => Heap.get?_push_of_some _ q) (Nat.le_refl _) ?_, rfl, q _ (I5.hok.fresh (Nat.le_refl _))⟩
  exact ⟨by rw [List.length_reverse]; exact hz, _, r.reverse, IsTup.new _ _⟩
end
end Bw
set_option Elab.async false
set_option linter.all false
set_option maxRecDepth 100000
set_option maxHeartbeats 4000000
/-! ### dicts whose keys are tuples: del, truth -/
namespace Bw
open PySem PySem.Spec PyProof.Rows L2
section
variable {X : Cx} {pins : List (Addr × Obj)} {σ : L2.St} {H : Hp} {s : Shared} {A : Around} {E : Value → Shared → Prop}
theorem kt_there {H : Hp} {kvs : List (List Key × V)} {xs : List (List Key × Addr × Value)} (r : KT H kvs xs) {k : List Key} (l : (valV kvs k).isSome = true) : ∃ p, atKey xs k = some p := by
  have g := r.val k
  cases e : atKey xs k with
  | some p => exact ⟨p, rfl⟩
  | none =>
    rw [e] at g
    cases ev : valV kvs k with
    | none => rw [ev] at l; cases l
    | some v => rw [ev] at g; exact (show False from g).elim
theorem delT {a b : Addr} {kvs : List (List Key × V)} {k : List Key} {Q : Unit → Shared → Prop} (room : A.units + 1 < cLine) (I : L2.Inv X pins σ H s) (ea : H a = some (.dT kvs)) (eb : H b = some (.tup (k.map kV))) (l : (valV kvs k).isSome = true)
    (q : ∀ s', L2.Inv X pins σ (upd H a (.dT (dropK kvs k))) s' → Q () s') : wpAny (model X.prog X.w) A (delItem (.ref a) (.ref b)) Q E s := by
  obtain ⟨z, hd, xs, rel, dd⟩ := dt_of I.hok ea
  obtain ⟨p, hp⟩ := kt_there rel l
  have len : xs.length ≤ sizeLine := (Paired.length rel) ▸ z
  refine wpAny_delItem_heap (tupleKind_room_in1 room) (key_of I.hok eb) hd dd hp (fun h' dd' hs => q _ ?_) len
  obtain ⟨o, es, ep, ho, g1, g2, g3, _, g4⟩ := dd'
  have keep : KT (upd H a (.dT (dropK kvs k))) (dropK kvs k) (withoutH xs k) := (DX.KT_drop k rel).keeps fun c ys ec => by
    rw [upd_ne (ne_of ec ea (fun z => nomatch z))]
    exact ec
  exact d_write I (by rw [ea]; exact True.intro) hs ⟨o, ho⟩ ⟨Nat.le_trans (dropK_le kvs k) z, hd, _, keep, o, es, ep, ho, g1, g2, g3, g4⟩
theorem truT {d : Addr} {kvs : List (List Key × V)} {Q : Bool → Shared → Prop} (I : L2.Inv X pins σ H s) (ed : H d = some (.dT kvs)) (q : ∀ s', L2.Inv X pins σ H s' → Q (!kvs.isEmpty) s') : wpAny (model X.prog X.w) A (truthy (.ref d)) Q E s := by
  obtain ⟨z, hd, xs, rel, dd⟩ := dt_of I.hok ed
  have len : xs.length = kvs.length := (Paired.length rel).symm
  have fit : (xs.length : Int) < 2 ^ 63 := by
    rw [sizeLine_eq] at z
    omega
  have ne : ((xs.length : Int) != 0) = !kvs.isEmpty := by
    rw [len]
    cases kvs with
    | nil => rfl
    | cons a r =>
      show (((r.length + 1 : Nat) : Int) != 0) = true
      rw [bne_iff_ne]
      omega
  have asked : wpAny (model X.prog X.w) A (runValue (.builtin "len" ⟨[.ref d], []⟩)) (fun r s' => (∃ t, r = .int xs.length t) ∧ Q (!kvs.isEmpty) s') E s := by
    refine wpAny_runValue (codeAny_builtin entry_len ?_)
    rw [Around.under_plainId plain_len _]
    have body := wpAny_len_body_dictH (prog := X.prog) (w := X.w) (A := A.in1) (E := E) (s := s) (Q := fun r s' => (∃ t, r = Value.int xs.length t) ∧ Q (!kvs.isEmpty) s') hd dd fit ⟨⟨_, rfl⟩, q _ (I.tok _)⟩
    exact wpAny_mono body (fun fin s' h' => by
      obtain ⟨r, rfl, hq⟩ := h'
      exact hq) fun _ _ e => e
  unfold truthy
  refine wpAny_bind (wpAny_callSpecial?_none (name := Str.ofString "__bool__") dd.typeIs noBool_dict ?_)
  refine wpAny_bind (wpAny_specialOf (name := Str.ofString "__len__") dd.typeIs F.slot_dict_len.lookup ?_)
  refine wpAny_bind (wpAny_mono asked (fun r s' h' => ?_) fun _ _ e => e)
  obtain ⟨⟨t, rfl⟩, hq⟩ := h'
  exact wpAny_pure (ne ▸ hq)
end
def sDelT (td ty : TE) : TS := fun D σ H => td σ H fun x H1 => ty σ H1 fun y H2 => ∃ (a b : Addr) (kvs : List (List Key × V)) (k : List Key), x = .ref a ∧ y = .ref b ∧ H2 a = some (.dT kvs) ∧ H2 b = some (.tup (k.map kV)) ∧ (valV kvs k).isSome = true ∧ D.nx σ (upd H2 a (.dT (dropK kvs k)))
section
variable {X : Cx} {o i a : Expr} {pos tpos : Pos} {td ty ta : TE}
theorem ps_delT (room : X.A.units + 1 < cLine) (ho : PE X o td) (hi : PE X i ty) : PS X (.Delete [.Subscript o i tpos] pos) (sDelT td ty) := by
  constructor
  intro pins s σ H D I h
  refine wpAny_Delete (wpAny_deleteEach_cons (wpAny_delete_Subscript (thn (ho.run pins s σ H _ I h) ?_)))
  rintro u s1 ⟨x, H1, I1, rx, q1⟩
  refine thn (hi.run pins s1 σ H1 _ I1 q1) ?_
  rintro iv s2 ⟨y, H2, I2, ry, d, b, kvs, k, rfl, rfl, ed, eb, l, q2⟩
  cases (show u = Value.ref d from rx)
  cases (show iv = Value.ref b from ry)
  exact delT room I2 ed eb l fun s3 I3 => wpAny_deleteEach_nil ⟨σ, _, I3, q2⟩
def tTruT (ta : TE) : TT := fun σ H Q => ta σ H fun x H' => ∃ (d : Addr) (kvs : List (List Key × V)), x = .ref d ∧ H' d = some (.dT kvs) ∧ Q (!kvs.isEmpty) H'
theorem pt_truT (ha : PE X a ta) (he : ∀ whole, isTrue a X.env whole = (do let v ← whole; standAt a.pos; holding [v] (truthy v))) : PT X a (tTruT ta) := by
  constructor
  intro pins s σ H Q I h
  refine isTrue_plain (thn (ha.run pins s σ H _ I h) ?_) (he _)
  rintro v s1 ⟨x, H1, I1, r1, d, kvs, rfl, ed, q⟩
  cases (show v = Value.ref d from r1)
  exact truT I1 ed fun s' I' => ⟨H1, I', q⟩
end
end Bw
set_option Elab.async false
set_option linter.all false
set_option maxRecDepth 100000
set_option maxHeartbeats 4000000
/-! ### {tuple: value for ..} -/
namespace Bw
open PySem PySem.Spec PyProof.Rows L2
section
variable {X : Cx}
/-- a dict that a comprehension fills, its keys tuples -/
theorem setT {pins : List (Addr × Obj)} {σ : L2.St} {H : Hp} {s : Shared} {E : Value → Shared → Prop} {D b : Addr} {kvs : List (List Key × V)} {k : List Key} {v : V} {r : Value} {Q : Unit → Shared → Prop} (room : X.A.units < cLine) (I : L2.Inv X pins σ H s) (eD : H D = some (.dT kvs)) (eb : H b = some (.tup (k.map kV))) (few : kvs.length < sizeLine) (rv : L2.RelV v r)
    (q : ∀ s', L2.Inv X pins σ (upd H D (.dT (putK kvs k v))) s' → Q () s') : wpAny (model X.prog X.w) X.A (dictSet D (.ref b) r) Q E s := by
  obtain ⟨z, hd, xs, rel, dd⟩ := dt_of I.hok eD
  have len : xs.length ≤ sizeLine := (Paired.length rel) ▸ z
  have more : (putK kvs k v).length ≤ sizeLine := by
    have := length_putK kvs k v
    omega
  refine wpAny_dictSet_heap (knd := tupleKind (mixKind X.prog X.w)) room (key_of I.hok eb) dd (fun h' dd' hs => q _ ?_) len
  obtain ⟨o, es, ep, ho, g1, g2, g3, _, g4⟩ := dd'
  have keep : KT (upd H D (.dT (putK kvs k v))) (putK kvs k v) _ := (rel.put k eb rv).keeps fun c ys ec => by
    rw [upd_ne (ne_of ec eD (fun z => nomatch z))]
    exact ec
  exact d_write I (by rw [eD]; exact True.intro) hs ⟨o, ho⟩ ⟨more, hd, _, keep, o, es, ep, ho, g1, g2, g3, g4⟩
def StepT (J : It) (g : TG) (tt : TT) (tk tv : TE) (vs : List Nat) (σ : L2.St) (D : Addr) (Q : VK) (W : Nat → Nat → Hp → Prop) : Prop := ∀ i m H, W i m H → (J.stop i H ∧ Q (.ref D) H) ∨ (J.go i H ∧ ∃ Nx : Hp → Prop, (∀ H', Nx H' → ∃ m', m' < m ∧ W (i + 1) m' H') ∧
  ∀ x H', J.yld i H x H' → g x (wipe σ vs) H' fun σ2 H2 => wipe σ2 vs = wipe σ vs ∧ tt σ2 H2 fun b H3 => if b = true then tk σ2 H3 fun y H4 => tv σ2 H4 fun z H5 => ∃ (kvs : List (List Key × V)) (k : List Key) (q : Addr), y = .ref q ∧ H5 q = some (.tup (k.map kV)) ∧ H5 D = some (.dT kvs) ∧ kvs.length < sizeLine ∧ Nx (upd H5 D (.dT (putK kvs k z))) else Nx H3)
def tDcT (wi : TI) (g : TG) (tt : TT) (tk tv : TE) (vs : List Nat) : TE := fun σ H Q => wi σ H fun J H1 => ∀ D, H1 D = none → ∃ W : Nat → Nat → Hp → Prop, (∃ m, W 0 m (upd H1 D (.dT []))) ∧ StepT J g tt tk tv vs σ D Q W
abbrev cellsOf (scope : Scope) (env : Env) (n : Nat) : List (Str × Addr) := cellsFrom (n + 1) scope.names (cloFrom env.cells scope.names [])
theorem pe_dcT {kx vx tg iter : Expr} {ifs : List Expr} {scope : Scope} {own : List (Str × Nat)} {pos : Pos} {wi : TI} {g : TG} {tt : TT} {tk tv : TE} (calm : X.calm = true) (room : X.A.units < cLine) (nd : X.N.Nodup) (pi : PI X tg iter wi) (ok : BlkOk X.N X.env.scope scope own)
    (pg : ∀ (s : Shared) (H : Hp) (C : Addr) (cl : List (Str × Addr)) (fp : List Addr), PG (X.blk s H scope (compEnvC scope cl C X.env) fp) tg g)
    (pt : ∀ (s : Shared) (H : Hp) (C : Addr) (cl : List (Str × Addr)) (fp : List Addr), PTs (X.blk s H scope (compEnvC scope cl C X.env) fp) ifs tt)
    (pk : ∀ (s : Shared) (H : Hp) (C : Addr) (cl : List (Str × Addr)) (fp : List Addr), PE (X.blk s H scope (compEnvC scope cl C X.env) fp) kx tk)
    (pv : ∀ (s : Shared) (H : Hp) (C : Addr) (cl : List (Str × Addr)) (fp : List Addr), PE (X.blk s H scope (compEnvC scope cl C X.env) fp) vx tv)
    (nf : ∀ x, foldedSetIterable iter X.env x = pure x := by intro _; rfl) : PE X (.DictComp kx vx [⟨tg, iter, ifs, 0⟩] scope pos) (tDcT wi g tt tk tv (own.map (·.2))) := by
  constructor
  intro pins s σ H Q I h
  rw [arm_eval_DictComp]
  have free : ∀ y ∈ scope.names, y.2 = .free → ∃ c, X.env.cells.lookup y.1 = some c := fun y hy e => (ok.free y hy e).elim (fun k => I.ok.has _ (.inl k)) fun k => I.ok.has _ (.inr k)
  refine wpAny_comprehension_free rfl nf (closure_ok free) ok.kind (fun y hy e => by rw [ok.uniq y hy, e]) (thn (pi.run pins s σ H _ I h) fun xv s1 hx => thn hx ?_)
  rintro itv s2 ⟨it, fp, tn, J, H2, rfl, I2, TN, st2, f2, q⟩
  refine wpAny_newObj_type (newEnv_comp ?_)
  have new : H2 s2.heap.objs.size = none := I2.hok.fresh (Nat.le_refl _)
  obtain ⟨W, ⟨m0, w0⟩, turn⟩ := q _ new
  have old : ∀ b ∈ fp, b < s2.heap.objs.size := fun b hb => (TN.obj _ _ st2 b hb).elim fun o e => Heap.lt_size e.1
  generalize eD : s2.heap.objs.size = D at new w0 turn old
  generalize e3 : ({ s2 with heap := s2.heap.push { cls := .type "dict", data := .dict #[] } } : Shared) = s3
  have hp3 : s3.heap = s2.heap.push { cls := .type "dict", data := .dict #[] } := e3 ▸ rfl
  have I3 : L2.Inv X pins σ (upd H2 D (.dT [])) s3 := by
    subst e3 eD
    exact I2.laid (t' := s2.toks) (fun b o e => Heap.get?_push_of_some _ e) (Nat.le_refl _) (dt_empty s2.heap I2.big)
  have f3 : ∀ b ∈ fp, FpOk X pins (upd H2 D (.dT [])) b ∧ b < s3.heap.objs.size := fun b hb => by
    have lt := old b hb
    have ne : b ≠ D := Nat.ne_of_lt lt
    refine ⟨⟨(upd_ne ne).trans (f2 b hb).1, (f2 b hb).2⟩, ?_⟩
    rw [hp3, Heap.size_push, eD]
    exact Nat.lt_succ_of_lt lt
  have st3 : tn 0 s3.heap := TN.keep _ _ _ st2 fun b _ o e => hp3 ▸ Heap.get?_push_of_some _ e
  have I4 := block_start I3 ok nd f3
  have pg := pg s3 (upd H2 D (.dT [])) s3.heap.objs.size (cellsOf scope X.env s3.heap.objs.size) fp
  have pt := pt s3 (upd H2 D (.dT [])) s3.heap.objs.size (cellsOf scope X.env s3.heap.objs.size) fp
  have pk := pk s3 (upd H2 D (.dT [])) s3.heap.objs.size (cellsOf scope X.env s3.heap.objs.size) fp
  have pv := pv s3 (upd H2 D (.dT [])) s3.heap.objs.size (cellsOf scope X.env s3.heap.objs.size) fp
  show codeAny _ _ (.compStart (.DictComp kx vx [⟨tg, iter, ifs, 0⟩] scope pos) 0 (.ref it) (.ref D) (compEnvC scope (cellsOf scope X.env s3.heap.objs.size) s3.heap.objs.size X.env)) _ { s3 with heap := pushCells (s3.heap.push { cls := .type "dict", data := .dict #[] }) scope.names }
  have none3 : ∀ b ∈ fp, (upd H2 D (.dT [])) b = none := fun b hb => (f3 b hb).1.1
  generalize ec : compEnvC scope (cellsOf scope X.env s3.heap.objs.size) s3.heap.objs.size X.env = ce at I4 pg pt pk pv ⊢
  have loc : ce.locals = s3.heap.objs.size := ec ▸ rfl
  generalize upd H2 D (.dT []) = H3 at I3 I4 pg pt pk pv w0 none3 f3
  generalize e4 : ({ s3 with heap := pushCells (s3.heap.push { cls := .type "dict", data := .dict #[] }) scope.names } : Shared) = s4 at I4 ⊢
  have st4 : tn 0 s4.heap := TN.keep _ _ _ st3 fun b _ o e => e4 ▸ pushCells_keeps _ _ _ _ (Heap.get?_push_of_some _ e)
  have apart : ∀ {σ' : L2.St} {H' : Hp} {s' : Shared}, L2.Inv (X.blk s3 H3 scope ce fp) [] σ' H' s' → (∀ b ∈ fp, H' b = none) → ∀ b ∈ fp, FpOk (X.blk s3 H3 scope ce fp) [] H' b := fun I' n b hb =>
    ⟨n b hb, (I'.ok.exf b hb).1, I'.ok.exfs b hb, .inl hb, fun x c e => (I'.ok.exf b hb).2 x c e, fun p hp => absurd hp (by simp)⟩
  have loop : codeAny (model X.prog X.w) X.A (.compLoop (.DictComp kx vx [⟨tg, iter, ifs, 0⟩] scope pos) 0 (.ref it) (.ref D) ce) (compPost (model X.prog X.w) X.A X.xe none (EP X pins σ Q) (.ref D) s3.heap.objs.size) s4 := by
    refine compLoop_anyD (fun n s' => ∃ i H', L2.Inv (X.blk s3 H3 scope ce fp) [] (wipe σ (own.map (·.2))) H' s' ∧ tn i s'.heap ∧ (∀ b ∈ fp, H' b = none) ∧ W i n H') ?_ m0 ⟨0, H3, I4, st4, none3, w0⟩
    rintro n s5 ⟨i, H5, I5, st5, n5, w5⟩
    rcases turn i n H5 w5 with ⟨stop, qq⟩ | ⟨go, Nx, less, step⟩
    · refine thnF (TN.done (X.blk s3 H3 scope ce fp) rfl rfl rfl calm i [] s5 _ H5 (fun _ _ => False) I5 (apart I5 n5) st5 stop) ?_
      rintro r s6 ⟨rfl, I6⟩
      have I7 : L2.Inv X pins σ H5 s6 := I3.call' (ch := fp) I6.os I6.base I6.hok I6.bare fun b hb => ⟨(f3 b hb).1.2.2.2.1, (f3 b hb).1.2.1, (f3 b hb).1.2.2.2.2.1, (f3 b hb).1.2.2.2.2.2⟩
      have no : H5 s3.heap.objs.size = none := loc ▸ (show H5 ce.locals = none from I6.free)
      obtain ⟨m, hn, _⟩ := I6.loc
      have hn : s6.heap.Ns s3.heap.objs.size m := loc ▸ (show s6.heap.Ns ce.locals m from hn)
      obtain ⟨c0, c1, c2, c3, c4, c5⟩ := I3.fpOk (Nat.le_refl _) no
      exact ⟨m, hn, fun h'' sb => ⟨.ref D, H5, I7.turned (t' := s6.toks) (fun b o hb e => (sb.2 b hb).trans e) c0 c1 c3 c4 c5, rfl, qq⟩⟩
    · refine thnF (TN.item (X.blk s3 H3 scope ce fp) rfl rfl rfl calm i [] s5 _ H5 (fun _ _ => False) I5 (apart I5 n5) st5 go) ?_
      rintro r s6 ⟨u, rfl, h6⟩
      refine thnF h6 ?_
      rintro _ s7 ⟨x, H7, I7, r7, y7, st7, n7⟩
      refine thnF (pg.run _ s7 _ H7 x u _ (I7.pinned (apart I7 n7) (TN.obj _ _ st7)) r7 (step x H7 y7)) ?_
      rintro _ s8 ⟨σ8, H8, I8, hw, q8⟩
      refine thnF (pt.run _ s8 σ8 H8 _ I8 q8) ?_
      rintro b s9 ⟨H9, I9, q9⟩
      have fin : ∀ {s' : Shared} {H' : Hp}, L2.Inv (X.blk s3 H3 scope ce fp) ([] ++ pinsAt fp s7.heap) σ8 H' s' → Nx H' → ∃ m, m < n ∧ ∃ i H', L2.Inv (X.blk s3 H3 scope ce fp) [] (wipe σ (own.map (·.2))) H' s' ∧ tn i s'.heap ∧ (∀ b ∈ fp, H' b = none) ∧ W i m H' := by
        intro s' H' I' nx
        obtain ⟨m', lt, w'⟩ := less H' nx
        have pin : ∀ b ∈ fp, ∀ o, s7.heap.get? b = some o → s'.heap.get? b = some o ∧ H' b = none := fun b hb o e => by
          have z := I'.pin (b, o) (List.mem_append_right _ (List.mem_append_right _ (mem_pinsAt hb e)))
          exact ⟨z.1, z.2.1⟩
        have same : (wipe σ (own.map (·.2))).length = σ8.length := by rw [← hw, wipe_length]
        refine ⟨m', lt, i + 1, H', (I'.unpinned (pins := [])).weak same fun j v e => (wipe_some (hw.symm ▸ e)).1, TN.keep _ _ _ st7 fun b hb o e => (pin b hb o e).1, fun b hb => ?_, w'⟩
        obtain ⟨o, e, _⟩ := TN.obj _ _ st7 b hb
        exact (pin b hb o e).2
      cases b with
      | false =>
        rw [if_neg (by decide)] at q9
        exact fin I9 q9
      | true =>
        rw [if_pos rfl] at q9
        refine thnF (pk.run _ s9 σ8 H9 _ I9 q9) ?_
        rintro z s10 ⟨yk, H10, I10, r10, q10⟩
        refine thnF (pv.run _ s10 σ8 H10 _ I10 q10) ?_
        rintro z2 s11 ⟨yv, H11, I11, r11, kvs, k, qa, rfl, eq, eD11, few, nx⟩
        cases (show z = Value.ref qa from r10)
        exact setT (X := X.blk s3 H3 scope ce fp) room I11 eD11 eq few r11 fun s12 I12 => fin I12 nx
  exact codeAny_compStart_dict loop (TN.self X.A 0 _ _ _ st4 loop)
end
end Bw
set_option Elab.async false
set_option linter.all false
set_option maxRecDepth 100000
set_option maxHeartbeats 4000000
/-! ### name = {tuple: value for ..} on one line, the name a local -/
namespace Bw
open PySem PySem.Spec PyProof.Rows L2
section
variable {X : Cx}
theorem dcT_core {pins : List (Addr × Obj)} {s : Shared} {σ : L2.St} {H : Hp} {Q : VK} {kx vx tg iter : Expr} {ifs : List Expr} {scope : Scope} {own : List (Str × Nat)} {pos pos' : Pos} {wi : TI} {g : TG} {tt : TT} {tk tv : TE} {use : Option (Value → Sem Unit)} {Qf : Value → Shared → Prop} (calm : X.calm = true) (room : X.A.units < cLine) (nd : X.N.Nodup) (I : L2.Inv X pins σ H s) (pi : PI X tg iter wi) (ok : BlkOk X.N X.env.scope scope own)
    (pg : ∀ (s : Shared) (H : Hp) (C : Addr) (cl : List (Str × Addr)) (fp : List Addr), PG (X.blk s H scope (compEnvC scope cl C X.env) fp) tg g)
    (pt : ∀ (s : Shared) (H : Hp) (C : Addr) (cl : List (Str × Addr)) (fp : List Addr), PTs (X.blk s H scope (compEnvC scope cl C X.env) fp) ifs tt)
    (pk : ∀ (s : Shared) (H : Hp) (C : Addr) (cl : List (Str × Addr)) (fp : List Addr), PE (X.blk s H scope (compEnvC scope cl C X.env) fp) kx tk)
    (pv : ∀ (s : Shared) (H : Hp) (C : Addr) (cl : List (Str × Addr)) (fp : List Addr), PE (X.blk s H scope (compEnvC scope cl C X.env) fp) vx tv)
    (nf : ∀ x, foldedSetIterable iter X.env x = pure x) (h : tDcT wi g tt tk tv (own.map (·.2)) σ H Q)
    (hRR : ∀ D C s' m H', L2.Inv X pins σ H' s' → Q (.ref D) H' → s'.heap.Ns C m → FpOk X pins H' C → compPost (model X.prog X.w) X.A X.xe use Qf (.ref D) C (.ok .next) s') :
    wpAny (model X.prog X.w) X.A (comprehension (.DictComp kx vx [⟨tg, iter, ifs, 0⟩] scope pos) scope X.env pos' newDict false (eval iter X.env) use) Qf X.xe s := by
  have free : ∀ y ∈ scope.names, y.2 = .free → ∃ c, X.env.cells.lookup y.1 = some c := fun y hy e => (ok.free y hy e).elim (fun k => I.ok.has _ (.inl k)) fun k => I.ok.has _ (.inr k)
  refine wpAny_comprehension_free (use := use) rfl nf (closure_ok free) ok.kind (fun y hy e => by rw [ok.uniq y hy, e]) (thn (pi.run pins s σ H _ I h) fun xv s1 hx => thn hx ?_)
  rintro itv s2 ⟨it, fp, tn, J, H2, rfl, I2, TN, st2, f2, q⟩
  refine wpAny_newObj_type (newEnv_comp ?_)
  have new : H2 s2.heap.objs.size = none := I2.hok.fresh (Nat.le_refl _)
  obtain ⟨W, ⟨m0, w0⟩, turn⟩ := q _ new
  have old : ∀ b ∈ fp, b < s2.heap.objs.size := fun b hb => (TN.obj _ _ st2 b hb).elim fun o e => Heap.lt_size e.1
  generalize eD : s2.heap.objs.size = D at new w0 turn old
  generalize e3 : ({ s2 with heap := s2.heap.push { cls := .type "dict", data := .dict #[] } } : Shared) = s3
  have hp3 : s3.heap = s2.heap.push { cls := .type "dict", data := .dict #[] } := e3 ▸ rfl
  have I3 : L2.Inv X pins σ (upd H2 D (.dT [])) s3 := by
    subst e3 eD
    exact I2.laid (t' := s2.toks) (fun b o e => Heap.get?_push_of_some _ e) (Nat.le_refl _) (dt_empty s2.heap I2.big)
  have f3 : ∀ b ∈ fp, FpOk X pins (upd H2 D (.dT [])) b ∧ b < s3.heap.objs.size := fun b hb => by
    have lt := old b hb
    have ne : b ≠ D := Nat.ne_of_lt lt
    refine ⟨⟨(upd_ne ne).trans (f2 b hb).1, (f2 b hb).2⟩, ?_⟩
    rw [hp3, Heap.size_push, eD]
    exact Nat.lt_succ_of_lt lt
  have st3 : tn 0 s3.heap := TN.keep _ _ _ st2 fun b _ o e => hp3 ▸ Heap.get?_push_of_some _ e
  have I4 := block_start I3 ok nd f3
  have pg := pg s3 (upd H2 D (.dT [])) s3.heap.objs.size (cellsOf scope X.env s3.heap.objs.size) fp
  have pt := pt s3 (upd H2 D (.dT [])) s3.heap.objs.size (cellsOf scope X.env s3.heap.objs.size) fp
  have pk := pk s3 (upd H2 D (.dT [])) s3.heap.objs.size (cellsOf scope X.env s3.heap.objs.size) fp
  have pv := pv s3 (upd H2 D (.dT [])) s3.heap.objs.size (cellsOf scope X.env s3.heap.objs.size) fp
  show codeAny _ _ (.compStart (.DictComp kx vx [⟨tg, iter, ifs, 0⟩] scope pos) 0 (.ref it) (.ref D) (compEnvC scope (cellsOf scope X.env s3.heap.objs.size) s3.heap.objs.size X.env)) _ { s3 with heap := pushCells (s3.heap.push { cls := .type "dict", data := .dict #[] }) scope.names }
  have none3 : ∀ b ∈ fp, (upd H2 D (.dT [])) b = none := fun b hb => (f3 b hb).1.1
  generalize ec : compEnvC scope (cellsOf scope X.env s3.heap.objs.size) s3.heap.objs.size X.env = ce at I4 pg pt pk pv ⊢
  have loc : ce.locals = s3.heap.objs.size := ec ▸ rfl
  generalize upd H2 D (.dT []) = H3 at I3 I4 pg pt pk pv w0 none3 f3
  generalize e4 : ({ s3 with heap := pushCells (s3.heap.push { cls := .type "dict", data := .dict #[] }) scope.names } : Shared) = s4 at I4 ⊢
  have st4 : tn 0 s4.heap := TN.keep _ _ _ st3 fun b _ o e => e4 ▸ pushCells_keeps _ _ _ _ (Heap.get?_push_of_some _ e)
  have apart : ∀ {σ' : L2.St} {H' : Hp} {s' : Shared}, L2.Inv (X.blk s3 H3 scope ce fp) [] σ' H' s' → (∀ b ∈ fp, H' b = none) → ∀ b ∈ fp, FpOk (X.blk s3 H3 scope ce fp) [] H' b := fun I' n b hb =>
    ⟨n b hb, (I'.ok.exf b hb).1, I'.ok.exfs b hb, .inl hb, fun x c e => (I'.ok.exf b hb).2 x c e, fun p hp => absurd hp (by simp)⟩
  have loop : codeAny (model X.prog X.w) X.A (.compLoop (.DictComp kx vx [⟨tg, iter, ifs, 0⟩] scope pos) 0 (.ref it) (.ref D) ce) (compPost (model X.prog X.w) X.A X.xe use Qf (.ref D) s3.heap.objs.size) s4 := by
    refine compLoop_anyD (fun n s' => ∃ i H', L2.Inv (X.blk s3 H3 scope ce fp) [] (wipe σ (own.map (·.2))) H' s' ∧ tn i s'.heap ∧ (∀ b ∈ fp, H' b = none) ∧ W i n H') ?_ m0 ⟨0, H3, I4, st4, none3, w0⟩
    rintro n s5 ⟨i, H5, I5, st5, n5, w5⟩
    rcases turn i n H5 w5 with ⟨stop, qq⟩ | ⟨go, Nx, less, step⟩
    · refine thnF (TN.done (X.blk s3 H3 scope ce fp) rfl rfl rfl calm i [] s5 _ H5 (fun _ _ => False) I5 (apart I5 n5) st5 stop) ?_
      rintro r s6 ⟨rfl, I6⟩
      have I7 : L2.Inv X pins σ H5 s6 := I3.call' (ch := fp) I6.os I6.base I6.hok I6.bare fun b hb => ⟨(f3 b hb).1.2.2.2.1, (f3 b hb).1.2.1, (f3 b hb).1.2.2.2.2.1, (f3 b hb).1.2.2.2.2.2⟩
      have no : H5 s3.heap.objs.size = none := loc ▸ (show H5 ce.locals = none from I6.free)
      obtain ⟨m, hn, _⟩ := I6.loc
      have hn : s6.heap.Ns s3.heap.objs.size m := loc ▸ (show s6.heap.Ns ce.locals m from hn)
      exact hRR D _ s6 m H5 I7 qq hn (I3.fpOk (Nat.le_refl _) no)
    · refine thnF (TN.item (X.blk s3 H3 scope ce fp) rfl rfl rfl calm i [] s5 _ H5 (fun _ _ => False) I5 (apart I5 n5) st5 go) ?_
      rintro r s6 ⟨u, rfl, h6⟩
      refine thnF h6 ?_
      rintro _ s7 ⟨x, H7, I7, r7, y7, st7, n7⟩
      refine thnF (pg.run _ s7 _ H7 x u _ (I7.pinned (apart I7 n7) (TN.obj _ _ st7)) r7 (step x H7 y7)) ?_
      rintro _ s8 ⟨σ8, H8, I8, hw, q8⟩
      refine thnF (pt.run _ s8 σ8 H8 _ I8 q8) ?_
      rintro b s9 ⟨H9, I9, q9⟩
      have fin : ∀ {s' : Shared} {H' : Hp}, L2.Inv (X.blk s3 H3 scope ce fp) ([] ++ pinsAt fp s7.heap) σ8 H' s' → Nx H' → ∃ m, m < n ∧ ∃ i H', L2.Inv (X.blk s3 H3 scope ce fp) [] (wipe σ (own.map (·.2))) H' s' ∧ tn i s'.heap ∧ (∀ b ∈ fp, H' b = none) ∧ W i m H' := by
        intro s' H' I' nx
        obtain ⟨m', lt, w'⟩ := less H' nx
        have pin : ∀ b ∈ fp, ∀ o, s7.heap.get? b = some o → s'.heap.get? b = some o ∧ H' b = none := fun b hb o e => by
          have z := I'.pin (b, o) (List.mem_append_right _ (List.mem_append_right _ (mem_pinsAt hb e)))
          exact ⟨z.1, z.2.1⟩
        have same : (wipe σ (own.map (·.2))).length = σ8.length := by rw [← hw, wipe_length]
        refine ⟨m', lt, i + 1, H', (I'.unpinned (pins := [])).weak same fun j v e => (wipe_some (hw.symm ▸ e)).1, TN.keep _ _ _ st7 fun b hb o e => (pin b hb o e).1, fun b hb => ?_, w'⟩
        obtain ⟨o, e, _⟩ := TN.obj _ _ st7 b hb
        exact (pin b hb o e).2
      cases b with
      | false =>
        rw [if_neg (by decide)] at q9
        exact fin I9 q9
      | true =>
        rw [if_pos rfl] at q9
        refine thnF (pk.run _ s9 σ8 H9 _ I9 q9) ?_
        rintro z s10 ⟨yk, H10, I10, r10, q10⟩
        refine thnF (pv.run _ s10 σ8 H10 _ I10 q10) ?_
        rintro z2 s11 ⟨yv, H11, I11, r11, kvs, k, qa, rfl, eq, eD11, few, nx⟩
        cases (show z = Value.ref qa from r10)
        exact setT (X := X.blk s3 H3 scope ce fp) room I11 eD11 eq few r11 fun s12 I12 => fin I12 nx
  exact codeAny_compStart_dict loop (TN.self X.A 0 _ _ _ st4 loop)
theorem ps_setDcT {i : Nat} {y : Str} {py : Pos} {kx vx tg iter : Expr} {ifs : List Expr} {scope : Scope} {own : List (Str × Nat)} {pos spos : Pos} {wi : TI} {g : TG} {tt : TT} {tk tv : TE} (calm : X.calm = true) (room : X.A.units < cLine) (nd : X.N.Nodup) (hy : X.N[i]? = some y) (hyl : X.env.scope.names.lookup y = some .local)
    (hsw : swapsWith (.DictComp kx vx [⟨tg, iter, ifs, 0⟩] scope pos) (some (.Name y py)) spos.line X.env = pure true) (pi : PI X tg iter wi) (ok : BlkOk X.N X.env.scope scope own)
    (pg : ∀ (s : Shared) (H : Hp) (C : Addr) (cl : List (Str × Addr)) (fp : List Addr), PG (X.blk s H scope (compEnvC scope cl C X.env) fp) tg g)
    (pt : ∀ (s : Shared) (H : Hp) (C : Addr) (cl : List (Str × Addr)) (fp : List Addr), PTs (X.blk s H scope (compEnvC scope cl C X.env) fp) ifs tt)
    (pk : ∀ (s : Shared) (H : Hp) (C : Addr) (cl : List (Str × Addr)) (fp : List Addr), PE (X.blk s H scope (compEnvC scope cl C X.env) fp) kx tk)
    (pv : ∀ (s : Shared) (H : Hp) (C : Addr) (cl : List (Str × Addr)) (fp : List Addr), PE (X.blk s H scope (compEnvC scope cl C X.env) fp) vx tv)
    (nf : ∀ x, foldedSetIterable iter X.env x = pure x := by intro _; rfl) : PS X (.Assign [.Name y py] (.DictComp kx vx [⟨tg, iter, ifs, 0⟩] scope pos) spos) (tAsg (tDcT wi g tt tk tv (own.map (·.2))) (gName i)) := by
  refine ⟨fun pins s σ H D I h => ?_⟩
  rw [exec_Assign_Name_used _ _ _ _ hsw]
  refine wpAny_bind (wpAny_standAt (wpAny_bind ?_))
  show wpAny _ X.A (do let _ ← comprehension (.DictComp kx vx [⟨tg, iter, ifs, 0⟩] scope pos) scope X.env (firstIterPos [⟨tg, iter, ifs, 0⟩] pos) newDict false (eval iter X.env) (some (assign (.Name y py) X.env))) _ _ s
  have h : tDcT wi g tt tk tv (own.map (·.2)) σ H (fun x H1 => gName i x σ H1 D.nx) := h
  refine wpAny_bind (thn (dcT_core (Qf := fun _ s' => SP X pins D .next s') calm room nd I pi ok pg pt pk pv nf h fun L C s' m H' I' q hn f => ?_) fun _ s' hq => wpAny_pure (wpAny_pure hq))
  show wpAny _ _ (assign (.Name y py) X.env (.ref L)) _ _ _
  refine wpAny_assign_Name (store_ok2 (v := V.ref L) I' nd hy (.inl hyl) rfl (fun s2 I2 ⟨a, sb, ha⟩ => ?_) (.inr hyl))
  obtain ⟨f0, f1, f2, f3, f4, f5⟩ := f
  have haC : C ≠ a := by
    rcases ha with z | z
    · rw [z]; exact f1
    · exact fun e => f4 y a z e.symm
  refine ⟨m, hn.sameBut sb haC, fun h3 sb3 => ?_⟩
  exact ⟨_, H', I2.turned (t' := s2.toks) (fun b o hb e => (sb3.2 b hb).trans e) f0 f1 f3 f4 f5, q⟩
theorem sw_trueD {kx vx : Expr} {gs : List Comprehension} {scope : Scope} {pos py : Pos} {y : Str} {l : Nat} {env : Env} (hk : env.scope.kind = .function) (hy : env.scope.names.lookup y = some .local) (hl : (py.line == pos.line) = true)
    (ha : (scope.names.any fun (n, k) => n == y && (k == .local || k == .cell)) = false) : swapsWith (.DictComp kx vx gs scope pos) (some (.Name y py)) l env = pure true := by
  have ky : env.kindOf y = some .local := hy
  have hb : env.blockKind = .function := by unfold Env.blockKind; rw [hk]; rfl
  unfold swapsWith
  simp only [hb, ky, ha, Expr.pos, hl]
  rfl
end
end Bw
set_option Elab.async false
set_option linter.all false
set_option maxRecDepth 100000
set_option maxHeartbeats 4000000
namespace Bw
open PySem PySem.Spec PyProof.Rows L2 LamX
/-! ### try: .. except x as n: .. and more clauses, where the first one takes whatever is raised -/
def wAs1 (K : PySem.W.Frag) (c : Value) (i : Nat) (ts : Addr → Value → Option Addr → TS) (D : Ends) : WX := fun cls d σ H =>
  PySem.W.exmOne K cls c = some true ∧ ∀ a, H a = none → ts a cls d { nx := fun σ' H' => D.nx (σ'.set i none) H', rt := D.rt, bk := fun σ' H' => D.bk (σ'.set i none) H', ct := fun σ' H' => D.ct (σ'.set i none) H' } (σ.set i (some (.ref a))) H
theorem ps_try_as1 {X : Cx} {x n : Str} {c : Value} {i : Nat} {body suite : List Stmt} {b₀ : Stmt} {np pos pos' : Pos} {tb : WX → TS} {ts : Addr → Value → Option Addr → TS} {hds : List ExceptHandler} (hs : X.stack = X.env :: X.outer) (hf : X.env.frame = some X.env.locals) (hN : X.N.Nodup) (hi : X.N[i]? = some n) (hln : X.env.kindOf n = some .local) (hc : Names X x c)
    (hb : ∀ (W : WX) (pn : List (Addr × Obj)) (xe : Value → Shared → Prop), Takes (X.tr pn xe) W → PassesOwn (model X.prog X.w) X.A X.env xe → PSs (X.tr pn xe) body (tb W))
    (hsu : ∀ (a : Addr) (oe : Obj) (cls : Value) (d : Option Addr) (pn : List (Addr × Obj)), Zc cls d oe → (∃ vs, oe.data = .fields vs) → PSs (X.suite a ((a, oe) :: pn)) (b₀ :: suite) (ts a cls d)) :
    PS X (.Try body (.ExceptHandler (some (.Name x np)) (some n) (b₀ :: suite) pos' :: hds) [] [] pos) (fun D σ H => tb (wAs1 X.K c i ts D) D σ H) := by
  refine ⟨fun pins s σ H D I h => ?_⟩
  have ok := I.ok
  have hfr : X.A.frames = some (X.env :: X.outer) := by rw [ok.frames, hs]
  have hloc : Loc X.env.scope n := .inl hln
  refine wpAny_Try_except ?_
  refine wpAny_mono ((hb (wAs1 X.K c i ts D) (X.pn ++ pins) (fun e s₁ => wpAny (model X.prog X.w) X.A (noteFrame e X.env) (fun _ s₂ => wpAny (model X.prog X.w) X.A (setFlight e none) (fun _ s₃ => wpAny (model X.prog X.w) X.A (handleBy e X.env (.ExceptHandler (some (.Name x np)) (some n) (b₀ :: suite) pos' :: hds)) (SP X pins D) X.xe s₃) X.xe s₂) X.xe s₁) (fun u s' xx => ?_) PassesOwn.looking).run [] s σ H D (I.toTry _) h) (fun f s1 hsp => ?_) (fun e s1 he => he)
  · obtain ⟨a, B, sI, pins', σ', H', cls, d, rfl, J', nb, up, sky, na, os, ag, hb1, hyes⟩ := xx
    have J : L2.Inv X pins σ' H' sI := J'.ofTry ok
    have sky' : Sky B (X.env :: X.outer) a (Zc cls d) X.env.locals s'.heap := by rw [← hs]; exact sky
    show wpAny (model X.prog X.w) X.A (noteFrame (.ref a) X.env) _ _ _
    refine Sky.land Zc.steady hfr hf sky' fun h3 fl3 up3 => ?_
    have J3 : L2.Inv X pins σ' H' { s' with heap := h3 } := J.landed nb fl3.1 (up.trans up3) os ag
    obtain ⟨oe3, vs3, he3, hz3, hd3⟩ := fl3.there
    have nfr : a ∉ frs (X.env :: X.outer) := fun hm => by
      obtain ⟨_, o', e', hnf⟩ := fl3.2.2.1.mem hm
      rw [he3] at e'; cases e'
      exact hnf _ hd3
    have nL : a ≠ X.env.locals := fun z => nfr (List.mem_filterMap.mpr ⟨X.env, List.mem_cons_self, by rw [hf, z]⟩)
    have nF : a ∉ X.fs := fun hm => by
      obtain ⟨e, he, q⟩ := List.mem_filterMap.mp hm
      exact nfr (List.mem_filterMap.mpr ⟨e, List.mem_cons_of_mem _ he, q⟩)
    have S3 := J3.suite he3 hd3 na nL nF
    refine wpAny_handleBy_cons (codeAny_handlers_test ?_) (by intro q; cases q)
    have LT : PySem.W.Looks (model X.prog X.w) h3 (typeOf (.ref a)) cls := fun A Q E s k q => wpAny_typeOf_ref (k _ _ he3) (by rw [hz3.1]; exact q)
    have LM := PySem.W.exm_one (M := model X.prog X.w) (J3.kIn) LT hb1
    have test : ∀ {Q : Value → Shared → Prop} {E : Value → Shared → Prop}, Q c { s' with heap := h3 } → wpAny (model X.prog X.w) (X.A.mark (some (.ref a))) (eval (.Name x np) X.env) Q E { s' with heap := h3 } := fun {Q E} q => by
      obtain ⟨hg, hdbg, hm | ⟨hm, hv, hnn⟩⟩ := hc
      · exact ld_glob (X := X.suite a ((a, oe3) :: (X.pn ++ pins))) S3 hg hm q hdbg
      · exact ld_blt (X := X.suite a ((a, oe3) :: (X.pn ++ pins))) S3 hg hm hv q hnn hdbg
    refine test (LM.here ?_)
    refine codeAny_handlers_suite_as ?_
    refine HandSPX.lands_againZ fl3 fun h4 fl4 up4 => ?_
    have J4 : L2.Inv X pins σ' H' { s' with heap := h4 } := J.landed nb fl4.1 ((up.trans up3).trans up4) os ag
    obtain ⟨oe4, vs4, he4, hz4, hd4⟩ := fl4.there
    have S4 := J4.suite he4 hd4 na nL nF
    refine store_ok (X := X.suite a ((a, oe4) :: (X.pn ++ pins))) (v := .ref a) S4 hN hi hloc rfl (fun s5 S5 => ?_) (.inr hln)
    refine wpAny_mono ((hsu a oe4 cls d (X.pn ++ pins) hz4 ⟨_, hd4⟩).run [] s5 _ H' _ S5 (hyes a na)) (fun f s6 hsp => ?_) (fun _ _ z => False.elim z)
    have end_ : ∀ {σ6 : L2.St} {H6 : Hp} {Q : Shared → Prop}, L2.Inv (X.suite a ((a, oe4) :: (X.pn ++ pins))) [] σ6 H6 s6 → (∀ s7, L2.Inv X pins (σ6.set i none) H6 s7 → Q s7) → wpAny (model X.prog X.w) X.A (do bindName X.env n .none; unbindBehindTheSuite X.env n pos') (fun _ s7 => Q s7) X.xe s6 := fun {σ6 H6 Q} S6 hq => gone_ok (S6.unsuite ok) hN hi hln hq
    cases f with
    | next => exact let ⟨σ6, H6, S6, q6⟩ := hsp; end_ S6 fun s7 J7 => ⟨_, _, J7, q6⟩
    | brk => exact let ⟨σ6, H6, S6, q6⟩ := hsp; end_ S6 fun s7 J7 => ⟨_, _, J7, q6⟩
    | cont => exact let ⟨σ6, H6, S6, q6⟩ := hsp; end_ S6 fun s7 J7 => ⟨_, _, J7, q6⟩
    | ret u => exact let ⟨v6, σ6, H6, S6, r6, q6⟩ := hsp; end_ S6 fun s7 J7 => ⟨_, _, _, J7, r6, q6⟩
  · cases f with
    | next => exact let ⟨σ', H', J', q⟩ := hsp; wpAny_execs_nil ⟨σ', H', J'.ofTry ok, q⟩
    | brk => exact let ⟨σ', H', J', q⟩ := hsp; ⟨σ', H', J'.ofTry ok, q⟩
    | cont => exact let ⟨σ', H', J', q⟩ := hsp; ⟨σ', H', J'.ofTry ok, q⟩
    | ret u => exact let ⟨v, σ', H', J', r, q⟩ := hsp; ⟨v, σ', H', J'.ofTry ok, r, q⟩
/-! ### e.n of a caught error whose class is known only then -/
def tXfD (K : PySem.W.Frag) (a : Addr) (cls : Value) (d : Option Addr) (n : Str) (i : Nat) : TE := fun σ H Q => σ[i]? = some (some (.ref a)) ∧ ∃ (C dd : Addr) (fs : List (Str × V)) (v : V), cls = .ref C ∧ XfC K C ∧ PySem.W.findIn K (.ref C) n = some none ∧ d = some dd ∧ H dd = some (.xd fs) ∧ fs.lookup n = some v ∧ Q v H
theorem pe_xfD {X : Cx} {a : Addr} {oe : Obj} {cls : Value} {d : Option Addr} {pn : List (Addr × Obj)} {e : Expr} {i : Nat} {pos : Pos} {n : Str} (hz : Zc cls d oe) (hf : ∃ vs, oe.data = .fields vs) (he : PE (X.suite a ((a, oe) :: pn)) e (tVar i)) (hb : attributeBase e n X.env (eval e X.env) = eval e X.env := by rfl) :
    PE (X.suite a ((a, oe) :: pn)) (.Attribute e n pos) (tXfD X.K a cls d n i) := by
  refine ⟨fun pins s σ H Q I h => ?_⟩
  obtain ⟨h1, C, dd, fs, v, rfl, T, hno, rfl, h2, h3, q⟩ := h
  exact (pe_xf T hno hz hf he hb).run pins s σ H Q I ⟨.ref a, h1, rfl, rfl, dd, fs, v, rfl, h2, h3, q⟩
/-! ### the word of a refusal, or none -/
/-- an error that a call may let out, with its word -/
def ErrAt (K : PySem.W.Frag) (CB : Addr) (cls : Value) (d : Option Addr) (H : Hp) (v : V) : Prop := ∃ (C dd : Addr) (fs : List (Str × V)), cls = .ref C ∧ d = some dd ∧ PySem.W.exmOne K (.ref C) (.ref CB) = some true ∧ XfC K C ∧ PySem.W.findIn K (.ref C) "word" = some none ∧ H dd = some (.xd fs) ∧ fs.lookup ("word" : Str) = some v
def TWord (K : PySem.W.Frag) (CB : Addr) : (XK → Hp → VK → Prop) → Hp → VK → Prop := fun tl H Q => tl (fun cls d H' => ∃ v, ErrAt K CB cls d H' v ∧ Q v H') H (fun _ H' => Q (.str "") H')
theorem takes_len {X : Cx} {W : WX} (tk : Takes X W) : Takes X (fun cls d σ H => σ.length = X.N.length → W cls d σ H) := fun u s' xx => by
  obtain ⟨a, B, sI, pins', σ', H', cls, d, rfl, J', nb, up, sky, na, os, ag, hw⟩ := xx
  exact tk _ _ ⟨a, B, sI, pins', σ', H', cls, d, rfl, J', nb, up, sky, na, os, ag, hw J'.len⟩
theorem word_gives {X : Cx} {Ng : List Str} {x a q : Str} {sg : Scope} {g CB : Addr} {cdg : Value} {j : Nat} {h2 : ExceptHandler} {p1 p2 p3 p4 p5 p6 p7 p8 p9 p10 p11 : Pos} (hge : sg.names.lookup ("BudError" : Str) = some .globalImplicit) (hme : X.mg "BudError" = some (.ref CB)) (hNd : Ng.Nodup) (hN1 : Ng[1]? = some ("e" : Str)) (hk : sg.names.lookup ("e" : Str) = some .local)
    (h0 : ∀ f : Addr, (L2.start Ng [V.ref f])[0]? = some (some (V.ref f))) :
    GivesTo X Ng x sg g cdg [.Try [.Expr (.Call (.Name a p1) [] [] p2) p3] [.ExceptHandler (some (.Name "BudError" p4)) (some "e") [.Return (some (.Attribute (.Name "e" p5) "word" p6)) p7] p8, h2] [] [] p9, .Return (some (.Constant (.str "") j p10)) p11] a q (TWord X.K CB) := by
  intro f c' s H Q tl act hc h
  have hgl : Gl (cxOf C8.CX0 X.prog X.w X.K X.mg X.base Ng x sg g cdg X.A X.stack s H C8.E0).nox "BudError" := hge
  refine ⟨_, pss_cons (ps_try_as1 (X := (cxOf C8.CX0 X.prog X.w X.K X.mg X.base Ng x sg g cdg X.A X.stack s H C8.E0).nox) (c := .ref CB) (i := 1)
      (tb := fun W D σ H => ∃ Ech : XK, (∀ cls d σ' H', Ech cls d H' → σ'.length = Ng.length → W cls d σ' H') ∧ σ[0]? = some (some (.ref f)) ∧ H c' = some (CodeO c' q) ∧ tl Ech H fun _ H' => D.nx σ H')
      (ts := fun a cls d => tRet (tXfD X.K a cls d "word" 1)) rfl rfl hNd hN1 hk ⟨hgl, by decide, .inl hme⟩ (fun W pn xe tk _ => ?_) (fun b oe cls d pn hz hf => pss_one (ps_ret (pe_xfD hz hf (pe_var hN1 (.inl hk)))))) (pss_one (ps_ret pe_str)), ?_⟩
  · refine ⟨fun pins s' σ H' D I h' => ?_⟩
    obtain ⟨Ech, hW, h1, h2, h3⟩ := h'
    have hp := act _ pn xe Ech p1 p2 (takes_len tk) hW
    have hq := pss_one (ps_expr (pos := p3) hp)
    exact hq.run pins s' σ H' D I ⟨h1, h2, h3⟩
  · refine ⟨fun cls d H' => ∃ v, ErrAt X.K CB cls d H' v ∧ Q v H', fun cls d σ' H' hE hl => ?_, h0 f, hc, h⟩
    obtain ⟨v, ⟨C, dd, fs, rfl, rfl, e1, e2, e3, e4, e5⟩, hQ⟩ := hE
    refine ⟨e1, fun b _ => ⟨?_, C, dd, fs, v, rfl, e2, e3, rfl, e4, e5, hQ⟩⟩
    have : 1 < σ'.length := by
      rw [hl]
      exact (List.getElem?_eq_some_iff.mp hN1).1
    rw [List.getElem?_set_self this]
end Bw
set_option Elab.async false
set_option linter.all false
set_option maxRecDepth 100000
set_option maxHeartbeats 4000000
namespace Bw
open PySem PySem.Spec PyProof.Rows L2
/-! ### o.m(k=v): a method called by one keyword -/
def tMethK (C : Addr) (m : Str) (sp : Sp) (gV : List V → List V → List V) (E : XK) (ta : TE) (tk : TA) : TE := fun σ H Q => ta σ H fun x H1 => ∃ a dx fs, x = .ref a ∧ H1 a = some (.ins C dx fs) ∧ fs.lookup m = none ∧ tk σ H1 fun zs H2 => sp (gV [x] zs) H2 Q E
theorem pe_methK0 {X : Cx} {CX : CXT} {k : Nat} {C f : Addr} {fd : FuncData} {ps ks : List Str} {sp : Sp} {E : XK} {m : Str} {o : Expr} {ta : TE} {apos pos : Pos} {kws : List Keyword} {tk : TA} {g : List Value → List Value → List Value} {gV : List V → List V → List V} {pl : Sem Bool}
    (he : PE X o ta) (c : Cls X.K C) (hm : Meth X.K C m f) (F : FnOk X.prog X.w X.K X.mg X.base CX k f fd ps sp) (hr : Room k X.A) (hb : KBinds X.K fd ps ks g gV) (hx : Passes CX X E)
    (hkw : PK X kws tk) (hall : (backToKw pos (keywordEach kws X.env)).all (·.1.isSome) = true := by rfl) (hks : (backToKw pos (keywordEach kws X.env)).filterMap (·.1) = ks := by rfl)
    (hpl : ((backTo pos (starEach [] X.env)).any (·.1) || (backToKw pos (keywordEach kws X.env)).any (·.1.isNone)) = false := by rfl)
    (ht : eval (.Call (.Attribute o m apos) [] kws pos) X.env = (do
      let ov ← eval o X.env
      standAt apos.atName
      let (f, first) ← holding [ov] (getMethod ov m pl)
      callWith pos f first (backTo pos (starEach [] X.env)) (backToKw pos (keywordEach kws X.env))) := by rfl) :
    PE X (.Call (.Attribute o m apos) [] kws pos) (tMethK C m sp gV E ta tk) := by
  refine ⟨fun pins s σ H Q I h => ?_⟩
  refine PySem.W.methodCall_KW (pl := pl) (thn (he.run pins s σ H _ I h) fun u s1 ⟨x, H1, I1, rx, a, dx, fs, ex, ea, l, q⟩ => ?_) ht
  subst ex
  obtain rfl : u = Value.ref a := rx
  refine getmeth_ok I1 ea c hm l ?_
  refine PySem.W.callWith_KW0 (h₀ := X.base) (first := [.ref a]) I.ok.mod.kin hm.kp hall (thn (hkw.run pos pins s1 σ H1 _ I1 q) fun ws s2 ⟨zs, H2, I2, rz, q2⟩ => ⟨I2.kIn, ?_⟩) hpl
  rw [hks]
  exact run_fnk (us := [.ref a]) (vs := [.ref a]) F hr hb hx I2 (.cons rfl .nil) rz q2
/-! ### {k: v}, k a tuple -/
def tDisp1T (tk tv : TE) : TE := fun σ H Q => ∀ p, H p = none → tk σ (upd H p (.dT [])) fun x H1 => tv σ H1 fun y H2 => H2 p = some (.dT []) ∧ ∃ (b : Addr) (q : List Key), x = .ref b ∧ H2 b = some (.tup (q.map kV)) ∧ Q (.ref p) (upd H2 p (.dT [(q, y)]))
theorem pe_disp1T {X : Cx} {pos : Pos} {k v : Expr} {tk tv : TE} (hu : X.A.units < cLine) (hk : PE X k tk) (hv : PE X v tv) : PE X (.Dict [some k] [v] pos) (tDisp1T tk tv) := by
  refine ⟨fun pins s σ H Q I q => ?_⟩
  have hn := I.hok.fresh (Nat.le_refl s.heap.objs.size)
  have I1 := I.laid (a := s.heap.objs.size) (o := .dT []) (h' := s.heap.push { cls := .type "dict", data := .dict #[] }) (t' := s.toks) (fun _ _ q => Heap.get?_push_of_some _ q) (Nat.le_refl _) (dt_empty s.heap I.big)
  have h : PPs X pos [some k] [v] [(tk, tv)] := pps_cons hk hv pps_nil
  let Qp : List (V × V) → Hp → Prop := fun ps H2 => match ps with
    | [(x, y)] => H2 s.heap.objs.size = some (.dT []) ∧ ∃ (b : Addr) (q : List Key), x = .ref b ∧ H2 b = some (.tup (q.map kV)) ∧ Q (.ref s.heap.objs.size) (upd H2 s.heap.objs.size (.dT [(q, y)]))
    | _ => False
  have rd : tPairs [(tk, tv)] σ (upd H s.heap.objs.size (.dT [])) Qp := q _ hn
  rw [arm_eval_Dict, zip_pairTrees [some k] [v] X.env pos rfl rfl, dictDisplay_pairs _ (by simp [pairTrees]) (by show 1 < 17; decide)]
  refine wpAny_bind (wpAny_standAt (wpAny_bind ?_))
  unfold subDict
  refine wpAny_bind (wpAny_alloc ?_)
  refine wpAny_bind (wpAny_holding ?_)
  rw [if_pos (by show 1 ≤ 15; decide)]
  refine wpAny_bind (thn (h.run pins _ σ _ _ I1 rd) fun ws s2 ⟨ps, H2, I2, rel, qp⟩ => ?_)
  obtain ⟨b, qk, y, ep, e, eb, q2⟩ : ∃ (b : Addr) (qk : List Key) (y : V), ps = [(.ref b, y)] ∧ H2 s.heap.objs.size = some (.dT []) ∧ H2 b = some (.tup (qk.map kV)) ∧ Q (.ref s.heap.objs.size) (upd H2 s.heap.objs.size (.dT [(qk, y)])) := by
    match ps, qp with
    | [(x, y)], qp =>
      obtain ⟨e, b, qk, rfl, eb, q2⟩ := qp
      exact ⟨b, qk, y, rfl, e, eb, q2⟩
  subst ep
  obtain ⟨u, r, rfl, hur⟩ : ∃ u r, ws = [(u, r)] ∧ RelV (.ref b) u ∧ RelV y r := by
    cases rel with
    | cons h t =>
      cases t
      exact ⟨_, _, rfl, h⟩
  obtain ⟨ru, rr⟩ := hur
  obtain rfl : u = Value.ref b := ru
  refine wpAny_holding ?_
  rw [List.forIn_cons]
  obtain ⟨z, hd, xs, rel2, dd⟩ := dt_of I2.hok e
  have hx : xs = [] := by
    cases rel2
    rfl
  subst hx
  refine wpAny_bind (wpAny_bind (wpAny_bind (wpAny_dictSet_heap (hsz := Nat.zero_le _) (knd := tupleKind (mixKind X.prog X.w)) (show X.A.units < cLine from hu) (key_of I2.hok eb) dd fun h' dd' hs => wpAny_pure ?_)))
  show wpAny _ _ (forIn ([] : List (Value × Value)) PUnit.unit _) _ _ _
  rw [List.forIn_nil]
  refine wpAny_pure (wpAny_pure (wpAny_pure (wpAny_pure ?_)))
  obtain ⟨qo, es, ep, hq, h2, h3, h4, _, h5⟩ := dd'
  refine ⟨.ref s.heap.objs.size, _, ?_, rfl, q2⟩
  refine d_write I2 (by rw [e]; exact True.intro) hs ⟨qo, hq⟩ ⟨by show 1 ≤ sizeLine; decide, hd, _, (KT.put rel2 qk eb rr).keeps fun c ys ec => ?_, qo, es, ep, hq, h2, h3, h4, h5⟩
  rw [upd_ne (ne_of ec e (fun z => nomatch z))]
  exact ec
end Bw
set_option Elab.async false
set_option linter.all false
set_option maxRecDepth 100000
set_option maxHeartbeats 1000000
namespace Bw
open PySem PySem.Spec PyProof.Rows L2
/-! ### sums of products, as what they make of any weighing of powers -/
abbrev Tm := List Int × Int
def Lf (ts : List Tm) (φ : List Int → Int) : Int := (ts.map fun a => a.2 * φ a.1).sum
theorem Lf_nil (φ : List Int → Int) : Lf [] φ = 0 := rfl
theorem Lf_cons (a : Tm) (ts : List Tm) (φ : List Int → Int) : Lf (a :: ts) φ = a.2 * φ a.1 + Lf ts φ := by
  unfold Lf
  rw [List.map_cons, List.sum_cons]
theorem Lf_append (a b : List Tm) (φ : List Int → Int) : Lf (a ++ b) φ = Lf a φ + Lf b φ := by
  unfold Lf
  rw [List.map_append, List.sum_append]
theorem Lf_perm {a b : List Tm} (h : a.Perm b) (φ : List Int → Int) : Lf a φ = Lf b φ := by
  induction h with
  | nil => rfl
  | cons x _ ih => rw [Lf_cons, Lf_cons, ih]
  | swap x y l =>
    rw [Lf_cons, Lf_cons, Lf_cons, Lf_cons]
    omega
  | trans _ _ h1 h2 => exact h1.trans h2
theorem Lf_filter (ts : List Tm) (φ : List Int → Int) : Lf (ts.filter fun a => decide (a.2 ≠ 0)) φ = Lf ts φ := by
  induction ts with
  | nil => rfl
  | cons a ts ih =>
    rw [List.filter_cons]
    by_cases h : a.2 = 0
    · rw [if_neg (by simp [h]), ih, Lf_cons, h]
      omega
    · rw [if_pos (by simp [h]), Lf_cons, Lf_cons, ih]
theorem Lf_map (ts : List Tm) (g : List Int → List Int) (φ : List Int → Int) : Lf (ts.map fun a => (g a.1, a.2)) φ = Lf ts fun p => φ (g p) := by
  induction ts with
  | nil => rfl
  | cons a ts ih => rw [List.map_cons, Lf_cons, Lf_cons, ih]
theorem Lf_neg (ts : List Tm) (φ : List Int → Int) : Lf (ts.map fun a => (a.1, -a.2)) φ = -(Lf ts φ) := by
  induction ts with
  | nil => rfl
  | cons a ts ih =>
    rw [List.map_cons, Lf_cons, Lf_cons, ih]
    show -a.2 * φ a.1 + -(Lf ts φ) = -(a.2 * φ a.1 + Lf ts φ)
    rw [Int.neg_mul]
    omega
/-- products falling by their powers, none of count 0 -/
def Falls (r : List Tm) : Prop := r.Pairwise (fun a b => HT.lexLt b.1 a.1 = true)
structure Cn (ℓ : (List Int → Int) → Int) (r : List Tm) : Prop where
  fall : Falls r
  nz : ∀ a ∈ r, a.2 ≠ 0
  lf : ∀ φ, Lf r φ = ℓ φ
theorem lex_irr (p : List Int) : HT.lexLt p p = false := by
  cases h : HT.lexLt p p with
  | false => rfl
  | true =>
    have := NtL.lex_asym _ _ h
    rw [h] at this
    cases this
theorem lex_ne {p q : List Int} (h : HT.lexLt p q = true) : p ≠ q := fun e => by
  rw [e, lex_irr] at h
  cases h
theorem lex_tot : ∀ {p q : List Int}, HT.lexLt p q = false → HT.lexLt q p = false → p = q
  | [], [], _, _ => rfl
  | [], _ :: _, h, _ => by cases h
  | _ :: _, [], _, h => by cases h
  | x :: p, y :: q, h1, h2 => by
    rw [HT.lexLt_cons] at h1 h2
    by_cases e : x = y
    · subst e
      rw [if_pos rfl] at h1 h2
      rw [lex_tot h1 h2]
    · rw [if_neg e] at h1
      rw [if_neg (fun z => e z.symm)] at h2
      have a1 := of_decide_eq_false h1
      have a2 := of_decide_eq_false h2
      omega
/-- the count of p in r -/
def ind (p : List Int) : List Int → Int := fun q => if q = p then 1 else 0
theorem Lf_ind_none {r : List Tm} {p : List Int} (h : ∀ a ∈ r, a.1 ≠ p) : Lf r (ind p) = 0 := by
  induction r with
  | nil => rfl
  | cons a r ih =>
    rw [Lf_cons, ih fun b hb => h b (List.mem_cons_of_mem _ hb)]
    unfold ind
    rw [if_neg (h a (List.mem_cons_self ..))]
    omega
theorem Lf_ind_mem {r : List Tm} (hf : Falls r) {p : List Int} {c : Int} (h : (p, c) ∈ r) : Lf r (ind p) = c := by
  induction r with
  | nil => cases h
  | cons a r ih =>
    have hf' := List.pairwise_cons.mp hf
    rw [Lf_cons]
    rcases List.mem_cons.mp h with e | h
    · subst e
      rw [Lf_ind_none fun b hb => lex_ne (hf'.1 b hb)]
      show c * ind p p + 0 = c
      unfold ind
      rw [if_pos rfl]
      omega
    · have ne : a.1 ≠ p := Ne.symm (lex_ne (hf'.1 (p, c) h))
      rw [ih hf'.2 h]
      unfold ind
      rw [if_neg ne]
      omega
theorem Cn.mem {ℓ : (List Int → Int) → Int} {r : List Tm} (h : Cn ℓ r) (p : List Int) (c : Int) : (p, c) ∈ r ↔ c ≠ 0 ∧ ℓ (ind p) = c := by
  constructor
  · intro m
    refine ⟨h.nz _ m, ?_⟩
    rw [← h.lf, Lf_ind_mem h.fall m]
  · rintro ⟨hc, e⟩
    rw [← h.lf] at e
    by_cases m : ∃ a ∈ r, a.1 = p
    · obtain ⟨a, ha, rfl⟩ := m
      rw [Lf_ind_mem h.fall (p := a.1) (c := a.2) ha] at e
      rw [← e]
      exact ha
    · rw [Lf_ind_none fun a ha e' => m ⟨a, ha, e'⟩] at e
      exact absurd e.symm hc
theorem falls_uniq : ∀ {r r' : List Tm}, Falls r → Falls r' → (∀ a, a ∈ r ↔ a ∈ r') → r = r'
  | [], [], _, _, _ => rfl
  | [], b :: r', _, _, h => absurd ((h b).mpr (List.mem_cons_self ..)) (by simp)
  | a :: r, [], _, _, h => absurd ((h a).mp (List.mem_cons_self ..)) (by simp)
  | a :: r, b :: r', h1, h2, h => by
    have f1 := List.pairwise_cons.mp h1
    have f2 := List.pairwise_cons.mp h2
    have e : a = b := by
      rcases List.mem_cons.mp ((h a).mp (List.mem_cons_self ..)) with e | m
      · exact e
      · rcases List.mem_cons.mp ((h b).mpr (List.mem_cons_self ..)) with e | m'
        · exact e.symm
        · have x := f2.1 a m
          have y := f1.1 b m'
          have z := NtL.lex_asym _ _ x
          rw [y] at z
          cases z
    subst e
    have hr : r = r' := falls_uniq f1.2 f2.2 fun c => by
      constructor
      · intro m
        rcases List.mem_cons.mp ((h c).mp (List.mem_cons_of_mem _ m)) with e | m'
        · subst e
          exact absurd rfl (lex_ne (f1.1 c m))
        · exact m'
      · intro m
        rcases List.mem_cons.mp ((h c).mpr (List.mem_cons_of_mem _ m)) with e | m'
        · subst e
          exact absurd rfl (lex_ne (f2.1 c m))
        · exact m'
    rw [hr]
theorem Cn.uniq {ℓ : (List Int → Int) → Int} {r r' : List Tm} (h : Cn ℓ r) (h' : Cn ℓ r') : r = r' := by
  refine falls_uniq h.fall h'.fall fun a => ?_
  obtain ⟨p, c⟩ := a
  rw [h.mem, h'.mem]
/-! ### books: a count for each powers, in the order in which they came -/
def getB (bk : List Tm) (p : List Int) : Option Int := (bk.find? fun a => decide (a.1 = p)).map (·.2)
def putB (bk : List Tm) (p : List Int) (c : Int) : List Tm := if (bk.any fun a => decide (a.1 = p)) = true then bk.map (fun a => if a.1 = p then (a.1, c) else a) else bk ++ [(p, c)]
def NdB (bk : List Tm) : Prop := (bk.map (·.1)).Nodup
theorem putB_keys {bk : List Tm} {p : List Int} {c : Int} (h : NdB bk) : NdB (putB bk p c) := by
  unfold putB NdB
  by_cases q : (bk.any fun a => decide (a.1 = p)) = true
  · rw [if_pos q, List.map_map]
    have e : ((fun a : Tm => a.1) ∘ fun a : Tm => if a.1 = p then (a.1, c) else a) = fun a => a.1 := by
      funext a
      show (if a.1 = p then (a.1, c) else a).1 = a.1
      split <;> rfl
    rw [e]
    exact h
  · rw [if_neg q, List.map_append]
    refine List.nodup_append.mpr ⟨h, by simp, ?_⟩
    intro x hx y hy e
    obtain ⟨a, ha, rfl⟩ := List.mem_map.mp hx
    have : y = p := by simpa using hy
    subst this
    exact q (List.any_eq_true.mpr ⟨a, ha, decide_eq_true e⟩)
theorem putB_len (bk : List Tm) (p : List Int) (c : Int) : (putB bk p c).length ≤ bk.length + 1 := by
  unfold putB
  split
  · rw [List.length_map]
    omega
  · rw [List.length_append]
    exact Nat.le_refl _
theorem Lf_repl {p : List Int} {c d : Int} : ∀ {bk : List Tm}, NdB bk → (p, d) ∈ bk → ∀ φ, Lf (bk.map fun a => if a.1 = p then (a.1, c) else a) φ = Lf bk φ + (c - d) * φ p
  | [], _, h, _ => by cases h
  | a :: bk, nd, h, φ => by
    have nd' := List.nodup_cons.mp nd
    rw [List.map_cons, Lf_cons, Lf_cons]
    by_cases e : a.1 = p
    · have rest : (bk.map fun a => if a.1 = p then (a.1, c) else a) = bk := by
        have z : bk.map (fun a => if a.1 = p then (a.1, c) else a) = bk.map id := List.map_congr_left fun b hb => by
          rw [if_neg]
          · rfl
          · intro e'
            exact nd'.1 (List.mem_map.mpr ⟨b, hb, e'.trans e.symm⟩)
        rw [z, List.map_id]
      have ad : a = (p, d) := by
        rcases List.mem_cons.mp h with h | h
        · exact h.symm
        · exact absurd (List.mem_map.mpr ⟨(p, d), h, e.symm⟩) nd'.1
      rw [rest, if_pos e, ad]
      show c * φ p + Lf bk φ = d * φ p + Lf bk φ + (c - d) * φ p
      rw [Int.sub_mul]
      omega
    · rw [if_neg e]
      have h' : (p, d) ∈ bk := by
        rcases List.mem_cons.mp h with h | h
        · rw [← h] at e
          exact absurd rfl e
        · exact h
      rw [Lf_repl nd'.2 h' φ]
      omega
theorem getB_some {bk : List Tm} {p : List Int} {d : Int} (h : getB bk p = some d) : (p, d) ∈ bk := by
  unfold getB at h
  obtain ⟨a, ha, rfl⟩ := Option.map_eq_some_iff.mp h
  have e := List.find?_some ha
  have m := List.mem_of_find?_eq_some ha
  have : a.1 = p := of_decide_eq_true e
  rw [← this]
  exact m
theorem getB_none {bk : List Tm} {p : List Int} (h : getB bk p = none) : (bk.any fun a => decide (a.1 = p)) = false := by
  unfold getB at h
  have z := Option.map_eq_none_iff.mp h
  cases q : (bk.any fun a => decide (a.1 = p)) with
  | false => rfl
  | true =>
    obtain ⟨a, ha, e⟩ := List.any_eq_true.mp q
    exact absurd e (List.find?_eq_none.mp z a ha)
def addB (bk : List Tm) (p : List Int) (c : Int) : List Tm := putB bk p ((getB bk p).getD 0 + c)
theorem Lf_addB {bk : List Tm} (nd : NdB bk) (p : List Int) (c : Int) (φ : List Int → Int) : Lf (addB bk p c) φ = Lf bk φ + c * φ p := by
  unfold addB
  cases h : getB bk p with
  | none =>
    unfold putB
    rw [getB_none h, if_neg (by simp), Lf_append, Lf_cons, Lf_nil]
    show Lf bk φ + ((0 + c) * φ p + 0) = _
    rw [Int.zero_add]
    omega
  | some d =>
    unfold putB
    have m := getB_some h
    rw [if_pos (List.any_eq_true.mpr ⟨_, m, decide_eq_true rfl⟩), Lf_repl nd m]
    show Lf bk φ + (d + c - d) * φ p = _
    have e : d + c - d = c := by omega
    rw [e]
/-- a book as a dict -/
def enc (a : Tm) : List Key × V := (a.1.map Sum.inl, V.int a.2)
theorem inl_inj {p q : List Int} (h : p.map (Sum.inl : Int → Key) = q.map Sum.inl) : p = q := by
  have e := congrArg (List.map fun k : Key => match k with | .inl i => i | .inr _ => 0) h
  rw [List.map_map, List.map_map] at e
  have z : ((fun k : Key => match k with | .inl i => i | .inr _ => 0) ∘ (Sum.inl : Int → Key)) = id := rfl
  rw [z, List.map_id, List.map_id] at e
  exact e
theorem enc_iff {a : Tm} {p : List Int} : (enc a).1 = p.map Sum.inl ↔ a.1 = p := ⟨fun z => inl_inj z, fun z => by rw [← z]; rfl⟩
theorem enc_any (bk : List Tm) (p : List Int) : ((bk.map enc).any fun kv => decide (kv.1 = p.map Sum.inl)) = bk.any fun a => decide (a.1 = p) := by
  rw [List.any_map]
  congr 1
  funext a
  exact decide_eq_decide.mpr enc_iff
theorem enc_put (bk : List Tm) (p : List Int) (c : Int) : putK (bk.map enc) (p.map Sum.inl) (V.int c) = (putB bk p c).map enc := by
  unfold putK putB
  rw [enc_any]
  split
  · rw [List.map_map, List.map_map]
    refine List.map_congr_left fun a _ => ?_
    show (if (enc a).1 = p.map Sum.inl then ((enc a).1, V.int c) else enc a) = enc (if a.1 = p then (a.1, c) else a)
    by_cases e : a.1 = p
    · rw [if_pos (enc_iff.mpr e), if_pos e]
      rfl
    · rw [if_neg fun z => e (enc_iff.mp z), if_neg e]
  · rw [List.map_append]
    rfl
theorem enc_val : ∀ (bk : List Tm) (p : List Int), valV (bk.map enc) (p.map Sum.inl) = (getB bk p).map V.int
  | [], _ => rfl
  | a :: bk, p => by
    rw [List.map_cons]
    by_cases e : a.1 = p
    · have h1 : getB (a :: bk) p = some a.2 := by
        unfold getB
        rw [List.find?_cons_of_pos (by simpa using e)]
        rfl
      rw [h1, valV_pos (enc_iff.mpr e)]
      rfl
    · have h1 : getB (a :: bk) p = getB bk p := by
        unfold getB
        rw [List.find?_cons_of_neg (by simpa using e)]
      rw [h1, ← enc_val bk p, valV_neg fun z => e (enc_iff.mp z)]
theorem enc_keys (bk : List Tm) : KeysI (bk.map enc) (bk.map (·.1)) := by
  unfold KeysI
  rw [List.map_map, List.map_map]
  rfl
end Bw
set_option Elab.async false
set_option linter.all false
set_option maxRecDepth 100000
set_option maxHeartbeats 4000000
namespace Bw
open PySem PySem.Spec PyProof.Rows L2
/-! ### rows of numbers and products as data -/
theorem ints_lay : ∀ p : List Int, PyData.canLayAll0 (p.map PyData.int) = true
  | [] => by simp [PyData.canLayAll0]
  | a :: p => by
    have ih := ints_lay p
    simp only [List.map_cons, PyData.canLayAll0, PyData.canLay0, ih, Bool.and_self]
theorem ints_depth : ∀ p : List Int, PyData.depthAll (p.map PyData.int) ≤ 1
  | [] => by simp [PyData.depthAll]
  | a :: p => by
    have ih := ints_depth p
    simp only [List.map_cons, PyData.depthAll, PyData.depth]
    omega
theorem ints_eqv : ∀ p q : List Int, PyData.eqvAll (p.map PyData.int) (q.map PyData.int) = decide (p = q)
  | [], [] => by simp [PyData.eqvAll]
  | [], b :: q => by simp [PyData.eqvAll]
  | a :: p, [] => by simp [PyData.eqvAll]
  | a :: p, b :: q => by
    have ih := ints_eqv p q
    simp only [List.map_cons, PyData.eqvAll, PyData.eqv, ih]
    by_cases e : a = b
    · subst e
      by_cases z : p = q
      · subst z
        simp
      · simp [z]
    · simp [e]
def rowD (p : List Int) : PyData := .tuple (p.map .int)
theorem rowD_lay (p : List Int) : (rowD p).canLay0 = true := by
  simp only [rowD, PyData.canLay0]
  exact ints_lay p
theorem rowD_depth (p : List Int) : (rowD p).depth ≤ 2 := by
  have := ints_depth p
  simp only [rowD, PyData.depth]
  omega
theorem rowD_eqv (p q : List Int) : PyData.eqv (rowD p) (rowD q) = decide (p = q) := by
  simp only [rowD, PyData.eqv]
  exact ints_eqv p q
theorem all_lay {α : Type} {d : α → PyData} (h : ∀ a, (d a).canLay0 = true) : ∀ r : List α, PyData.canLayAll0 (r.map d) = true
  | [] => by simp [PyData.canLayAll0]
  | a :: r => by
    have ih := all_lay h r
    simp only [List.map_cons, PyData.canLayAll0, h a, ih, Bool.and_self]
theorem all_depth {α : Type} {d : α → PyData} {n : Nat} (h : ∀ a, (d a).depth ≤ n) : ∀ r : List α, PyData.depthAll (r.map d) ≤ n
  | [] => by simp [PyData.depthAll]
  | a :: r => by
    have ih := all_depth h r
    have := h a
    simp only [List.map_cons, PyData.depthAll]
    omega
theorem all_eqv {α : Type} [DecidableEq α] {d : α → PyData} (h : ∀ a b, PyData.eqv (d a) (d b) = decide (a = b)) : ∀ r r' : List α, PyData.eqvAll (r.map d) (r'.map d) = decide (r = r')
  | [], [] => by simp [PyData.eqvAll]
  | [], b :: q => by simp [PyData.eqvAll]
  | a :: p, [] => by simp [PyData.eqvAll]
  | a :: p, b :: q => by
    have ih := all_eqv h p q
    simp only [List.map_cons, PyData.eqvAll, h a b, ih]
    by_cases e : a = b
    · subst e
      by_cases z : p = q
      · subst z
        simp
      · simp [z]
    · simp [e]
def tmD (a : Tm) : PyData := .tuple [rowD a.1, .int a.2]
theorem tmD_lay (a : Tm) : (tmD a).canLay0 = true := by
  have := rowD_lay a.1
  simp only [tmD, PyData.canLay0, PyData.canLayAll0, this, Bool.and_self]
theorem tmD_depth (a : Tm) : (tmD a).depth ≤ 3 := by
  have := rowD_depth a.1
  simp only [tmD, PyData.depth, PyData.depthAll]
  omega
theorem tmD_eqv (a b : Tm) : PyData.eqv (tmD a) (tmD b) = decide (a = b) := by
  obtain ⟨p, c⟩ := a
  obtain ⟨q, d⟩ := b
  have := rowD_eqv p q
  simp only [tmD, PyData.eqv, PyData.eqvAll, this]
  by_cases e : p = q
  · subst e
    by_cases z : c = d
    · subst z
      simp
    · simp [z]
  · simp [e]
theorem shaped_tup {ds : List PyData} (h1 : PyData.canLayAll0 ds = true) (h2 : PyData.depthAll ds ≤ 50) : SeqAt.shaped (.tuple ds) = true := by
  have h3 : PyData.depth (.tuple ds) ≤ 64 := by
    simp only [PyData.depth]
    omega
  show (PyData.canLay0 (.tuple ds) && decide (PyData.depth (.tuple ds) ≤ 64)) = true
  rw [Bool.and_eq_true]
  exact ⟨by simp only [PyData.canLay0]; exact h1, decide_eq_true h3⟩
theorem shaped_lst {ds : List PyData} (h1 : PyData.canLayAll0 ds = true) (h2 : PyData.depthAll ds ≤ 50) : SeqAt.shaped (.list ds) = true := by
  have h3 : PyData.depth (.list ds) ≤ 64 := by
    simp only [PyData.depth]
    omega
  show (PyData.canLay0 (.list ds) && decide (PyData.depth (.list ds) ≤ 64)) = true
  rw [Bool.and_eq_true]
  exact ⟨by simp only [PyData.canLay0]; exact h1, decide_eq_true h3⟩
theorem dp_ints {K : PySem.W.Frag} {H : Hp} : ∀ p : List Int, DpAll K H (p.map V.int) (p.map PyData.int)
  | [] => .nil
  | a :: p => .cons (.int a) (dp_ints p)
theorem o_eqD {X : Cx} {K : PySem.W.Frag} (hu : X.A.units + 64 < cLine) (hK : X.K = K := by rfl) : OpR X (compareOp .Eq) (rEqD K) := by
  subst hK
  exact op_eqD hu
theorem o_neD {X : Cx} {K : PySem.W.Frag} (hu : X.A.units + 64 < cLine) (hK : X.K = K := by rfl) : OpR X (compareOp .NotEq) (rNeD K) := by
  subst hK
  exact op_neD hu
end Bw
set_option Elab.async false
set_option linter.all false
set_option maxRecDepth 100000
set_option maxHeartbeats 4000000
/-! ### own errors right over a built-in error other than ValueError -/
namespace Bw
open PySem PySem.Spec PyProof.Rows L2
section
open PySem.W PySem.Calls PySem.HandSPX Builtin Builtin.ObjectAttr
variable {prog : Program} {w : World} {A : Around} {R : Result → Shared → Prop} {hp : Heap} {g : Array GenState} {d : Drawn} {t : Nat} {os : OsState}
theorem osaB {K : W.Frag} {B : String} {tl : List Value} {name : Str} {tk : Tok} {v : Value} {x C : Addr} {ox : Obj} {od : Option Obj} {cd : ClassData} (SB : StoreFacts B tl "object.__setattr__" "object") (ob : tl.contains (.type "object") = true)
    (X : K.In hp) (I : W.InstAt hp x ox C od) (hcd : W.clsIn K C = some cd) (hm : cd.mro = .ref C :: tl) (ha : W.findIn K (.ref C) name = some none)
    (hq : wpAny (model prog w) A.in1 (storeInOwnDict (.ref x) (.ref C) (.str name tk) name v false) (fun fin s' => match fin with | .done f => R (.ok f) s' | .again c' => c'.quiet = true ∧ codeAny (model prog w) A c' R s') (fun e s' => R (.error e) s') ⟨hp, g, d, t, os⟩) : codeAny (model prog w) A (.call (.builtin "object.__setattr__") ⟨[.ref x, .str name tk, v], []⟩) R ⟨hp, g, d, t, os⟩ := by
  have has : (Value.ref C :: tl).contains (.type "object") = true := by rw [List.contains_cons, ob, Bool.or_true]
  have mi : W.mroIn K C (.type "object") = some true := by unfold W.mroIn; rw [hcd, Option.bind_some, hm, if_neg (show ¬ (List.isEmpty (Value.ref C :: tl) = true) from Bool.false_ne_true), has]
  refine codeAny_call_builtin PySem.F.store_object.slot.plain PySem.F.store_object.entry (@W.check_slot (model prog w) _ _ ⟨hp, g, d, t, os⟩ "object.__setattr__" "object" "__setattr__" (.ref x) [.str name tk, v] [] _ PySem.F.store_object.kind PySem.F.store_object.split (I.type.andThen (W.looks_mroIn X mi)) (PySem.F.store_object.args (.ref x) (.str name tk) v) ?_)
  have mr : W.Looks (model prog w) hp (mroOf (.ref C)) cd.mro := (W.looks_clsIn X hcd).andThen .now
  have noT : W.Looks (model prog w) hp (storeTaker? none) none := .now
  rw [W.osa_eq, refuse_eq]; refine wpAny_bind (wpAny_bind (I.type.at (wpAny_bind (mr.at ?_)))); rw [hm, refuseLoop_ref, SB.passes]
  exact wpAny_pure (wpAny_bind (I.type.at (wpAny_bind ((W.looks_findIn X ha).at (wpAny_bind (noT.at hq))))))
theorem osaB_new {K : W.Frag} {B : String} {tl : List Value} {name : Str} {tk : Tok} {v : Value} {x C : Addr} {fv : Array Value} {cd : ClassData} (SB : StoreFacts B tl "object.__setattr__" "object") (ob : tl.contains (.type "object") = true) (X : K.In hp) (hx : hp.get? x = some { cls := .ref C, data := .fields fv }) (hcd : W.clsIn K C = some cd) (hm : cd.mro = .ref C :: tl) (hh : cd.hasDict = true) (ha : W.findIn K (.ref C) name = some none)
    (hq : ∀ h' tk' dx, (∀ b o, b ≠ x → hp.get? b = some o → h'.get? b = some o) → hp.objs.size ≤ dx → dx ≠ x → h'.get? x = some { cls := .ref C, dict := some dx, data := .fields fv } → h'.Ns1 dx (fun y => if y = name then some v else none) → R (.ok (.ret .none)) ⟨h', g, d, tk', os⟩) : codeAny (model prog w) A (.call (.builtin "object.__setattr__") ⟨[.ref x, .str name tk, v], []⟩) R ⟨hp, g, d, t, os⟩ := by
  have xs : x ≠ hp.objs.size := Nat.ne_of_lt (Heap.lt_size hx)
  refine osaB SB ob X (ox := { cls := .ref C, data := .fields fv }) (od := none) ⟨hx, rfl, rfl, trivial⟩ hcd hm ha ?_
  have kl : W.Looks (model prog w) hp (classData C) cd := W.looks_clsIn X hcd
  obtain ⟨_, _, _, _, _, hd, _, _, _, _, _⟩ := cd; dsimp only at hh; subst hh; unfold storeInOwnDict ownDictForStores
  repeat (first | with_reducible refine HandSPX.store_in_new ?_ ?_ | with_reducible refine wpAny_loadPart_at hx ?_ | with_reducible refine kl.at ?_ | wp_step)
  · exact ⟨_, #[], _, (Heap.get?_update_ne _ _ _ _ xs.symm).trans (Heap.get?_push_at rfl rfl), rfl, fun e he => absurd he (by simp), fun _ => rfl⟩
  · intro h' tk' hn' hs
    have hx1 : (hp.push { cls := .type "dict", data := .dict #[] }).get? x = some { cls := .ref C, data := .fields fv } := Heap.get?_push_of_some _ hx
    exact hq h' tk' hp.objs.size (fun b o hb ho => (hs.2 b (Nat.ne_of_lt (Heap.lt_size ho))).trans ((Heap.get?_update_ne _ _ _ _ hb).trans (Heap.get?_push_of_some _ ho))) (Nat.le_refl _) xs.symm ((hs.2 x xs).trans (Heap.get?_update_self _ hx1 rfl)) hn'
theorem osaB_old {K : W.Frag} {B : String} {tl : List Value} {name : Str} {tk : Tok} {v : Value} {x C dx : Addr} {fv : Array Value} {cd : ClassData} {m0 : Str → Option Value} {nl : List Str} (SB : StoreFacts B tl "object.__setattr__" "object") (ob : tl.contains (.type "object") = true)
    (X : K.In hp) (hx : hp.get? x = some { cls := .ref C, dict := some dx, data := .fields fv }) (hns : hp.Ns1 dx m0) (hw : Within m0 nl) (hz : nl.length ≤ 1000) (hcd : W.clsIn K C = some cd) (hm : cd.mro = .ref C :: tl) (hh : cd.hasDict = true) (ha : W.findIn K (.ref C) name = some none)
    (hq : ∀ h' tk', (∀ b o, b ≠ dx → hp.get? b = some o → h'.get? b = some o) → h'.Ns1 dx (fun y => if y = name then some v else m0 y) → R (.ok (.ret .none)) ⟨h', g, d, tk', os⟩) : codeAny (model prog w) A (.call (.builtin "object.__setattr__") ⟨[.ref x, .str name tk, v], []⟩) R ⟨hp, g, d, t, os⟩ := by
  obtain ⟨oD, _, _, hoD, _, _⟩ := hns.count hw
  refine osaB SB ob X (ox := { cls := .ref C, dict := some dx, data := .fields fv }) (od := some oD) ⟨hx, rfl, rfl, hoD⟩ hcd hm ha ?_
  have kl : W.Looks (model prog w) hp (classData C) cd := W.looks_clsIn X hcd
  obtain ⟨_, _, _, _, _, hd, _, _, _, _, _⟩ := cd; dsimp only at hh; subst hh; unfold storeInOwnDict ownDictForStores
  repeat (first | with_reducible refine PySem.OEX.store_in_old hns hw hz ?_ | with_reducible refine wpAny_loadPart_at hx ?_ | with_reducible refine kl.at ?_ | wp_step)
  exact fun h' tk' hn' hs => hq h' tk' (fun b o hb ho => (hs.2 b hb).trans ho) hn'
end
/-- what the written part says of such a class -/
structure OexB (K : PySem.W.Frag) (C : Addr) (B nw ini : String) (tl : List Value) : Prop where
  cls : ∃ nm q N bs sn sub ab col dd k0 k1 k2 k3 k5, K.lookup C = some (excClassObj nm q C N bs tl true sn sub ab col dd k0 k1 k2 k3 k5 nw)
  fb : ExcBaseFacts B nw ini tl
  st : PySem.StoreFacts B tl "object.__setattr__" "object"
  ob : tl.contains (.type "object") = true
  sa : PySem.W.findIn K (.ref C) "__setattr__" = some (some (.builtin "object.__setattr__"))
  exC : PySem.W.subIn K (.ref C) (.type "BaseException") = some true
  tyC : PySem.W.typeIn K (.ref C) = some (.type "type")
  kC : PySem.W.keepIn K (.ref C) = true
section
variable {X : Cx} {pins : List (Addr × Obj)} {σ : L2.St} {H : Hp} {s : Shared} {a C dx : Addr} {f : Str} {y : V} {u : Value} {fs : List (Str × V)} {Q : Unit → Shared → Prop} {E : Value → Shared → Prop} {A : Around} {B nw ini : String} {tl : List Value}
theorem ostB_new (T : OexB X.K C B nw ini tl) (I : L2.Inv X pins σ H s) (e : H a = some (exo a C none)) (hno : PySem.W.findIn X.K (.ref C) f = some none) (ry : RelV y u) (h : ∀ dx s', H dx = none → dx ≠ a → L2.Inv X pins σ (upd (upd H dx (exd dx [(f, y)])) a (exo a C (some dx))) s' → Q () s') : wpAny (model X.prog X.w) A (setAttr (.ref a) f u) Q E s := by
  obtain ⟨nm, q, N, bs, sn, sub, ab, col, dd, k0, k1, k2, k3, k5, hC⟩ := T.cls
  have hcl : PySem.W.clsIn X.K C = some { name := nm, bases := bs, mro := .ref C :: tl, ns := N, qualname := q, hasDict := true, slotNames := sn, subclasses := sub, abstract := ab, collection := col, hasDel := false } := by unfold PySem.W.clsIn; rw [hC] <;> rfl
  obtain ⟨t1, ho⟩ := exo_at I.hok e; obtain ⟨hp, g, d, t, os⟩ := s
  refine PySem.W.set_plain I.kIn (ox := { cls := .ref C, dict := none, data := .fields #[.ref t1, .none, .none, .none, .bool false, .none] }) (od := none) ⟨ho, rfl, rfl, trivial⟩ T.sa (osaB_new T.st T.ob I.kIn ho hcl rfl rfl hno fun h' tk' dx k dn dne hx hn => ?_)
  have n0 : H dx = none := I.hok.fresh dn
  have nd : ∀ {b : Addr} {o : Obj}, hp.get? b = some o → b ≠ dx := fun {b o} q => Nat.ne_of_lt (Nat.lt_of_lt_of_le (Heap.lt_size q) dn)
  have na : ∀ {b : Addr}, H b = none → b ≠ a := fun {b} n z => by rw [z, e] at n; cases n
  have U : Un X.fs [] H (upd (upd H dx (exd dx [(f, y)])) a (exo a C (some dx))) hp h' := ⟨fun b o q n _ _ => k b o (na n) q, fun b o q n _ _ => ⟨o.slots, k b o (na n) q⟩, fun b o q n _ => by rw [upd_ne (na n), upd_ne (nd q)]; exact n,
    fun b o q _ => (Classical.em (b = a)).elim (fun hb => ⟨_, hb ▸ hx⟩) (fun hb => ⟨o, k b o hb q⟩), fun b xs q => by rw [upd_ne (at_ne e q exo_tup), upd_ne (ne_of_none q n0)]; exact q, fun b o v q => by rw [upd_ne (at_ne e q exo_frz), upd_ne (ne_of_none q n0)]; exact q, fun b ps q => ⟨#[], by rw [upd_ne (at_ne e q exo_tbl), upd_ne (ne_of_none q n0), q]; simp⟩⟩
  refine h dx _ n0 dne (I.un (t' := tk') U fun b o q => ?_)
  by_cases hb : b = a
  · subst hb; rw [upd_same] at q; cases q; exact exo_ok hx
  · rw [upd_ne hb] at q
    by_cases hd : b = dx
    · subst hd; rw [upd_same] at q; cases q; exact exd_ok hn (relO_put (fs := []) ry fun g => True.intro)
    · rw [upd_ne hd] at q
      exact (I.hok b o q).stay (fun c v hc z => k c v (hc.elim (fun hc => hc ▸ hb) (fun hc => at_ne e hc exo_own)) z) (fun c hc => by rw [upd_ne (at_ne e hc exo_own), upd_ne (ne_of_none hc n0)]; exact hc) (fun c xs hc => by rw [upd_ne (at_ne e hc exo_tup), upd_ne (ne_of_none hc n0)]; exact hc)
theorem ostB_old (T : OexB X.K C B nw ini tl) (I : L2.Inv X pins σ H s) (e : H a = some (exo a C (some dx))) (ed : H dx = some (exd dx fs)) (hl : fs.length ≤ 900) (hno : PySem.W.findIn X.K (.ref C) f = some none) (ry : RelV y u) (h : ∀ s', L2.Inv X pins σ (upd H dx (exd dx ((f, y) :: fs))) s' → Q () s') : wpAny (model X.prog X.w) A (setAttr (.ref a) f u) Q E s := by
  obtain ⟨nm, q, N, bs, sn, sub, ab, col, dd, k0, k1, k2, k3, k5, hC⟩ := T.cls
  have hcl : PySem.W.clsIn X.K C = some { name := nm, bases := bs, mro := .ref C :: tl, ns := N, qualname := q, hasDict := true, slotNames := sn, subclasses := sub, abstract := ab, collection := col, hasDel := false } := by unfold PySem.W.clsIn; rw [hC] <;> rfl
  obtain ⟨t1, ho⟩ := exo_at I.hok e; obtain ⟨mA, hns, rel⟩ := exd_at I.hok ed; have hw := within_of rel; obtain ⟨hp, g, d, t, os⟩ := s; obtain ⟨oD, _, _, hoD, _, _⟩ := hns.count hw
  refine PySem.W.set_plain I.kIn (ox := { cls := .ref C, dict := some dx, data := .fields #[.ref t1, .none, .none, .none, .bool false, .none] }) (od := some oD) ⟨ho, rfl, rfl, hoD⟩ T.sa (osaB_old T.st T.ob I.kIn ho hns hw (by rw [List.length_map]; omega) hcl rfl rfl hno fun h' tk' k hn => ?_)
  exact h _ (I.write (t' := tk') (x := dx) (e := dx) (o := exd dx ((f, y) :: fs)) (by rw [ed]; exact True.intro) (.inl rfl) k (by obtain ⟨o, _, _, e', _⟩ := hn; exact ⟨o, e'⟩) (exd_ok hn (relO_put ry rel)))
theorem oinitB {us : List Value} {Q : Value → Shared → Prop} (T : OexB X.K C B nw ini tl) (I : L2.Inv X pins σ H s) (e : H a = some (exo a C none)) (hl : us.length ≤ sizeLine) (h : ∀ s', L2.Inv X pins σ H s' → Q .none s') : wpAny (model X.prog X.w) A (call (.builtin ini) (.ref a :: us)) Q E s := by
  obtain ⟨nm, q, N, bs, sn, sub, ab, col, dd, k0, k1, k2, k3, k5, hC⟩ := T.cls
  obtain ⟨t1, ho⟩ := exo_at I.hok e; obtain ⟨hp, g, d, t, os⟩ := s
  refine wpAny_call (PySem.HandSPX.init_base T.fb (fun _ => rfl) (I.kIn _ _ hC) ho hl fun h' t2 k hx => ?_)
  have J := I.write (t' := t) (x := a) (e := a) (o := exo a C none) (by rw [e]; exact True.intro) (.inl rfl) k ⟨_, hx⟩ (exo_ok hx)
  have eu : upd H a (exo a C none) = H := funext fun b => if hb : b = a then by rw [hb, upd_same, e] else by rw [upd_ne hb]
  rw [eu] at J; exact h _ J
end
def tBeI (K : PySem.W.Frag) (B nw ini : String) (tl : List Value) (ta : TA) : TE := fun σ H Q => ta σ H fun vs H1 => ∃ (a C : Addr) (ws : List V), vs = .ref a :: ws ∧ ws.length ≤ 1000 ∧ OexB K C B nw ini tl ∧ H1 a = some (exo a C none) ∧ Q .non H1
def tOsB (K : PySem.W.Frag) (B nw ini : String) (tl : List Value) (f : Str) (to te : TE) : TS := fun D σ H => te σ H fun y H1 => to σ H1 fun x H2 => ∃ a C : Addr, x = .ref a ∧ OexB K C B nw ini tl ∧ PySem.W.findIn K (.ref C) f = some none ∧
  ((H2 a = some (exo a C none) ∧ ∀ dx, H2 dx = none → dx ≠ a → D.nx σ (upd (upd H2 dx (exd dx [(f, y)])) a (exo a C (some dx)))) ∨ ∃ (dx : Addr) (fs : List (Str × V)), H2 a = some (exo a C (some dx)) ∧ H2 dx = some (exd dx fs) ∧ fs.length ≤ 900 ∧ D.nx σ (upd H2 dx (exd dx ((f, y) :: fs))))
section
variable {X : Cx} {o e : Expr} {es : List Expr} {to te : TE} {ta : TA} {f : Str} {p p' p1 p2 pos : Pos} {B nw ini : String} {tl : List Value}
theorem pe_beinit {x : Str} {pl : Sem Bool} (hg : Gl X x) (hm : X.mg x = none) (hB : bootBuiltins x = some (.type B)) (ht : typeOf (.type B) = pure (.type "type")) (hs : Manifest.isStub B = false) (vV : PySem.W.findCls X.K (.type B) (.type "type") "__init__" = some (.val (.builtin ini))) (hh : PySem.W.handedIn (.builtin ini) = true) (ha : PA X (e :: es) ta) (hnn : x ≠ "__name__" := by decide) (hdb : (x == ("__debug__" : Str)) = false := by decide)
    (hc : eval (.Call (.Attribute (.Name x p1) "__init__" p2) (e :: es) [] pos) X.env = (do let ov ← eval (.Name x p1) X.env; standAt p2.atName; let (f, first) ← holding [ov] (getMethod ov "__init__" pl); callWith pos f first (backTo pos (starEach (e :: es) X.env)) (backToKw pos (keywordEach [] X.env))) := by rfl)
    (he : starEach (e :: es) X.env = (false, eval e X.env) :: starEach es X.env := by rfl) (hpl : (backTo pos (starEach es X.env)).any (·.1) = false := by rfl) : PE X (.Call (.Attribute (.Name x p1) "__init__" p2) (e :: es) [] pos) (tBeI X.K B nw ini tl ta) := by
  refine ⟨fun pins s σ H Q I h => PySem.W.methodCall_KW (ld_blt I hg hm hB ?_ hnn hdb) hc⟩
  obtain ⟨m, fr⟩ := I.fr
  refine PySem.W.method_type fr I.ok.mod.kin ht hs vV hh ?_
  show wpAny _ _ (callWith pos (Value.builtin ini) [] (backTo pos (starEach (e :: es) X.env)) []) _ _ _
  refine PyProof.Rows.callWith_method1 (thn (ha.run pos pins _ σ H _ (I.tok _) h) fun us s1 ⟨vs, H1, I1, r1, a, C, ws, ev, hl, T, ea, q⟩ => ?_) he hpl
  subst ev
  cases r1 with
  | @cons _ u0 _ ur ra rw' =>
    have eu : u0 = Value.ref a := ra
    subst eu
    exact oinitB T I1 ea (by rw [← Paired.length rw', sizeLine_eq]; omega) fun s' J => ⟨.non, H1, J, rfl, q⟩
theorem ps_osB (ho : PE X o to) (he : PE X e te) (hs : swapsWith e (some (.Attribute o f p')) pos.line X.env = pure false := by rfl) : PS X (.Assign [.Attribute o f p'] e pos) (tOsB X.K B nw ini tl f to te) := by
  refine ⟨fun pins s σ H D I h => plainObj_wpAny_Assign_Attribute (thn (he.run pins s σ H _ I h) fun v s1 ⟨y, H1, I1, r1, q1⟩ => thn (ho.run pins s1 σ H1 _ I1 q1) fun u s2 ⟨x, H2, I2, r2, a, C, ex, T, hno, q⟩ => ?_) hs⟩
  subst ex
  have eu : u = Value.ref a := r2
  subst eu
  rcases q with ⟨ea, q⟩ | ⟨dx, fs, ea, ed, hl, q⟩
  · exact ostB_new T I2 ea hno r1 fun dx s' n ne J => ⟨σ, _, J, q dx n ne⟩
  · exact ostB_old T I2 ea ed hl hno r1 fun s' J => ⟨σ, _, J, q⟩
/-- C(e, ..), C's own __init__ keeping sp -/
theorem pmkB {CX : CXT} {x : Str} {C fI : Addr} {k : Nat} {fd : FuncData} {ps : List Str} {sp : Sp} (T : OexB X.K C B nw ini tl) (iC : PySem.W.findIn X.K (.ref C) "__init__" = some (some (.ref fI))) (tI : PySem.W.typeIn X.K (.ref fI) = some (.type "function")) (F1 : FnOk X.prog X.w X.K X.mg X.base CX k fI fd ps sp) (hr : Room (k + 1) X.A) (hb : Binds X.K fd ps []) (hx : Passes CX X (fun _ _ _ => False)) (hg : Gl X x) (hm : X.mg x = some (.ref C)) (ha : PA X (e :: es) ta)
    (hdb : (x == ("__debug__" : Str)) = false := by decide) (he : starEach (e :: es) X.env = (false, eval e X.env) :: starEach es X.env := by rfl) (hpl : (backTo pos (starEach es X.env)).any (·.1) = false := by rfl) : PMk X (.Call (.Name x p) (e :: es) [] pos) (tMkO C sp [] ta) := by
  intro pins s σ H Q I h
  obtain ⟨nm, q, N, bs, sn, sub, ab, col, dd, k0, k1, k2, k3, k5, hC⟩ := T.cls
  refine wpAny_Call_Name_kw (ld_glob I hg hm (PySem.W.callWith_K (h₀ := X.base) I.ok.mod.kin T.kC (thn (ha.run pos pins s σ H _ I h) fun us s1 ⟨vs, H1, I1, r1, hz, q1⟩ => ⟨I1.kIn, ?_⟩) he hpl) hdb)
  show wpAny _ _ (call (.ref C) us) _ _ _
  obtain ⟨hp, g, dr, tk, os⟩ := s1
  have z : hp.objs.size ≤ hp.objs.size + 1 := Nat.le_succ _
  have hq := q1 (hp.objs.size + 1) (I1.hok.fresh z)
  have kk : ∀ b o, hp.get? b = some o → ((hp.push (PySem.W.kdv_tup us)).push (PySem.HandSPX.excO C hp.objs.size)).get? b = some o := fun b o e1 => Heap.get?_push_of_some _ (Heap.get?_push_of_some _ e1)
  have I2 : L2.Inv X pins σ (upd H1 (hp.objs.size + 1) (exo (hp.objs.size + 1) C none)) ⟨(hp.push (PySem.W.kdv_tup us)).push (PySem.HandSPX.excO C hp.objs.size), g, dr, tk, os⟩ := I1.laid (t' := tk) (a := hp.objs.size + 1) (o := exo (hp.objs.size + 1) C none) (h' := (hp.push (PySem.W.kdv_tup us)).push (PySem.HandSPX.excO C hp.objs.size)) kk z (exo_ok (by heap_get))
  have r2 : Vals (V.ref (hp.objs.size + 1) :: (vs ++ [])) (Value.ref (hp.objs.size + 1) :: (us ++ [])) := .cons rfl (r1.append .nil)
  have hl : (Value.ref (hp.objs.size + 1) :: us ++ []).length = ps.length := by have e1 := r2.length; rw [F1.len _ _ _ _ hq] at e1; exact e1.symm
  have bt := hb _ (Value.ref (hp.objs.size + 1) :: us) I2.kIn hl
  rw [List.cons_append] at bt
  refine wpAny_call (PySem.HandSPX.call_own T.fb (fun _ => rfl) (I1.kIn _ _ hC) (PySem.W.looks_findIn I1.kIn iC) (fun self => PySem.W.bind_fn I1.kIn self tI) (by rw [← Paired.length r1, sizeLine_eq]; omega) (codeAny_mono (F1.run _ X.stack _ _ ⟨Value.ref (hp.objs.size + 1) :: us, []⟩ (Value.ref (hp.objs.size + 1) :: (us ++ [])) _ _ (fun _ _ _ => False) (hr.make C us []) (I2.env0.make C us []) bt r2 hq) fun r s' hq' => ?_))
  cases r with
  | error er => exact hx pins σ _ _ er s' I2 hq'
  | ok fl =>
    cases fl with
    | ret u => obtain ⟨v, H2, os2, bare2, un2, hok2, rv, ev, d, fs, ea, ed, hd1, q2⟩ := hq'; subst ev; obtain ⟨h2, g2, d2, t2, os'⟩ := s'; exact ⟨rv, mk_end (raises_own T.exC T.tyC) I1 z kk un2 hok2 os2 bare2 ea ed hd1 q2⟩
    | next => exact hq'.elim
    | brk => exact hq'.elim
    | cont => exact hq'.elim
/-- C() -/
theorem pmkB0 {CX : CXT} {x : Str} {C fI : Addr} {k : Nat} {fd : FuncData} {ps : List Str} {sp : Sp} (T : OexB X.K C B nw ini tl) (iC : PySem.W.findIn X.K (.ref C) "__init__" = some (some (.ref fI))) (tI : PySem.W.typeIn X.K (.ref fI) = some (.type "function")) (F1 : FnOk X.prog X.w X.K X.mg X.base CX k fI fd ps sp) (hr : Room (k + 1) X.A) (hb : Binds X.K fd ps []) (hx : Passes CX X (fun _ _ _ => False)) (hg : Gl X x) (hm : X.mg x = some (.ref C)) (hdb : (x == ("__debug__" : Str)) = false := by decide) : PMk X (.Call (.Name x p) [] [] pos) (tMkO C sp [] tNil) := by
  intro pins s1 σ H1 Q I1 h
  obtain ⟨hz, q1⟩ := h
  obtain ⟨nm, q, N, bs, sn, sub, ab, col, dd, k0, k1, k2, k3, k5, hC⟩ := T.cls
  refine wpAny_Call_Name_kw (ld_glob I1 hg hm (PySem.W.callWith_K0 I1.kIn T.kC ?_) hdb)
  show wpAny _ _ (call (.ref C) []) _ _ _
  obtain ⟨hp, g, dr, tk, os⟩ := s1
  have z : hp.objs.size ≤ hp.objs.size + 1 := Nat.le_succ _
  have hq := q1 (hp.objs.size + 1) (I1.hok.fresh z)
  have rv0 : Vals [V.ref (hp.objs.size + 1)] [Value.ref (hp.objs.size + 1)] := .cons rfl .nil
  have kk : ∀ b o, hp.get? b = some o → ((hp.push (PySem.W.kdv_tup [])).push (PySem.HandSPX.excO C hp.objs.size)).get? b = some o := fun b o e1 => Heap.get?_push_of_some _ (Heap.get?_push_of_some _ e1)
  have I2 : L2.Inv X pins σ (upd H1 (hp.objs.size + 1) (exo (hp.objs.size + 1) C none)) ⟨(hp.push (PySem.W.kdv_tup [])).push (PySem.HandSPX.excO C hp.objs.size), g, dr, tk, os⟩ := I1.laid (t' := tk) (a := hp.objs.size + 1) (o := exo (hp.objs.size + 1) C none) (h' := (hp.push (PySem.W.kdv_tup [])).push (PySem.HandSPX.excO C hp.objs.size)) kk z (exo_ok (by heap_get))
  refine wpAny_call (PySem.HandSPX.call_own T.fb (fun _ => rfl) (I1.kIn _ _ hC) (PySem.W.looks_findIn I1.kIn iC) (fun self => PySem.W.bind_fn I1.kIn self tI) (Nat.zero_le _) (codeAny_mono (F1.run _ X.stack _ _ ⟨[Value.ref (hp.objs.size + 1)], []⟩ [Value.ref (hp.objs.size + 1)] _ _ (fun _ _ _ => False) (hr.make C [] []) (I2.env0.make C [] []) (hb _ [Value.ref (hp.objs.size + 1)] I2.kIn (F1.len _ _ _ _ hq)) rv0 hq) fun r s' hq' => ?_))
  cases r with
  | error er => exact hx pins σ _ _ er s' I2 hq'
  | ok fl =>
    cases fl with
    | ret u => obtain ⟨v, H2, os2, bare2, un2, hok2, rv, ev, d, fs, ea, ed, hd1, q2⟩ := hq'; subst ev; obtain ⟨h2, g2, d2, t2, os'⟩ := s'; exact ⟨rv, mk_end (raises_own T.exC T.tyC) I1 z kk un2 hok2 os2 bare2 ea ed hd1 q2⟩
    | next => exact hq'.elim
    | brk => exact hq'.elim
    | cont => exact hq'.elim
end
end Bw
set_option Elab.async false
set_option linter.all false
set_option maxRecDepth 100000
set_option maxHeartbeats 4000000
namespace Bw
open PySem PySem.Spec PyProof.Rows L2 LamX
/-! ### try: .. except x as n: .. except (x1, x2, x3, x4) as n: .. -/
abbrev endsAs (i : Nat) (D : Ends) : Ends := { nx := fun σ' H' => D.nx (σ'.set i none) H', rt := D.rt, bk := fun σ' H' => D.bk (σ'.set i none) H', ct := fun σ' H' => D.ct (σ'.set i none) H' }
def wAs2 (K : PySem.W.Frag) (c : Value) (cs : List Value) (i : Nat) (t1 t2 : Addr → Value → Option Addr → TS) (D : Ends) : WX := fun cls d σ H =>
  (PySem.W.exmOne K cls c = some true ∧ ∀ a, H a = none → t1 a cls d (endsAs i D) (σ.set i (some (.ref a))) H) ∨ (PySem.W.exmOne K cls c = some false ∧ PySem.W.exmAny K cls cs = some true ∧ ∀ a, H a = none → t2 a cls d (endsAs i D) (σ.set i (some (.ref a))) H)
theorem fly_push {B : Heap} {l : List Env} {a : Addr} {Z : Obj → Prop} {h h' : Heap} (k : ∀ b o, h.get? b = some o → h'.get? b = some o) (f : HandSPX.FlyingZ B l a Z h) : HandSPX.FlyingZ B l a Z h' := by
  obtain ⟨f1, f2, f3, oe, vs, T, oT, ts, e1, e2, e3, e4, e5, e6, e7, e8⟩ := f
  exact ⟨fun b o e => k _ _ (f1 b o e), f2, Heap.FunFrames.of_keeps (fun b o e _ => ⟨o, k _ _ e, rfl⟩) f3, oe, vs, T, oT, ts, k _ _ e1, e2, e3, e4, e5, e6, k _ _ e7, e8⟩
theorem ps_try_as2 {X : Cx} {x x1 x2 x3 x4 n : Str} {c c1 c2 c3 c4 : Value} {i : Nat} {body suite suite2 : List Stmt} {b₀ b2₀ : Stmt} {np q1 q2 q3 q4 qt pos pos' pos2 : Pos} {tup} {tb : WX → TS} {ts ts2 : Addr → Value → Option Addr → TS} (hs : X.stack = X.env :: X.outer) (hf : X.env.frame = some X.env.locals) (hN : X.N.Nodup) (hi : X.N[i]? = some n) (hln : X.env.kindOf n = some .local)
    (hc : Names X x c) (h1 : Names X x1 c1) (h2 : Names X x2 c2) (h3 : Names X x3 c3) (h4 : Names X x4 c4)
    (hb : ∀ (W : WX) (pn : List (Addr × Obj)) (xe : Value → Shared → Prop), Takes (X.tr pn xe) W → PassesOwn (model X.prog X.w) X.A X.env xe → PSs (X.tr pn xe) body (tb W))
    (hsu : ∀ (a : Addr) (oe : Obj) (cls : Value) (d : Option Addr) (pn : List (Addr × Obj)), Zc cls d oe → (∃ vs, oe.data = .fields vs) → PSs (X.suite a ((a, oe) :: pn)) (b₀ :: suite) (ts a cls d))
    (hs2 : ∀ (a : Addr) (oe : Obj) (cls : Value) (d : Option Addr) (pn : List (Addr × Obj)), Zc cls d oe → (∃ vs, oe.data = .fields vs) → PSs (X.suite a ((a, oe) :: pn)) (b2₀ :: suite2) (ts2 a cls d)) :
    PS X (.Try body [.ExceptHandler (some (.Name x np)) (some n) (b₀ :: suite) pos', .ExceptHandler (some (.Tuple [.Name x1 q1, .Name x2 q2, .Name x3 q3, .Name x4 q4] tup qt)) (some n) (b2₀ :: suite2) pos2] [] [] pos) (fun D σ H => tb (wAs2 X.K c [c1, c2, c3, c4] i ts ts2 D) D σ H) := by
  refine ⟨fun pins s σ H D I h => ?_⟩
  have ok := I.ok
  have hfr : X.A.frames = some (X.env :: X.outer) := by rw [ok.frames, hs]
  have hloc : Loc X.env.scope n := .inl hln
  refine wpAny_Try_except (wpAny_mono ((hb (wAs2 X.K c [c1, c2, c3, c4] i ts ts2 D) (X.pn ++ pins) (fun e s₁ => wpAny (model X.prog X.w) X.A (noteFrame e X.env) (fun _ s₂ => wpAny (model X.prog X.w) X.A (setFlight e none) (fun _ s₃ => wpAny (model X.prog X.w) X.A (handleBy e X.env [.ExceptHandler (some (.Name x np)) (some n) (b₀ :: suite) pos', .ExceptHandler (some (.Tuple [.Name x1 q1, .Name x2 q2, .Name x3 q3, .Name x4 q4] tup qt)) (some n) (b2₀ :: suite2) pos2]) (SP X pins D) X.xe s₃) X.xe s₂) X.xe s₁) (fun u s' xx => ?_) PassesOwn.looking).run [] s σ H D (I.toTry _) h) (fun f s1 hsp => ?_) (fun e s1 he => he))
  · obtain ⟨a, B, sI, pins', σ', H', cls, d, rfl, J', nb, up, sky, na, os, ag, hw⟩ := xx
    have J : L2.Inv X pins σ' H' sI := J'.ofTry ok
    have sky' : Sky B (X.env :: X.outer) a (Zc cls d) X.env.locals s'.heap := by rw [← hs]; exact sky
    show wpAny (model X.prog X.w) X.A (noteFrame (.ref a) X.env) _ _ _
    refine Sky.land Zc.steady hfr hf sky' fun g3 fl3 up3 => ?_
    have J3 : L2.Inv X pins σ' H' { s' with heap := g3 } := J.landed nb fl3.1 (up.trans up3) os ag
    obtain ⟨oe3, vs3, he3, hz3, hd3⟩ := fl3.there
    have nfr : a ∉ frs (X.env :: X.outer) := fun hm => by obtain ⟨_, o', e', hnf⟩ := fl3.2.2.1.mem hm; rw [he3] at e'; cases e'; exact hnf _ hd3
    have nL : a ≠ X.env.locals := fun z => nfr (List.mem_filterMap.mpr ⟨X.env, List.mem_cons_self, by rw [hf, z]⟩)
    have nF : a ∉ X.fs := fun hm => by obtain ⟨e, he, q⟩ := List.mem_filterMap.mp hm; exact nfr (List.mem_filterMap.mpr ⟨e, List.mem_cons_of_mem _ he, q⟩)
    have S3 := J3.suite he3 hd3 na nL nF
    have rd : ∀ {y : Str} {k : Value} {pp : Pos} {Q : Value → Shared → Prop} {E : Value → Shared → Prop}, Names X y k → Q k { s' with heap := g3 } → wpAny (model X.prog X.w) (X.A.mark (some (.ref a))) (eval (.Name y pp) X.env) Q E { s' with heap := g3 } := fun {y k pp Q E} hy q => by
      obtain ⟨hg, hdbg, hm | ⟨hm, hv, hnn⟩⟩ := hy
      · exact ld_glob (X := X.suite a ((a, oe3) :: (X.pn ++ pins))) S3 hg hm q hdbg
      · exact ld_blt (X := X.suite a ((a, oe3) :: (X.pn ++ pins))) S3 hg hm hv q hnn hdbg
    have LT : PySem.W.Looks (model X.prog X.w) g3 (typeOf (.ref a)) cls := fun A Q E s k q => wpAny_typeOf_ref (k _ _ he3) (by rw [hz3.1]; exact q)
    refine wpAny_handleBy_cons (codeAny_handlers_test ?_) (by intro q; cases q)
    rcases hw with ⟨hb1, hyes⟩ | ⟨hb1, hb2, hyes⟩
    · refine rd hc ((PySem.W.exm_one (M := model X.prog X.w) J3.kIn LT hb1).here (codeAny_handlers_suite_as ?_))
      refine HandSPX.lands_againZ fl3 fun g4 fl4 up4 => ?_
      have J4 : L2.Inv X pins σ' H' { s' with heap := g4 } := J.landed nb fl4.1 ((up.trans up3).trans up4) os ag
      obtain ⟨oe4, vs4, he4, hz4, hd4⟩ := fl4.there
      refine store_ok (X := X.suite a ((a, oe4) :: (X.pn ++ pins))) (v := .ref a) (J4.suite he4 hd4 na nL nF) hN hi hloc rfl (fun s5 S5 => ?_) (.inr hln)
      refine wpAny_mono ((hsu a oe4 cls d (X.pn ++ pins) hz4 ⟨_, hd4⟩).run [] s5 _ H' _ S5 (hyes a na)) (fun f s6 hsp => ?_) (fun _ _ z => z.elim)
      have en : ∀ {σ6 : L2.St} {H6 : Hp} {Q : Shared → Prop}, L2.Inv (X.suite a ((a, oe4) :: (X.pn ++ pins))) [] σ6 H6 s6 → (∀ s7, L2.Inv X pins (σ6.set i none) H6 s7 → Q s7) → wpAny (model X.prog X.w) X.A (do bindName X.env n .none; unbindBehindTheSuite X.env n pos') (fun _ s7 => Q s7) X.xe s6 := fun {σ6 H6 Q} S6 hq => gone_ok (S6.unsuite ok) hN hi hln hq
      cases f with
      | next => obtain ⟨σ6, H6, S6, q6⟩ := hsp; exact en S6 fun s7 J7 => ⟨_, _, J7, q6⟩
      | brk => obtain ⟨σ6, H6, S6, q6⟩ := hsp; exact en S6 fun s7 J7 => ⟨_, _, J7, q6⟩
      | cont => obtain ⟨σ6, H6, S6, q6⟩ := hsp; exact en S6 fun s7 J7 => ⟨_, _, J7, q6⟩
      | ret u => obtain ⟨v6, σ6, H6, S6, r6, q6⟩ := hsp; exact en S6 fun s7 J7 => ⟨_, _, _, J7, r6, q6⟩
    · refine rd hc ((PySem.W.exm_one (M := model X.prog X.w) J3.kIn LT hb1).here ?_)
      show wpAny _ X.A (handleBy (.ref a) X.env [.ExceptHandler (some (.Tuple [.Name x1 q1, .Name x2 q2, .Name x3 q3, .Name x4 q4] tup qt)) (some n) (b2₀ :: suite2) pos2]) _ _ _
      refine wpAny_handleBy_cons (codeAny_handlers_test ?_) (by intro q; cases q)
      refine wpAny_Tuple_spliced ?_
      show wpAny _ _ (spliced [(false, eval (.Name x1 q1) X.env), (false, eval (.Name x2 q2) X.env), (false, eval (.Name x3 q3) X.env), (false, eval (.Name x4 q4) X.env)]) _ _ _
      refine Calls.spliced_cons (rd h1 (Calls.spliced_cons (rd h2 (Calls.spliced_cons (rd h3 (Calls.spliced_cons (rd h4 (Calls.spliced_nil ⟨(show 4 ≤ sizeLine by decide), ?_⟩))))))))
      have kp : ∀ b o, g3.get? b = some o → (g3.push { cls := .type "tuple", data := .seq [c1, c2, c3, c4].toArray }).get? b = some o := fun b o e => Heap.get?_push_of_some _ e
      refine (PySem.W.exm_tup4 (M := model X.prog X.w) (tp := g3.objs.size) (fun b o e => kp _ _ (J3.kIn b o e)) (LT.keeps kp) (Heap.get?_push_size _ rfl) hb2).here (codeAny_handlers_suite_as ?_)
      refine HandSPX.lands_againZ (fly_push kp fl3) fun g4 fl4 up4 => ?_
      have J4 : L2.Inv X pins σ' H' { s' with heap := g4 } := J.landed nb fl4.1 (((up.trans up3).trans (Heap.UpToSlots.of_keeps kp)).trans up4) os ag
      obtain ⟨oe4, vs4, he4, hz4, hd4⟩ := fl4.there
      refine store_ok (X := X.suite a ((a, oe4) :: (X.pn ++ pins))) (v := .ref a) (J4.suite he4 hd4 na nL nF) hN hi hloc rfl (fun s5 S5 => ?_) (.inr hln)
      refine wpAny_mono ((hs2 a oe4 cls d (X.pn ++ pins) hz4 ⟨_, hd4⟩).run [] s5 _ H' _ S5 (hyes a na)) (fun f s6 hsp => ?_) (fun _ _ z => z.elim)
      have en : ∀ {σ6 : L2.St} {H6 : Hp} {Q : Shared → Prop}, L2.Inv (X.suite a ((a, oe4) :: (X.pn ++ pins))) [] σ6 H6 s6 → (∀ s7, L2.Inv X pins (σ6.set i none) H6 s7 → Q s7) → wpAny (model X.prog X.w) X.A (do bindName X.env n .none; unbindBehindTheSuite X.env n pos2) (fun _ s7 => Q s7) X.xe s6 := fun {σ6 H6 Q} S6 hq => gone_ok (S6.unsuite ok) hN hi hln hq
      cases f with
      | next => obtain ⟨σ6, H6, S6, q6⟩ := hsp; exact en S6 fun s7 J7 => ⟨_, _, J7, q6⟩
      | brk => obtain ⟨σ6, H6, S6, q6⟩ := hsp; exact en S6 fun s7 J7 => ⟨_, _, J7, q6⟩
      | cont => obtain ⟨σ6, H6, S6, q6⟩ := hsp; exact en S6 fun s7 J7 => ⟨_, _, J7, q6⟩
      | ret u => obtain ⟨v6, σ6, H6, S6, r6, q6⟩ := hsp; exact en S6 fun s7 J7 => ⟨_, _, _, J7, r6, q6⟩
  · cases f with
    | next => exact let ⟨σ', H', J', q⟩ := hsp; wpAny_execs_nil ⟨σ', H', J'.ofTry ok, q⟩
    | brk => exact let ⟨σ', H', J', q⟩ := hsp; ⟨σ', H', J'.ofTry ok, q⟩
    | cont => exact let ⟨σ', H', J', q⟩ := hsp; ⟨σ', H', J'.ofTry ok, q⟩
    | ret u => exact let ⟨v, σ', H', J', r, q⟩ := hsp; ⟨v, σ', H', J'.ofTry ok, r, q⟩
/-! ### the word of a refusal of any kind, or none -/
def ErrAtW (K : PySem.W.Frag) (CB : Addr) (cs : List Value) (cls : Value) (d : Option Addr) (H : Hp) (v : V) : Prop := ∃ (C dd : Addr) (fs : List (Str × V)), cls = .ref C ∧ d = some dd ∧ (PySem.W.exmOne K (.ref C) (.ref CB) = some true ∨ (PySem.W.exmOne K (.ref C) (.ref CB) = some false ∧ PySem.W.exmAny K (.ref C) cs = some true)) ∧ XfC K C ∧ PySem.W.findIn K (.ref C) "word" = some none ∧ H dd = some (.xd fs) ∧ fs.lookup ("word" : Str) = some v
theorem ErrAt.wide {K : PySem.W.Frag} {CB : Addr} {cs : List Value} {cls : Value} {d : Option Addr} {H : Hp} {v : V} (h : ErrAt K CB cls d H v) : ErrAtW K CB cs cls d H v := by
  obtain ⟨C, dd, fs, h1, h2, h3, h4⟩ := h
  exact ⟨C, dd, fs, h1, h2, .inl h3, h4⟩
def TWordW (K : PySem.W.Frag) (CB : Addr) (cs : List Value) : (XK → Hp → VK → Prop) → Hp → VK → Prop := fun tl H Q => tl (fun cls d H' => ∃ v, ErrAtW K CB cs cls d H' v ∧ Q v H') H (fun _ H' => Q (.str "") H')
theorem word_givesW {X : Cx} {Ng : List Str} {x a q : Str} {sg : Scope} {g CB c1 c2 c3 c4 : Addr} {cdg : Value} {j : Nat} {tup} {p1 p2 p3 p4 p5 p6 p7 p8 p9 p10 p11 r1 r2 r3 r4 r5 r6 r7 r8 r9 : Pos} (hge : sg.names.lookup ("BudError" : Str) = some .globalImplicit) (hme : X.mg "BudError" = some (.ref CB))
    (g1 : sg.names.lookup ("NoPart" : Str) = some .globalImplicit) (m1 : X.mg "NoPart" = some (.ref c1)) (g2 : sg.names.lookup ("NoPlace" : Str) = some .globalImplicit) (m2 : X.mg "NoPlace" = some (.ref c2)) (g3 : sg.names.lookup ("Lacking" : Str) = some .globalImplicit) (m3 : X.mg "Lacking" = some (.ref c3)) (g4 : sg.names.lookup ("NothingLeft" : Str) = some .globalImplicit) (m4 : X.mg "NothingLeft" = some (.ref c4))
    (hNd : Ng.Nodup) (hN1 : Ng[1]? = some ("e" : Str)) (hk : sg.names.lookup ("e" : Str) = some .local) (h0 : ∀ f : Addr, (L2.start Ng [V.ref f])[0]? = some (some (V.ref f))) :
    GivesTo X Ng x sg g cdg [.Try [.Expr (.Call (.Name a p1) [] [] p2) p3] [.ExceptHandler (some (.Name "BudError" p4)) (some "e") [.Return (some (.Attribute (.Name "e" p5) "word" p6)) p7] p8, .ExceptHandler (some (.Tuple [.Name "NoPart" r1, .Name "NoPlace" r2, .Name "Lacking" r3, .Name "NothingLeft" r4] tup r5)) (some "e") [.Return (some (.Attribute (.Name "e" r6) "word" r7)) r8] r9] [] [] p9, .Return (some (.Constant (.str "") j p10)) p11] a q (TWordW X.K CB [.ref c1, .ref c2, .ref c3, .ref c4]) := by
  intro f c' s H Q tl act hc h
  have nm : ∀ {y : Str} {k : Addr}, sg.names.lookup y = some .globalImplicit → X.mg y = some (.ref k) → (y == ("__debug__" : Str)) = false → Names (cxOf C8.CX0 X.prog X.w X.K X.mg X.base Ng x sg g cdg X.A X.stack s H C8.E0).nox y (.ref k) := fun hy hm hd => ⟨hy, hd, .inl hm⟩
  refine ⟨_, pss_cons (ps_try_as2 (X := (cxOf C8.CX0 X.prog X.w X.K X.mg X.base Ng x sg g cdg X.A X.stack s H C8.E0).nox) (c := .ref CB) (i := 1)
      (tb := fun W D σ H => ∃ Ech : XK, (∀ cls d σ' H', Ech cls d H' → σ'.length = Ng.length → W cls d σ' H') ∧ σ[0]? = some (some (.ref f)) ∧ H c' = some (CodeO c' q) ∧ tl Ech H fun _ H' => D.nx σ H')
      (ts := fun a cls d => tRet (tXfD X.K a cls d "word" 1)) (ts2 := fun a cls d => tRet (tXfD X.K a cls d "word" 1)) rfl rfl hNd hN1 hk (nm hge hme (by decide)) (nm g1 m1 (by decide)) (nm g2 m2 (by decide)) (nm g3 m3 (by decide)) (nm g4 m4 (by decide)) (fun W pn xe tk _ => ?_) (fun b oe cls d pn hz hf => pss_one (ps_ret (pe_xfD hz hf (pe_var hN1 (.inl hk))))) (fun b oe cls d pn hz hf => pss_one (ps_ret (pe_xfD hz hf (pe_var hN1 (.inl hk)))))) (pss_one (ps_ret pe_str)), ?_⟩
  · refine ⟨fun pins s' σ H' D I h' => ?_⟩
    obtain ⟨Ech, hW, k1, k2, k3⟩ := h'
    exact (pss_one (ps_expr (pos := p3) (act _ pn xe Ech p1 p2 (takes_len tk) hW))).run pins s' σ H' D I ⟨k1, k2, k3⟩
  · refine ⟨fun cls d H' => ∃ v, ErrAtW X.K CB [.ref c1, .ref c2, .ref c3, .ref c4] cls d H' v ∧ Q v H', fun cls d σ' H' hE hl => ?_, h0 f, hc, h⟩
    obtain ⟨v, ⟨C, dd, fs, rfl, rfl, e1, e2, e3, e4, e5⟩, hQ⟩ := hE
    have lt : 1 < σ'.length := by rw [hl]; exact (List.getElem?_eq_some_iff.mp hN1).1
    have sd : ∀ b, H' b = none → tRet (tXfD X.K b (.ref C) (some dd) "word" 1) (endsAs 1 { nx := tRet (tC (.str "")) { nx := fun _ H' => Q .non H', rt := Q }, rt := Q }) (σ'.set 1 (some (.ref b))) H' := fun b _ => ⟨by rw [List.getElem?_set_self lt], C, dd, fs, v, rfl, e2, e3, rfl, e4, e5, hQ⟩
    rcases e1 with e1 | ⟨e1, e1'⟩
    · exact .inl ⟨e1, fun b hb => sd b hb⟩
    · exact .inr ⟨e1, e1', fun b hb => sd b hb⟩
end Bw
set_option Elab.async false
set_option linter.all false
set_option maxRecDepth 100000
set_option maxHeartbeats 4000000
namespace Bw
open PySem PySem.Spec PyProof.Rows L2
/-- what the written part says of an error's class that stands under BudError -/
structure ErrC (K : PySem.W.Frag) (mg : Str → Option Value) (x : Str) (C f CB : Addr) : Prop where
  g : mg x = some (.ref C)
  oex : OexC K C
  iC : PySem.W.findIn K (.ref C) "__init__" = some (some (.ref f))
  tI : PySem.W.typeIn K (.ref f) = some (.type "function")
  nw : PySem.W.findIn K (.ref C) "word" = some none
  xf : XfC K C
  te : PySem.W.exmOne K (.ref C) (.ref CB) = some true
def wordFs (x : Str) : List (Str × V) := [("word", .str x)]
theorem ErrC.at {K : PySem.W.Frag} {mg : Str → Option Value} {x wd : Str} {C f CB d : Addr} {H : Hp} (T : ErrC K mg x C f CB) (h : H d = some (.xd (wordFs wd))) : ErrAt K CB (.ref C) (some d) H (.str wd) := ⟨C, d, _, rfl, rfl, T.te, T.xf, T.nw, h, rfl⟩
/-- an error's own __init__ that wants nothing -/
def spErrInit (K : PySem.W.Frag) (wd : Str) : Sp := fun vs H Q _ => ∃ (a C : Addr), vs = [.ref a] ∧ OexC K C ∧ PySem.W.findIn K (.ref C) "word" = some none ∧ H a = some (exo a C none) ∧
  ∀ (dx : Addr) (H' : Hp), H dx = none → dx ≠ a → H' a = some (exo a C (some dx)) → H' dx = some (exd dx (wordFs wd)) → (∀ b, b ≠ a → b ≠ dx → H' b = H b) → Q .non H'
/-- raise x(): its reading, where what was stays -/
theorem raise_done {K : PySem.W.Frag} {mg : Str → Option Value} {x wd : Str} {C f CB : Addr} {σ : L2.St} {H : Hp} {E : XK} (T : ErrC K mg x C f CB) (q : ∀ (d : Addr) (H' : Hp), Same H H' → H' d = some (.xd (wordFs wd)) → E (.ref C) (some d) H') : tMkO C (spErrInit K wd) [] tNil σ H E := by
  refine ⟨by show 0 ≤ 1000; decide, fun x ex => ?_⟩
  refine ⟨x, C, rfl, T.oex, T.nw, upd_same, fun dx H6 ed nd hx hd hk => ?_⟩
  have ed2 : H dx = none := by
    rw [upd_ne nd] at ed
    exact ed
  refine ⟨rfl, dx, _, hx, hd, ed2, q dx _ (fun c o e2 => ?_) upd_same⟩
  have n1 : c ≠ x := ne_of_none e2 ex
  have n2 : c ≠ dx := ne_of_none e2 ed2
  rw [upd_ne n2, del_ne n1, hk c n1 n2, upd_ne n1]
  exact e2
structure CalX (P : Program) (w : World) (K : PySem.W.Frag) (mg : Str → Option Value) (base : Heap) (k : Nat) (x : Str) (ps : List Str) (sp : Sp) : Prop where
  ex : ∃ (f : Addr) (fd : FuncData), FnOk P w K mg base (L2.CX P w) k f fd ps sp ∧ mg x = some (.ref f) ∧ PySem.W.keepIn K (.ref f) = true ∧ Binds K fd ps []
theorem pe_calX {X : Cx} {x : Str} {ps : List Str} {sp : Sp} {k : Nat} {e : Expr} {es : List Expr} {p pos : Pos} {t : TA} {E : XK} (C : CalX X.prog X.w X.K X.mg X.base k x ps sp) (hr : Room k X.A) (hg : Gl X x) (hx : Passes (L2.CX X.prog X.w) X E) (ha : PA X (e :: es) t) (hdb : (x == ("__debug__" : Str)) = false := by decide) (he : starEach (e :: es) X.env = (false, eval e X.env) :: starEach es X.env := by rfl)
    (hpl : (backTo pos (starEach es X.env)).any (·.1) = false := by rfl) : PE X (.Call (.Name x p) (e :: es) [] pos) (tCall sp [] E t) := by
  obtain ⟨f, fd, F, hm, hk, hb⟩ := C.ex
  exact pe_call F hr hg hm hk hb .nil hx ha hdb he hpl
/-- what of a callee may be let out is let out -/
theorem passE {X : Cx} {E : XK} {E₁ : Value → Shared → Prop} (hs : X.stack = X.env :: X.outer) (hf : X.env.frame = some X.env.locals) (hex : X.ex = []) (hx : X.xe = fun e s' => wpAny (model X.prog X.w) X.A (leaving X.env e) (fun _ s'' => L2.CX X.prog X.w X.outer X.H_0 X.s_0 E e s'') E₁ s') : Passes (L2.CX X.prog X.w) X E := passes_call (takes_of hs hf hex hx) fun _ _ _ _ h => h
def fldFs (fld wd : Str) (x : V) : List (Str × V) := [(fld, x), ("word", .str wd)]
def spErrInit1 (K : PySem.W.Frag) (wd fld : Str) : Sp := fun vs H Q _ => ∃ (a C : Addr) (x : V), vs = [.ref a, x] ∧ OexC K C ∧ PySem.W.findIn K (.ref C) "word" = some none ∧ PySem.W.findIn K (.ref C) fld = some none ∧ H a = some (exo a C none) ∧
  ∀ (dx : Addr) (H' : Hp), H dx = none → dx ≠ a → H' a = some (exo a C (some dx)) → H' dx = some (exd dx (fldFs fld wd x)) → (∀ b, b ≠ a → b ≠ dx → H' b = H b) → Q .non H'
theorem ErrC.at1 {K : PySem.W.Frag} {mg : Str → Option Value} {x wd fld : Str} {C f CB d : Addr} {H : Hp} {v : V} (T : ErrC K mg x C f CB) (hn : (("word" : Str) == fld) = false) (h : H d = some (.xd (fldFs fld wd v))) : ErrAt K CB (.ref C) (some d) H (.str wd) := ⟨C, d, _, rfl, rfl, T.te, T.xf, T.nw, h, by
  unfold fldFs
  rw [List.lookup_cons, hn]
  rfl⟩
theorem mk_done1 {K : PySem.W.Frag} {mg : Str → Option Value} {y wd fld : Str} {C f CB : Addr} {H : Hp} {E : XK} {x : V} (T : ErrC K mg y C f CB) (nf : PySem.W.findIn K (.ref C) fld = some none) (q : ∀ (d : Addr) (H' : Hp), Same H H' → H' d = some (.xd (fldFs fld wd x)) → E (.ref C) (some d) H') :
    [x].length ≤ 1000 ∧ ∀ a, H a = none → spErrInit1 K wd fld (.ref a :: ([x] ++ [])) (upd H a (exo a C none)) (fun v H2 => v = .non ∧ ∃ (d : Addr) (fs : List (Str × V)), H2 a = some (exo a C (some d)) ∧ H2 d = some (exd d fs) ∧ H d = none ∧ E (.ref C) (some d) (upd (del H2 a) d (.xd fs))) (fun _ _ _ => False) := by
  refine ⟨by show 1 ≤ 1000; decide, fun a ea => ?_⟩
  refine ⟨a, C, x, rfl, T.oex, T.nw, nf, upd_same, fun dx H6 ed nd hx hd hk => ?_⟩
  have ed2 : H dx = none := by
    rw [upd_ne nd] at ed
    exact ed
  refine ⟨rfl, dx, _, hx, hd, ed2, q dx _ (fun c o e2 => ?_) upd_same⟩
  have n1 : c ≠ a := ne_of_none e2 ea
  have n2 : c ≠ dx := ne_of_none e2 ed2
  rw [upd_ne n2, del_ne n1, hk c n1 n2, upd_ne n1]
  exact e2
/-! ### errors over other built-in errors -/
structure ErrB (K : PySem.W.Frag) (mg : Str → Option Value) (x : Str) (C f CB : Addr) (cs : List Value) (B nw ini : String) (tl : List Value) : Prop where
  g : mg x = some (.ref C)
  oex : OexB K C B nw ini tl
  iC : PySem.W.findIn K (.ref C) "__init__" = some (some (.ref f))
  tI : PySem.W.typeIn K (.ref f) = some (.type "function")
  nw : PySem.W.findIn K (.ref C) "word" = some none
  xf : XfC K C
  t0 : PySem.W.exmOne K (.ref C) (.ref CB) = some false
  te : PySem.W.exmAny K (.ref C) cs = some true
def spErrInitB1 (K : PySem.W.Frag) (B nw ini : String) (tl : List Value) (wd fld : Str) : Sp := fun vs H Q _ => ∃ (a C : Addr) (x : V), vs = [.ref a, x] ∧ OexB K C B nw ini tl ∧ PySem.W.findIn K (.ref C) "word" = some none ∧ PySem.W.findIn K (.ref C) fld = some none ∧ H a = some (exo a C none) ∧
  ∀ (dx : Addr) (H' : Hp), H dx = none → dx ≠ a → H' a = some (exo a C (some dx)) → H' dx = some (exd dx (fldFs fld wd x)) → (∀ b, b ≠ a → b ≠ dx → H' b = H b) → Q .non H'
def spErrInitB0 (K : PySem.W.Frag) (B nw ini : String) (tl : List Value) (wd : Str) : Sp := fun vs H Q _ => ∃ (a C : Addr), vs = [.ref a] ∧ OexB K C B nw ini tl ∧ PySem.W.findIn K (.ref C) "word" = some none ∧ H a = some (exo a C none) ∧
  ∀ (dx : Addr) (H' : Hp), H dx = none → dx ≠ a → H' a = some (exo a C (some dx)) → H' dx = some (exd dx (wordFs wd)) → (∀ b, b ≠ a → b ≠ dx → H' b = H b) → Q .non H'
section
variable {K : PySem.W.Frag} {mg : Str → Option Value} {y wd fld : Str} {C f CB d : Addr} {cs : List Value} {B nw ini : String} {tl : List Value} {H : Hp} {E : XK} {x v : V} {σ : L2.St}
theorem ErrB.at1 (T : ErrB K mg y C f CB cs B nw ini tl) (hn : (("word" : Str) == fld) = false) (h : H d = some (.xd (fldFs fld wd v))) : ErrAtW K CB cs (.ref C) (some d) H (.str wd) := ⟨C, d, _, rfl, rfl, .inr ⟨T.t0, T.te⟩, T.xf, T.nw, h, by
  unfold fldFs
  rw [List.lookup_cons, hn]
  rfl⟩
theorem ErrB.at (T : ErrB K mg y C f CB cs B nw ini tl) (h : H d = some (.xd (wordFs wd))) : ErrAtW K CB cs (.ref C) (some d) H (.str wd) := ⟨C, d, _, rfl, rfl, .inr ⟨T.t0, T.te⟩, T.xf, T.nw, h, rfl⟩
theorem mk_doneB1 (T : ErrB K mg y C f CB cs B nw ini tl) (nf : PySem.W.findIn K (.ref C) fld = some none) (q : ∀ (d : Addr) (H' : Hp), Same H H' → H' d = some (.xd (fldFs fld wd x)) → E (.ref C) (some d) H') :
    [x].length ≤ 1000 ∧ ∀ a, H a = none → spErrInitB1 K B nw ini tl wd fld (.ref a :: ([x] ++ [])) (upd H a (exo a C none)) (fun v H2 => v = .non ∧ ∃ (d : Addr) (fs : List (Str × V)), H2 a = some (exo a C (some d)) ∧ H2 d = some (exd d fs) ∧ H d = none ∧ E (.ref C) (some d) (upd (del H2 a) d (.xd fs))) (fun _ _ _ => False) := by
  refine ⟨by show 1 ≤ 1000; decide, fun a ea => ?_⟩
  refine ⟨a, C, x, rfl, T.oex, T.nw, nf, upd_same, fun dx H6 ed nd hx hd hk => ?_⟩
  have ed2 : H dx = none := by
    rw [upd_ne nd] at ed
    exact ed
  refine ⟨rfl, dx, _, hx, hd, ed2, q dx _ (fun c o e2 => ?_) upd_same⟩
  have n1 : c ≠ a := ne_of_none e2 ea
  have n2 : c ≠ dx := ne_of_none e2 ed2
  rw [upd_ne n2, del_ne n1, hk c n1 n2, upd_ne n1]
  exact e2
theorem raise_doneB (T : ErrB K mg y C f CB cs B nw ini tl) (q : ∀ (d : Addr) (H' : Hp), Same H H' → H' d = some (.xd (wordFs wd)) → E (.ref C) (some d) H') : tMkO C (spErrInitB0 K B nw ini tl wd) [] tNil σ H E := by
  refine ⟨by show 0 ≤ 1000; decide, fun a ea => ?_⟩
  refine ⟨a, C, rfl, T.oex, T.nw, upd_same, fun dx H6 ed nd hx hd hk => ?_⟩
  have ed2 : H dx = none := by
    rw [upd_ne nd] at ed
    exact ed
  refine ⟨rfl, dx, _, hx, hd, ed2, q dx _ (fun c o e2 => ?_) upd_same⟩
  have n1 : c ≠ a := ne_of_none e2 ea
  have n2 : c ≠ dx := ne_of_none e2 ed2
  rw [upd_ne n2, del_ne n1, hk c n1 n2, upd_ne n1]
  exact e2
end
/-! ### methods that may raise -/
structure MetX (P : Program) (w : World) (K : PySem.W.Frag) (mg : Str → Option Value) (base : Heap) (k : Nat) (C : Addr) (m : Str) (ps : List Str) (sp : Sp) : Prop where
  ex : ∃ (f : Addr) (fd : FuncData), Cls K C ∧ Meth K C m f ∧ FnOk P w K mg base (L2.CX P w) k f fd ps sp ∧ Binds K fd ps []
theorem pe_mtX {X : Cx} {C : Addr} {m : Str} {ps : List Str} {sp : Sp} {k : Nat} {o e : Expr} {es : List Expr} {pos apos : Pos} {t : TA} {ta : TE} {E : XK} {pl : Sem Bool} (M : MetX X.prog X.w X.K X.mg X.base k C m ps sp) (hr : Room k X.A) (hx : Passes (L2.CX X.prog X.w) X E) (ho : PE X o ta) (ha : PA X (e :: es) t) (hst : starEach (e :: es) X.env = (false, eval e X.env) :: starEach es X.env := by rfl)
    (hpl : (backTo pos (starEach es X.env)).any (·.1) = false := by rfl)
    (ht : eval (.Call (.Attribute o m apos) (e :: es) [] pos) X.env = (do
      let ov ← eval o X.env
      standAt apos.atName
      let (f, first) ← holding [ov] (getMethod ov m pl)
      callWith pos f first (backTo pos (starEach (e :: es) X.env)) (backToKw pos (keywordEach [] X.env))) := by rfl) : PE X (.Call (.Attribute o m apos) (e :: es) [] pos) (tMeth C m sp [] E ta t) := by
  obtain ⟨f, fd, c, hm, F, hb⟩ := M.ex
  exact pe_meth (pl := pl) ho c hm F hr hb .nil hx ha hst hpl ht
end Bw
set_option Elab.async false
set_option linter.all false
set_option maxRecDepth 100000
set_option maxHeartbeats 4000000
namespace Bw
open PySem PySem.Spec PyProof.Rows L2 LamX
/-! ### _law_word(lambda: ..), refusals of all kinds, the tables of several defs -/
theorem pe_wordW {X : Cx} {T : List (Addr × Str)} {st : Stmt} {g CB c P : Addr} {cs : List Value} {fd : FuncData} {k : Nat} {params : Arguments} {body : Expr} {scope : Scope} {t : XK → TE} {p lpos pos : Pos}
    (F : Fun X.K "_law_word" "_law_word" st g fd) (gg : X.mg "_law_word" = some (.ref g)) (bb : L2.Binds X.K fd ["_law_asked"] []) (Sg : FnScope ["_law_asked", "e"] ["_law_asked"] (defScope st)) (hva : Vis (defScope st) "_law_asked") (hG : ∀ cdv, GivesTo X ["_law_asked", "e"] "_law_word" (defScope st) g cdv (defBody st) "_law_asked" (X.env.qual ++ "<lambda>") (TWordW X.K CB cs))
    (TB : TabB X.base X.mg c P) (hcode : X.env.code = .ref c) (hmT : (P, X.env.qual ++ "<lambda>") ∈ T) (hu : ∀ p ∈ T, p.1 = P → p.2 = X.env.qual ++ "<lambda>") (hr : Room (k + 2) X.A) (hg : Gl X "_law_word") (L : LamS X.env.scope scope)
    (hbody : ∀ (A : Around) (outer : List Env) (s : Shared) (H : Hp) (E : XK) (f c' : Addr), Room k (A.deeper (lamEnv X scope s.heap.objs.size f c')) → PE (lamCx X A outer s H E scope f c') body (t E)) (hdef : defaultsOf params X.env = ([], []))
    (hbind : ∀ (q : Str) (cl : List (Str × Addr)) (pm cv ctv : Value), bindArgs (PySem.W.kla_fn "<lambda>" q params body scope cl pm cv ctv) ⟨[], []⟩ = pure []) :
    PE X (.Call (.Name "_law_word" p) [.Lambda params body scope lpos] [] pos) (tLam T (TWordW X.K CB cs) t) := by
  obtain ⟨oc, od, kV, doc, pm, an, cdv, ct, osl, rfl, lk, hcd⟩ := F.ex
  exact pe_lamcall hg gg F.kp lk hcd bb Sg rfl hva (hG cdv) TB hcode hmT hu hr L hdef hbind hbody
def qL (x : Str) : Str := (x ++ (".<locals>." : Str)) ++ ("<lambda>" : Str)
theorem FeedAt.neO {H : Hp} {f l b : Addr} {o : HO} (h : FeedAt H f l) (e : H b = some o) (n : ∀ xs, o ≠ .lst xs) : b ≠ f := by
  obtain ⟨_, _, _, _, _, _, b', _⟩ := h
  intro z
  subst z
  rw [e] at b'
  exact n _ (Option.some.inj b')
theorem FeedAt.ext {H H' : Hp} {f l : Addr} (s : ExtN H H') (h : FeedAt H f l) : FeedAt H' f l := by
  obtain ⟨ns, i, n, m, c, a, b, d, r⟩ := h
  exact ⟨ns, i, n, m, c, a, s _ _ b (fun ps z => by cases z), s _ _ d (fun ps z => by cases z), r⟩
/-- the tables stay where only what is no table and no code changes -/
theorem Tabs.butO {T : List (Addr × Str)} {H H' : Hp} {a : Addr} {o : HO} (s : SameBut a H H') (e : H a = some o) (n1 : ∀ ps, o ≠ .tbl ps) (n2 : ∀ c q, o ≠ CodeO c q) (t : Tabs T H) : Tabs T H' := fun p hp => by
  obtain ⟨ps, h1, h2, h3⟩ := t p hp
  refine ⟨ps, s _ _ (fun z => by rw [z, e] at h1; exact n1 _ (Option.some.inj h1)) h1, h2, fun pos cv hc => ?_⟩
  obtain ⟨c, e1, e2⟩ := h3 pos cv hc
  exact ⟨c, e1, s _ _ (fun z => by rw [z, e] at e2; exact n2 _ _ (Option.some.inj e2)) e2⟩
theorem Tabs.put {T : List (Addr × Str)} {H : Hp} {a : Addr} {xs : List V} {o : HO} (t : Tabs T H) (e : H a = some (.lst xs)) : Tabs T (upd H a o) := Tabs.butO (SameBut.upd (SameBut.refl _ _)) e (fun ps z => by cases z) (fun c q z => by cases z) t
theorem Tabs.but {T : List (Addr × Str)} {H H' : Hp} {f l : Addr} (s : SameBut f H H') (hf : FeedAt H f l) (h : Tabs T H) : Tabs T H' := by
  obtain ⟨_, _, _, _, _, _, b', _⟩ := hf
  exact Tabs.butO s b' (fun ps z => by cases z) (fun c q z => by cases z) h
end Bw
set_option Elab.async false
set_option linter.all false
set_option maxRecDepth 100000
set_option maxHeartbeats 4000000
namespace L2
open PySem PySem.Spec PyProof.Rows
/-! ### len(set(tuple of unlike ints)) -/
def tLenSetT (K : PySem.W.Frag) (ta : TE) : TE := fun σ H Q => ta σ H fun x H1 => ∃ (l : Addr) (ns : List Int), x = V.ref l ∧ SqT K H1 l (ns.map V.int) ∧ ns.length < 64 ∧ ns.Nodup ∧ Q (.int ns.length) H1
theorem nodup_size {l m : List Int} (h1 : l.Nodup) (h2 : m.Nodup) (h : ∀ k, k ∈ l ↔ k ∈ m) : l.length = m.length := ((List.perm_ext_iff_of_nodup h1 h2).mpr h).length_eq
theorem pe_lenSetT {X : Cx} {a : Expr} {ta : TE} {p p2 q pos : Pos} (calm : X.calm = true) (g1 : Gl X "len") (m1 : X.mg "len" = none) (g2 : Gl X "set") (m2 : X.mg "set" = none) (ha : PE X a ta)
    (pa : starEach [a] X.env = (false, eval a X.env) :: starEach [] X.env := by rfl) : PE X (.Call (.Name "len" p) [.Call (.Name "set" p2) [a] [] q] [] pos) (tLenSetT X.K ta) := by
  constructor
  intro pins s σ H Q I h
  refine Call_ (ld_blt I g1 m1 PySem.boot_len ?_)
  refine PyProof.Rows.callWith_builtin1 (PyProof.Rows.args_cons (Call_ (ld_blt I g2 m2 PyProof.Rows.boot_set (PyProof.Rows.callWith_type1 (PyProof.Rows.args_cons (thn (ha.run pins s σ H _ I h) ?_) pa) pa rfl))) rfl) rfl rfl
  rintro v s1 ⟨x, H1, I1, r1, l, ns, rfl, hq, h1, hnd, q1⟩
  refine PyProof.Rows.args_nil ?_
  cases r1
  obtain ⟨its, rv, pt, _⟩ := I1.tuple hq
  refine call_set_tupI ns (I1.ok.hd calm) (show s1.heap.IsTuple l its.toArray from pt) (ints_of_vals rv) (by unfold scanBound; omega) fun h' tk c R1 _ k => ?_
  refine PyProof.Rows.args_nil ?_
  obtain ⟨o, es, ep, t, ho, hex, hdt, _, nd, mm, _, hf, _, _, _⟩ := R1
  have hn : es.size = ns.length := by
    have e := nodup_size nd hnd fun j => by rw [← mm j, decide_eq_true_eq]
    rw [List.length_map, Array.length_toList] at e
    exact e
  have J : Inv X pins σ H1 { s1 with heap := h', toks := tk } := I1.kept k
  exact call_len_set ho hex hdt hf (by rw [hn]; omega) ⟨.int ns.length, H1, J.tok _, ⟨_, by rw [hn]⟩, q1⟩
end L2
set_option Elab.async false
set_option linter.all false
set_option maxRecDepth 100000
namespace Bw
open PySem PySem.Spec PyProof.Rows L2
def topS (i : Nat) : Stmt := PySem.Challenge.pw_budwright_k06_sums_worth_at_parts.main.body.getD i (.Pass ⟨0, 0, 0, 0⟩)
structure Tx (mg : Str → Option Value) : Prop where
  len : mg "len" = none
  range : mg "range" = none
  zip : mg "zip" = none
  all : mg "all" = none
  any : mg "any" = none
  sorted : mg "sorted" = none
  isinstance : mg "isinstance" = none
  bool : mg "bool" = none
  tuple : mg "tuple" = none
  list : mg "list" = none
  dict : mg "dict" = none
  str : mg "str" = none
  min : mg "min" = none
  max : mg "max" = none
  sum : mg "sum" = none
  int : mg "int" = none
  abs : mg "abs" = none
  ZeroDivisionError : mg "ZeroDivisionError" = none
  ValueError : mg "ValueError" = none
  WIDE : ∃ t, mg "WIDE" = some (.int 400 t)
end Bw
set_option Elab.async false
set_option linter.all false
set_option maxRecDepth 100000
set_option maxHeartbeats 0
namespace Hd
open PySem PySem.W PySem.Calls PyProof.Rows L2
abbrev Rw : OpenRow := OpenLaw.row PySem.Challenge.rw_budwright_k06_sums_worth_at_parts
abbrev S (x : String) : PySem.Str := PySem.Str.ofString x
abbrev R (a : Nat) : Value := Value.ref a
abbrev E (P : Params) (x : String) (t : Nat) (v : Value) : DictEntry := DictEntry.mk (PyData.keyHash P (PySem.Str.ofString x)) (Value.str (PySem.Str.ofString x) t) v
abbrev T (i : Nat) : Stmt := Bw.topS i
abbrev M (i j : Nat) : Stmt := inClass (Bw.topS i) j
abbrev o2 (P : Params) : Obj := Obj.mk Value.none none (Data.dict (List.toArray [E P "type.__subclasses__.ZeroDivisionError.0" 293 (Value.int (Int.ofNat 96) 0), E P "type.__subclasses__.ZeroDivisionError.n" 294 (Value.int (Int.ofNat 1) 0), E P "type.__subclasses__.IndexError.0" 323 (Value.int (Int.ofNat 116) 0), E P "type.__subclasses__.IndexError.n" 324 (Value.int (Int.ofNat 1) 0)]) 4) (List.toArray [])
abbrev o3 (P : Params) : Obj := Obj.mk (Value.type "dict") none (Data.dict (List.toArray [E P "__name__" 165 (Value.str (S "law_budwright_k06_sums_worth_at_parts") 694), E P "__doc__" 166 Value.none, E P "__package__" 167 Value.none, E P "__loader__" 168 (Value.builtin "__main__.__loader__#opaque"), E P "__spec__" 169 Value.none, E P "__annotations__" 170 (R 6), E P "__builtins__" 171 (R 4), E P "__file__" 173 (Value.str (S "/claim/cut.py") 172), E P "__cached__" 174 Value.none, E P "_wall" 193 (R 21), E P "BudError" 222 (R 38), E P "BadSum" 245 (R 58), E P "Great" 268 (R 77), E P "NoPart" 296 (R 96), E P "NoPlace" 326 (R 116), E P "Lacking" 355 (R 136), E P "NothingLeft" 381 (R 156), E P "common" 391 (R 166), E P "power_of" 400 (R 173), E P "lowest_terms" 410 (R 180), E P "added_powers" 418 (R 185), E P "lessened_powers" 424 (R 190), E P "gathered" 430 (R 195), E P "lowest_powers" 436 (R 200), E P "highest_powers" 442 (R 205), E P "multiplied" 448 (R 210), E P "taken_off" 462 (R 217), E P "quotient" 468 (R 222), E P "weighed" 474 (R 227), E P "worth_at" 480 (R 232), E P "CHUNK_FIGURES" 484 (Value.int (Int.ofNat 64) 483), E P "CHUNK" 488 (Value.int (Int.ofNat 10000000000000000000000000000000000000000000000000000000000000000) 487), E P "whole_text" 497 (R 239), E P "LETTERS" 501 (Value.str (S "abcdefghijklmnopqrstuvwxyz") 500), E P "letters_text" 511 (R 246), E P "product_text" 520 (R 253), E P "sum_pieces" 530 (R 260), E P "WIDE" 534 (Value.int (Int.ofNat 400) 533), E P "Sum" 685 (R 387), E P "check_width" 693 (R 398), E P "_law_feed" 702 (R 405), E P "_law_draw" 713 (R 412), E P "_law_pick" 721 (R 419), E P "_law_same" 727 (R 424), E P "_law_word" 735 (R 431), E P "_law_gcd" 743 (R 438), E P "_law_low" 752 (R 445), E P "_law_add" 760 (R 452), E P "_law_mul" 768 (R 459), E P "_law_pow" 779 (R 466), E P "_law_great_number" 787 (R 473), E P "_law_powers" 793 (R 478), E P "_law_terms" 805 (R 485), E P "_law_book" 811 (R 490), E P "_law_worth" 824 (R 497), E P "_law_worth_so" 830 (R 502), E P "_law_lengths_so" 843 (R 509), E P "law" 849 (R 514)]) 58) (List.toArray [])
abbrev o15 (P : Params) : Obj := Obj.mk (Value.type "tuple") none (Data.seq (List.toArray []) 0) (List.toArray [])
abbrev o17 (P : Params) : Obj := Obj.mk (Value.type "tuple") none (Data.seq (List.toArray [(Value.str (S "k") 190)]) 0) (List.toArray [])
abbrev o18 (P : Params) : Obj := Obj.mk (Value.type "tuple") none (Data.seq (List.toArray []) 0) (List.toArray [])
abbrev o20 (P : Params) : Obj := Obj.mk (Value.type "code") none (Data.fields (List.toArray [(Value.str (S "_wall") 187), (Value.str (S "_wall") 188), (Value.str (S "/claim/cut.py") 189), (Value.int (Int.ofNat 1) 0), (Value.int (Int.ofNat 1) 0), (Value.int (Int.ofNat 0) 0), (Value.int (Int.ofNat 0) 0), (Value.int (Int.ofNat 3) 0), (R 15), (Value.bool true), (Value.int (Int.ofNat 181) 0), (R 16), Value.none, (R 17), (R 18), (R 19), (Value.int (Int.ofNat 191) 0), (Value.int (Int.ofNat 1) 0), (Value.str (S "/claim/cut.py") 192)])) (List.toArray [])
abbrev o21 (P : Params) : Obj := Obj.mk (Value.type "function") none (Data.func (FuncData.mk (S "_wall") (S "_wall") (defArgs (T 0)) (FuncBody.stmts (defBody (T 0))) (defScope (T 0)) 3 [] Value.none Value.none Value.none (Value.str (S "__main__") 164) none (R 20) Value.none 0)) (List.toArray [])
abbrev o22 (P : Params) : Obj := Obj.mk (Value.type "tuple") none (Data.seq (List.toArray [(Value.type "ValueError")]) 0) (List.toArray [])
abbrev o29 (P : Params) : Obj := Obj.mk (Value.type "tuple") none (Data.seq (List.toArray []) 0) (List.toArray [])
abbrev o31 (P : Params) : Obj := Obj.mk (Value.type "tuple") none (Data.seq (List.toArray [(Value.str (S "self") 211), (Value.str (S "word") 212)]) 0) (List.toArray [])
abbrev o32 (P : Params) : Obj := Obj.mk (Value.type "tuple") none (Data.seq (List.toArray []) 0) (List.toArray [])
abbrev o34 (P : Params) : Obj := Obj.mk (Value.type "code") none (Data.fields (List.toArray [(Value.str (S "__init__") 208), (Value.str (S "BudError.__init__") 209), (Value.str (S "/claim/cut.py") 210), (Value.int (Int.ofNat 7) 0), (Value.int (Int.ofNat 2) 0), (Value.int (Int.ofNat 0) 0), (Value.int (Int.ofNat 0) 0), (Value.int (Int.ofNat 3) 0), (R 29), (Value.bool true), (Value.int (Int.ofNat 181) 0), (R 30), Value.none, (R 31), (R 32), (R 33), (Value.int (Int.ofNat 213) 0), (Value.int (Int.ofNat 7) 0), (Value.str (S "/claim/cut.py") 214)])) (List.toArray [])
abbrev o35 (P : Params) : Obj := Obj.mk (Value.type "function") none (Data.func (FuncData.mk (S "__init__") (S "BudError.__init__") (defArgs (M 2 0)) (FuncBody.stmts (defBody (M 2 0))) (defScope (M 2 0)) 3 [] Value.none Value.none Value.none (Value.str (S "budwright.errors") 194) none (R 34) Value.none 0)) (List.toArray [])
abbrev o36 (P : Params) : Obj := Obj.mk (Value.type "tuple") none (Data.seq (List.toArray [(Value.str (S "word") 216)]) 0) (List.toArray [])
abbrev o37 (P : Params) : Obj := Obj.mk (Value.type "dict") none (Data.dict (List.toArray [E P "__module__" 203 (Value.str (S "budwright.errors") 194), E P "__firstlineno__" 207 (Value.int (Int.ofNat 5) 206), E P "__init__" 215 (R 35), E P "__static_attributes__" 217 (R 36), E P "__weakref__" 219 (R 39), E P "__doc__" 220 Value.none]) 3) (List.toArray [])
abbrev o38 (P : Params) : Obj := Obj.mk (Value.type "type") none (Data.cls (ClassData.mk (S "BudError") [(Value.type "ValueError")] [(R 38), (Value.type "ValueError"), (Value.type "Exception"), (Value.type "BaseException"), (Value.type "object")] 37 (S "BudError") true [] [(R 58), (R 77)] false none false)) (List.toArray [(some (R 22)), none, (some (Value.str (S "BudError") 196)), (some (Value.str (S "BudError") 204)), (some (Value.builtin "ValueError.__new__")), (some (Value.bool true))])
abbrev o39 (P : Params) : Obj := Obj.mk (Value.type "getset_descriptor") none (Data.fields (List.toArray [(Value.str (S "__weakref__") 218), (R 38), (Value.builtin "ExceptionGroup.__weakref__"), Value.none])) (List.toArray [])
abbrev o42 (P : Params) : Obj := Obj.mk (Value.type "tuple") none (Data.seq (List.toArray [(R 38)]) 0) (List.toArray [])
abbrev o49 (P : Params) : Obj := Obj.mk (Value.type "tuple") none (Data.seq (List.toArray []) 0) (List.toArray [])
abbrev o51 (P : Params) : Obj := Obj.mk (Value.type "tuple") none (Data.seq (List.toArray [(Value.str (S "self") 238)]) 0) (List.toArray [])
abbrev o52 (P : Params) : Obj := Obj.mk (Value.type "tuple") none (Data.seq (List.toArray []) 0) (List.toArray [])
abbrev o54 (P : Params) : Obj := Obj.mk (Value.type "code") none (Data.fields (List.toArray [(Value.str (S "__init__") 235), (Value.str (S "BadSum.__init__") 236), (Value.str (S "/claim/cut.py") 237), (Value.int (Int.ofNat 12) 0), (Value.int (Int.ofNat 1) 0), (Value.int (Int.ofNat 0) 0), (Value.int (Int.ofNat 0) 0), (Value.int (Int.ofNat 3) 0), (R 49), (Value.bool true), (Value.int (Int.ofNat 181) 0), (R 50), Value.none, (R 51), (R 52), (R 53), (Value.int (Int.ofNat 239) 0), (Value.int (Int.ofNat 12) 0), (Value.str (S "/claim/cut.py") 240)])) (List.toArray [])
abbrev o55 (P : Params) : Obj := Obj.mk (Value.type "function") none (Data.func (FuncData.mk (S "__init__") (S "BadSum.__init__") (defArgs (M 3 0)) (FuncBody.stmts (defBody (M 3 0))) (defScope (M 3 0)) 3 [] Value.none Value.none Value.none (Value.str (S "budwright.errors") 194) none (R 54) Value.none 0)) (List.toArray [])
abbrev o56 (P : Params) : Obj := Obj.mk (Value.type "tuple") none (Data.seq (List.toArray []) 0) (List.toArray [])
abbrev o57 (P : Params) : Obj := Obj.mk (Value.type "dict") none (Data.dict (List.toArray [E P "__module__" 230 (Value.str (S "budwright.errors") 194), E P "__firstlineno__" 234 (Value.int (Int.ofNat 10) 233), E P "__init__" 241 (R 55), E P "__static_attributes__" 242 (R 56), E P "__doc__" 243 Value.none]) 2) (List.toArray [])
abbrev o58 (P : Params) : Obj := Obj.mk (Value.type "type") none (Data.cls (ClassData.mk (S "BadSum") [(R 38)] [(R 58), (R 38), (Value.type "ValueError"), (Value.type "Exception"), (Value.type "BaseException"), (Value.type "object")] 57 (S "BadSum") true [] [] false none false)) (List.toArray [(some (R 42)), none, (some (Value.str (S "BadSum") 223)), (some (Value.str (S "BadSum") 231)), (some (Value.builtin "ValueError.__new__")), (some (Value.bool true))])
abbrev o61 (P : Params) : Obj := Obj.mk (Value.type "tuple") none (Data.seq (List.toArray [(R 38)]) 0) (List.toArray [])
abbrev o68 (P : Params) : Obj := Obj.mk (Value.type "tuple") none (Data.seq (List.toArray []) 0) (List.toArray [])
abbrev o70 (P : Params) : Obj := Obj.mk (Value.type "tuple") none (Data.seq (List.toArray [(Value.str (S "self") 261)]) 0) (List.toArray [])
abbrev o71 (P : Params) : Obj := Obj.mk (Value.type "tuple") none (Data.seq (List.toArray []) 0) (List.toArray [])
abbrev o73 (P : Params) : Obj := Obj.mk (Value.type "code") none (Data.fields (List.toArray [(Value.str (S "__init__") 258), (Value.str (S "Great.__init__") 259), (Value.str (S "/claim/cut.py") 260), (Value.int (Int.ofNat 16) 0), (Value.int (Int.ofNat 1) 0), (Value.int (Int.ofNat 0) 0), (Value.int (Int.ofNat 0) 0), (Value.int (Int.ofNat 3) 0), (R 68), (Value.bool true), (Value.int (Int.ofNat 181) 0), (R 69), Value.none, (R 70), (R 71), (R 72), (Value.int (Int.ofNat 262) 0), (Value.int (Int.ofNat 16) 0), (Value.str (S "/claim/cut.py") 263)])) (List.toArray [])
abbrev o74 (P : Params) : Obj := Obj.mk (Value.type "function") none (Data.func (FuncData.mk (S "__init__") (S "Great.__init__") (defArgs (M 4 0)) (FuncBody.stmts (defBody (M 4 0))) (defScope (M 4 0)) 3 [] Value.none Value.none Value.none (Value.str (S "budwright.errors") 194) none (R 73) Value.none 0)) (List.toArray [])
abbrev o75 (P : Params) : Obj := Obj.mk (Value.type "tuple") none (Data.seq (List.toArray []) 0) (List.toArray [])
abbrev o76 (P : Params) : Obj := Obj.mk (Value.type "dict") none (Data.dict (List.toArray [E P "__module__" 253 (Value.str (S "budwright.errors") 194), E P "__firstlineno__" 257 (Value.int (Int.ofNat 14) 256), E P "__init__" 264 (R 74), E P "__static_attributes__" 265 (R 75), E P "__doc__" 266 Value.none]) 2) (List.toArray [])
abbrev o77 (P : Params) : Obj := Obj.mk (Value.type "type") none (Data.cls (ClassData.mk (S "Great") [(R 38)] [(R 77), (R 38), (Value.type "ValueError"), (Value.type "Exception"), (Value.type "BaseException"), (Value.type "object")] 76 (S "Great") true [] [] false none false)) (List.toArray [(some (R 61)), none, (some (Value.str (S "Great") 246)), (some (Value.str (S "Great") 254)), (some (Value.builtin "ValueError.__new__")), (some (Value.bool true))])
abbrev o80 (P : Params) : Obj := Obj.mk (Value.type "tuple") none (Data.seq (List.toArray [(Value.type "ZeroDivisionError")]) 0) (List.toArray [])
abbrev o87 (P : Params) : Obj := Obj.mk (Value.type "tuple") none (Data.seq (List.toArray []) 0) (List.toArray [])
abbrev o89 (P : Params) : Obj := Obj.mk (Value.type "tuple") none (Data.seq (List.toArray [(Value.str (S "self") 284)]) 0) (List.toArray [])
abbrev o90 (P : Params) : Obj := Obj.mk (Value.type "tuple") none (Data.seq (List.toArray []) 0) (List.toArray [])
abbrev o92 (P : Params) : Obj := Obj.mk (Value.type "code") none (Data.fields (List.toArray [(Value.str (S "__init__") 281), (Value.str (S "NoPart.__init__") 282), (Value.str (S "/claim/cut.py") 283), (Value.int (Int.ofNat 20) 0), (Value.int (Int.ofNat 1) 0), (Value.int (Int.ofNat 0) 0), (Value.int (Int.ofNat 0) 0), (Value.int (Int.ofNat 3) 0), (R 87), (Value.bool true), (Value.int (Int.ofNat 181) 0), (R 88), Value.none, (R 89), (R 90), (R 91), (Value.int (Int.ofNat 285) 0), (Value.int (Int.ofNat 20) 0), (Value.str (S "/claim/cut.py") 286)])) (List.toArray [])
abbrev o93 (P : Params) : Obj := Obj.mk (Value.type "function") none (Data.func (FuncData.mk (S "__init__") (S "NoPart.__init__") (defArgs (M 5 0)) (FuncBody.stmts (defBody (M 5 0))) (defScope (M 5 0)) 3 [] Value.none Value.none Value.none (Value.str (S "budwright.errors") 194) none (R 92) Value.none 0)) (List.toArray [])
abbrev o94 (P : Params) : Obj := Obj.mk (Value.type "tuple") none (Data.seq (List.toArray [(Value.str (S "word") 288)]) 0) (List.toArray [])
abbrev o95 (P : Params) : Obj := Obj.mk (Value.type "dict") none (Data.dict (List.toArray [E P "__module__" 276 (Value.str (S "budwright.errors") 194), E P "__firstlineno__" 280 (Value.int (Int.ofNat 18) 279), E P "__init__" 287 (R 93), E P "__static_attributes__" 289 (R 94), E P "__weakref__" 291 (R 97), E P "__doc__" 292 Value.none]) 3) (List.toArray [])
abbrev o96 (P : Params) : Obj := Obj.mk (Value.type "type") none (Data.cls (ClassData.mk (S "NoPart") [(Value.type "ZeroDivisionError")] [(R 96), (Value.type "ZeroDivisionError"), (Value.type "ArithmeticError"), (Value.type "Exception"), (Value.type "BaseException"), (Value.type "object")] 95 (S "NoPart") true [] [] false none false)) (List.toArray [(some (R 80)), none, (some (Value.str (S "NoPart") 269)), (some (Value.str (S "NoPart") 277)), (some (Value.builtin "ZeroDivisionError.__new__")), (some (Value.bool true))])
abbrev o97 (P : Params) : Obj := Obj.mk (Value.type "getset_descriptor") none (Data.fields (List.toArray [(Value.str (S "__weakref__") 290), (R 96), (Value.builtin "ExceptionGroup.__weakref__"), Value.none])) (List.toArray [])
abbrev o100 (P : Params) : Obj := Obj.mk (Value.type "tuple") none (Data.seq (List.toArray [(Value.type "IndexError")]) 0) (List.toArray [])
abbrev o107 (P : Params) : Obj := Obj.mk (Value.type "tuple") none (Data.seq (List.toArray []) 0) (List.toArray [])
abbrev o109 (P : Params) : Obj := Obj.mk (Value.type "tuple") none (Data.seq (List.toArray [(Value.str (S "self") 312), (Value.str (S "place") 313)]) 0) (List.toArray [])
abbrev o110 (P : Params) : Obj := Obj.mk (Value.type "tuple") none (Data.seq (List.toArray []) 0) (List.toArray [])
abbrev o112 (P : Params) : Obj := Obj.mk (Value.type "code") none (Data.fields (List.toArray [(Value.str (S "__init__") 309), (Value.str (S "NoPlace.__init__") 310), (Value.str (S "/claim/cut.py") 311), (Value.int (Int.ofNat 25) 0), (Value.int (Int.ofNat 2) 0), (Value.int (Int.ofNat 0) 0), (Value.int (Int.ofNat 0) 0), (Value.int (Int.ofNat 3) 0), (R 107), (Value.bool true), (Value.int (Int.ofNat 181) 0), (R 108), Value.none, (R 109), (R 110), (R 111), (Value.int (Int.ofNat 314) 0), (Value.int (Int.ofNat 25) 0), (Value.str (S "/claim/cut.py") 315)])) (List.toArray [])
abbrev o113 (P : Params) : Obj := Obj.mk (Value.type "function") none (Data.func (FuncData.mk (S "__init__") (S "NoPlace.__init__") (defArgs (M 6 0)) (FuncBody.stmts (defBody (M 6 0))) (defScope (M 6 0)) 3 [] Value.none Value.none Value.none (Value.str (S "budwright.errors") 194) none (R 112) Value.none 0)) (List.toArray [])
abbrev o114 (P : Params) : Obj := Obj.mk (Value.type "tuple") none (Data.seq (List.toArray [(Value.str (S "place") 317), (Value.str (S "word") 318)]) 0) (List.toArray [])
abbrev o115 (P : Params) : Obj := Obj.mk (Value.type "dict") none (Data.dict (List.toArray [E P "__module__" 304 (Value.str (S "budwright.errors") 194), E P "__firstlineno__" 308 (Value.int (Int.ofNat 23) 307), E P "__init__" 316 (R 113), E P "__static_attributes__" 319 (R 114), E P "__weakref__" 321 (R 117), E P "__doc__" 322 Value.none]) 3) (List.toArray [])
abbrev o116 (P : Params) : Obj := Obj.mk (Value.type "type") none (Data.cls (ClassData.mk (S "NoPlace") [(Value.type "IndexError")] [(R 116), (Value.type "IndexError"), (Value.type "LookupError"), (Value.type "Exception"), (Value.type "BaseException"), (Value.type "object")] 115 (S "NoPlace") true [] [] false none false)) (List.toArray [(some (R 100)), none, (some (Value.str (S "NoPlace") 297)), (some (Value.str (S "NoPlace") 305)), (some (Value.builtin "IndexError.__new__")), (some (Value.bool true))])
abbrev o117 (P : Params) : Obj := Obj.mk (Value.type "getset_descriptor") none (Data.fields (List.toArray [(Value.str (S "__weakref__") 320), (R 116), (Value.builtin "ExceptionGroup.__weakref__"), Value.none])) (List.toArray [])
abbrev o120 (P : Params) : Obj := Obj.mk (Value.type "tuple") none (Data.seq (List.toArray [(Value.type "LookupError")]) 0) (List.toArray [])
abbrev o127 (P : Params) : Obj := Obj.mk (Value.type "tuple") none (Data.seq (List.toArray []) 0) (List.toArray [])
abbrev o129 (P : Params) : Obj := Obj.mk (Value.type "tuple") none (Data.seq (List.toArray [(Value.str (S "self") 342), (Value.str (S "word") 343), (Value.str (S "name") 344)]) 0) (List.toArray [])
abbrev o130 (P : Params) : Obj := Obj.mk (Value.type "tuple") none (Data.seq (List.toArray []) 0) (List.toArray [])
abbrev o132 (P : Params) : Obj := Obj.mk (Value.type "code") none (Data.fields (List.toArray [(Value.str (S "__init__") 339), (Value.str (S "Lacking.__init__") 340), (Value.str (S "/claim/cut.py") 341), (Value.int (Int.ofNat 31) 0), (Value.int (Int.ofNat 3) 0), (Value.int (Int.ofNat 0) 0), (Value.int (Int.ofNat 0) 0), (Value.int (Int.ofNat 3) 0), (R 127), (Value.bool true), (Value.int (Int.ofNat 181) 0), (R 128), Value.none, (R 129), (R 130), (R 131), (Value.int (Int.ofNat 345) 0), (Value.int (Int.ofNat 31) 0), (Value.str (S "/claim/cut.py") 346)])) (List.toArray [])
abbrev o133 (P : Params) : Obj := Obj.mk (Value.type "function") none (Data.func (FuncData.mk (S "__init__") (S "Lacking.__init__") (defArgs (M 7 0)) (FuncBody.stmts (defBody (M 7 0))) (defScope (M 7 0)) 3 [] Value.none Value.none Value.none (Value.str (S "budwright.errors") 194) none (R 132) Value.none 0)) (List.toArray [])
abbrev o134 (P : Params) : Obj := Obj.mk (Value.type "tuple") none (Data.seq (List.toArray [(Value.str (S "name") 348), (Value.str (S "word") 349)]) 0) (List.toArray [])
abbrev o135 (P : Params) : Obj := Obj.mk (Value.type "dict") none (Data.dict (List.toArray [E P "__module__" 334 (Value.str (S "budwright.errors") 194), E P "__firstlineno__" 338 (Value.int (Int.ofNat 29) 337), E P "__init__" 347 (R 133), E P "__static_attributes__" 350 (R 134), E P "__weakref__" 352 (R 137), E P "__doc__" 353 Value.none]) 3) (List.toArray [])
abbrev o136 (P : Params) : Obj := Obj.mk (Value.type "type") none (Data.cls (ClassData.mk (S "Lacking") [(Value.type "LookupError")] [(R 136), (Value.type "LookupError"), (Value.type "Exception"), (Value.type "BaseException"), (Value.type "object")] 135 (S "Lacking") true [] [] false none false)) (List.toArray [(some (R 120)), none, (some (Value.str (S "Lacking") 327)), (some (Value.str (S "Lacking") 335)), (some (Value.builtin "LookupError.__new__")), (some (Value.bool true))])
abbrev o137 (P : Params) : Obj := Obj.mk (Value.type "getset_descriptor") none (Data.fields (List.toArray [(Value.str (S "__weakref__") 351), (R 136), (Value.builtin "ExceptionGroup.__weakref__"), Value.none])) (List.toArray [])
abbrev o140 (P : Params) : Obj := Obj.mk (Value.type "tuple") none (Data.seq (List.toArray [(Value.type "RuntimeError")]) 0) (List.toArray [])
abbrev o147 (P : Params) : Obj := Obj.mk (Value.type "tuple") none (Data.seq (List.toArray []) 0) (List.toArray [])
abbrev o149 (P : Params) : Obj := Obj.mk (Value.type "tuple") none (Data.seq (List.toArray [(Value.str (S "self") 371)]) 0) (List.toArray [])
abbrev o150 (P : Params) : Obj := Obj.mk (Value.type "tuple") none (Data.seq (List.toArray []) 0) (List.toArray [])
abbrev o152 (P : Params) : Obj := Obj.mk (Value.type "code") none (Data.fields (List.toArray [(Value.str (S "__init__") 368), (Value.str (S "NothingLeft.__init__") 369), (Value.str (S "/claim/cut.py") 370), (Value.int (Int.ofNat 37) 0), (Value.int (Int.ofNat 1) 0), (Value.int (Int.ofNat 0) 0), (Value.int (Int.ofNat 0) 0), (Value.int (Int.ofNat 3) 0), (R 147), (Value.bool true), (Value.int (Int.ofNat 181) 0), (R 148), Value.none, (R 149), (R 150), (R 151), (Value.int (Int.ofNat 372) 0), (Value.int (Int.ofNat 37) 0), (Value.str (S "/claim/cut.py") 373)])) (List.toArray [])
abbrev o153 (P : Params) : Obj := Obj.mk (Value.type "function") none (Data.func (FuncData.mk (S "__init__") (S "NothingLeft.__init__") (defArgs (M 8 0)) (FuncBody.stmts (defBody (M 8 0))) (defScope (M 8 0)) 3 [] Value.none Value.none Value.none (Value.str (S "budwright.errors") 194) none (R 152) Value.none 0)) (List.toArray [])
abbrev o154 (P : Params) : Obj := Obj.mk (Value.type "tuple") none (Data.seq (List.toArray [(Value.str (S "word") 375)]) 0) (List.toArray [])
abbrev o155 (P : Params) : Obj := Obj.mk (Value.type "dict") none (Data.dict (List.toArray [E P "__module__" 363 (Value.str (S "budwright.errors") 194), E P "__firstlineno__" 367 (Value.int (Int.ofNat 35) 366), E P "__init__" 374 (R 153), E P "__static_attributes__" 376 (R 154), E P "__weakref__" 378 (R 157), E P "__doc__" 379 Value.none]) 3) (List.toArray [])
abbrev o156 (P : Params) : Obj := Obj.mk (Value.type "type") none (Data.cls (ClassData.mk (S "NothingLeft") [(Value.type "RuntimeError")] [(R 156), (Value.type "RuntimeError"), (Value.type "Exception"), (Value.type "BaseException"), (Value.type "object")] 155 (S "NothingLeft") true [] [] false none false)) (List.toArray [(some (R 140)), none, (some (Value.str (S "NothingLeft") 356)), (some (Value.str (S "NothingLeft") 364)), (some (Value.builtin "RuntimeError.__new__")), (some (Value.bool true))])
abbrev o157 (P : Params) : Obj := Obj.mk (Value.type "getset_descriptor") none (Data.fields (List.toArray [(Value.str (S "__weakref__") 377), (R 156), (Value.builtin "ExceptionGroup.__weakref__"), Value.none])) (List.toArray [])
abbrev o160 (P : Params) : Obj := Obj.mk (Value.type "tuple") none (Data.seq (List.toArray []) 0) (List.toArray [])
abbrev o162 (P : Params) : Obj := Obj.mk (Value.type "tuple") none (Data.seq (List.toArray [(Value.str (S "one") 387), (Value.str (S "other") 388)]) 0) (List.toArray [])
abbrev o163 (P : Params) : Obj := Obj.mk (Value.type "tuple") none (Data.seq (List.toArray []) 0) (List.toArray [])
abbrev o165 (P : Params) : Obj := Obj.mk (Value.type "code") none (Data.fields (List.toArray [(Value.str (S "common") 384), (Value.str (S "common") 385), (Value.str (S "/claim/cut.py") 386), (Value.int (Int.ofNat 41) 0), (Value.int (Int.ofNat 2) 0), (Value.int (Int.ofNat 0) 0), (Value.int (Int.ofNat 0) 0), (Value.int (Int.ofNat 3) 0), (R 160), (Value.bool true), (Value.int (Int.ofNat 181) 0), (R 161), Value.none, (R 162), (R 163), (R 164), (Value.int (Int.ofNat 389) 0), (Value.int (Int.ofNat 41) 0), (Value.str (S "/claim/cut.py") 390)])) (List.toArray [])
abbrev o166 (P : Params) : Obj := Obj.mk (Value.type "function") none (Data.func (FuncData.mk (S "common") (S "common") (defArgs (T 10)) (FuncBody.stmts (defBody (T 10))) (defScope (T 10)) 3 [] Value.none Value.none Value.none (Value.str (S "budwright.parts") 382) none (R 165) Value.none 0)) (List.toArray [])
abbrev o167 (P : Params) : Obj := Obj.mk (Value.type "tuple") none (Data.seq (List.toArray []) 0) (List.toArray [])
abbrev o169 (P : Params) : Obj := Obj.mk (Value.type "tuple") none (Data.seq (List.toArray [(Value.str (S "base") 395), (Value.str (S "many") 396), (Value.str (S "result") 397)]) 0) (List.toArray [])
abbrev o170 (P : Params) : Obj := Obj.mk (Value.type "tuple") none (Data.seq (List.toArray []) 0) (List.toArray [])
abbrev o172 (P : Params) : Obj := Obj.mk (Value.type "code") none (Data.fields (List.toArray [(Value.str (S "power_of") 392), (Value.str (S "power_of") 393), (Value.str (S "/claim/cut.py") 394), (Value.int (Int.ofNat 47) 0), (Value.int (Int.ofNat 2) 0), (Value.int (Int.ofNat 0) 0), (Value.int (Int.ofNat 0) 0), (Value.int (Int.ofNat 3) 0), (R 167), (Value.bool true), (Value.int (Int.ofNat 181) 0), (R 168), Value.none, (R 169), (R 170), (R 171), (Value.int (Int.ofNat 398) 0), (Value.int (Int.ofNat 47) 0), (Value.str (S "/claim/cut.py") 399)])) (List.toArray [])
abbrev o173 (P : Params) : Obj := Obj.mk (Value.type "function") none (Data.func (FuncData.mk (S "power_of") (S "power_of") (defArgs (T 11)) (FuncBody.stmts (defBody (T 11))) (defScope (T 11)) 3 [] Value.none Value.none Value.none (Value.str (S "budwright.parts") 382) none (R 172) Value.none 0)) (List.toArray [])
abbrev o174 (P : Params) : Obj := Obj.mk (Value.type "tuple") none (Data.seq (List.toArray []) 0) (List.toArray [])
abbrev o176 (P : Params) : Obj := Obj.mk (Value.type "tuple") none (Data.seq (List.toArray [(Value.str (S "top") 404), (Value.str (S "under") 405), (Value.str (S "root") 406), (Value.str (S "shared") 407)]) 0) (List.toArray [])
abbrev o177 (P : Params) : Obj := Obj.mk (Value.type "tuple") none (Data.seq (List.toArray []) 0) (List.toArray [])
abbrev o179 (P : Params) : Obj := Obj.mk (Value.type "code") none (Data.fields (List.toArray [(Value.str (S "lowest_terms") 401), (Value.str (S "lowest_terms") 402), (Value.str (S "/claim/cut.py") 403), (Value.int (Int.ofNat 56) 0), (Value.int (Int.ofNat 3) 0), (Value.int (Int.ofNat 0) 0), (Value.int (Int.ofNat 0) 0), (Value.int (Int.ofNat 3) 0), (R 174), (Value.bool true), (Value.int (Int.ofNat 181) 0), (R 175), Value.none, (R 176), (R 177), (R 178), (Value.int (Int.ofNat 408) 0), (Value.int (Int.ofNat 56) 0), (Value.str (S "/claim/cut.py") 409)])) (List.toArray [])
abbrev o180 (P : Params) : Obj := Obj.mk (Value.type "function") none (Data.func (FuncData.mk (S "lowest_terms") (S "lowest_terms") (defArgs (T 12)) (FuncBody.stmts (defBody (T 12))) (defScope (T 12)) 3 [] Value.none Value.none Value.none (Value.str (S "budwright.parts") 382) none (R 179) Value.none 0)) (List.toArray [])
abbrev o181 (P : Params) : Obj := Obj.mk (Value.type "tuple") none (Data.seq (List.toArray []) 0) (List.toArray [])
abbrev o184 (P : Params) : Obj := Obj.mk (Value.type "code") none (Data.fields (List.toArray [(Value.str (S "added_powers") 413), (Value.str (S "added_powers") 414), (Value.str (S "/claim/cut.py") 415), (Value.int (Int.ofNat 68) 0), (Value.int (Int.ofNat 2) 0), (Value.int (Int.ofNat 0) 0), (Value.int (Int.ofNat 0) 0), (Value.int (Int.ofNat 3) 0), (R 181), (Value.bool true), (Value.int (Int.ofNat 181) 0), (R 182), Value.none, Value.none, Value.none, (R 183), (Value.int (Int.ofNat 416) 0), (Value.int (Int.ofNat 68) 0), (Value.str (S "/claim/cut.py") 417)])) (List.toArray [])
abbrev o185 (P : Params) : Obj := Obj.mk (Value.type "function") none (Data.func (FuncData.mk (S "added_powers") (S "added_powers") (defArgs (T 14)) (FuncBody.stmts (defBody (T 14))) (defScope (T 14)) 3 [] Value.none Value.none Value.none (Value.str (S "budwright.products") 411) none (R 184) Value.none 0)) (List.toArray [])
abbrev o186 (P : Params) : Obj := Obj.mk (Value.type "tuple") none (Data.seq (List.toArray []) 0) (List.toArray [])
abbrev o189 (P : Params) : Obj := Obj.mk (Value.type "code") none (Data.fields (List.toArray [(Value.str (S "lessened_powers") 419), (Value.str (S "lessened_powers") 420), (Value.str (S "/claim/cut.py") 421), (Value.int (Int.ofNat 70) 0), (Value.int (Int.ofNat 2) 0), (Value.int (Int.ofNat 0) 0), (Value.int (Int.ofNat 0) 0), (Value.int (Int.ofNat 3) 0), (R 186), (Value.bool true), (Value.int (Int.ofNat 181) 0), (R 187), Value.none, Value.none, Value.none, (R 188), (Value.int (Int.ofNat 422) 0), (Value.int (Int.ofNat 70) 0), (Value.str (S "/claim/cut.py") 423)])) (List.toArray [])
abbrev o190 (P : Params) : Obj := Obj.mk (Value.type "function") none (Data.func (FuncData.mk (S "lessened_powers") (S "lessened_powers") (defArgs (T 15)) (FuncBody.stmts (defBody (T 15))) (defScope (T 15)) 3 [] Value.none Value.none Value.none (Value.str (S "budwright.products") 411) none (R 189) Value.none 0)) (List.toArray [])
abbrev o191 (P : Params) : Obj := Obj.mk (Value.type "tuple") none (Data.seq (List.toArray []) 0) (List.toArray [])
abbrev o194 (P : Params) : Obj := Obj.mk (Value.type "code") none (Data.fields (List.toArray [(Value.str (S "gathered") 425), (Value.str (S "gathered") 426), (Value.str (S "/claim/cut.py") 427), (Value.int (Int.ofNat 72) 0), (Value.int (Int.ofNat 1) 0), (Value.int (Int.ofNat 0) 0), (Value.int (Int.ofNat 0) 0), (Value.int (Int.ofNat 3) 0), (R 191), (Value.bool true), (Value.int (Int.ofNat 181) 0), (R 192), Value.none, Value.none, Value.none, (R 193), (Value.int (Int.ofNat 428) 0), (Value.int (Int.ofNat 72) 0), (Value.str (S "/claim/cut.py") 429)])) (List.toArray [])
abbrev o195 (P : Params) : Obj := Obj.mk (Value.type "function") none (Data.func (FuncData.mk (S "gathered") (S "gathered") (defArgs (T 16)) (FuncBody.stmts (defBody (T 16))) (defScope (T 16)) 3 [] Value.none Value.none Value.none (Value.str (S "budwright.products") 411) none (R 194) Value.none 0)) (List.toArray [])
abbrev o196 (P : Params) : Obj := Obj.mk (Value.type "tuple") none (Data.seq (List.toArray []) 0) (List.toArray [])
abbrev o199 (P : Params) : Obj := Obj.mk (Value.type "code") none (Data.fields (List.toArray [(Value.str (S "lowest_powers") 431), (Value.str (S "lowest_powers") 432), (Value.str (S "/claim/cut.py") 433), (Value.int (Int.ofNat 78) 0), (Value.int (Int.ofNat 1) 0), (Value.int (Int.ofNat 0) 0), (Value.int (Int.ofNat 0) 0), (Value.int (Int.ofNat 3) 0), (R 196), (Value.bool true), (Value.int (Int.ofNat 181) 0), (R 197), Value.none, Value.none, Value.none, (R 198), (Value.int (Int.ofNat 434) 0), (Value.int (Int.ofNat 78) 0), (Value.str (S "/claim/cut.py") 435)])) (List.toArray [])
abbrev o200 (P : Params) : Obj := Obj.mk (Value.type "function") none (Data.func (FuncData.mk (S "lowest_powers") (S "lowest_powers") (defArgs (T 17)) (FuncBody.stmts (defBody (T 17))) (defScope (T 17)) 3 [] Value.none Value.none Value.none (Value.str (S "budwright.products") 411) none (R 199) Value.none 0)) (List.toArray [])
abbrev o201 (P : Params) : Obj := Obj.mk (Value.type "tuple") none (Data.seq (List.toArray []) 0) (List.toArray [])
abbrev o204 (P : Params) : Obj := Obj.mk (Value.type "code") none (Data.fields (List.toArray [(Value.str (S "highest_powers") 437), (Value.str (S "highest_powers") 438), (Value.str (S "/claim/cut.py") 439), (Value.int (Int.ofNat 81) 0), (Value.int (Int.ofNat 1) 0), (Value.int (Int.ofNat 0) 0), (Value.int (Int.ofNat 0) 0), (Value.int (Int.ofNat 3) 0), (R 201), (Value.bool true), (Value.int (Int.ofNat 181) 0), (R 202), Value.none, Value.none, Value.none, (R 203), (Value.int (Int.ofNat 440) 0), (Value.int (Int.ofNat 81) 0), (Value.str (S "/claim/cut.py") 441)])) (List.toArray [])
abbrev o205 (P : Params) : Obj := Obj.mk (Value.type "function") none (Data.func (FuncData.mk (S "highest_powers") (S "highest_powers") (defArgs (T 18)) (FuncBody.stmts (defBody (T 18))) (defScope (T 18)) 3 [] Value.none Value.none Value.none (Value.str (S "budwright.products") 411) none (R 204) Value.none 0)) (List.toArray [])
abbrev o206 (P : Params) : Obj := Obj.mk (Value.type "tuple") none (Data.seq (List.toArray []) 0) (List.toArray [])
abbrev o209 (P : Params) : Obj := Obj.mk (Value.type "code") none (Data.fields (List.toArray [(Value.str (S "multiplied") 443), (Value.str (S "multiplied") 444), (Value.str (S "/claim/cut.py") 445), (Value.int (Int.ofNat 84) 0), (Value.int (Int.ofNat 2) 0), (Value.int (Int.ofNat 0) 0), (Value.int (Int.ofNat 0) 0), (Value.int (Int.ofNat 3) 0), (R 206), (Value.bool true), (Value.int (Int.ofNat 181) 0), (R 207), Value.none, Value.none, Value.none, (R 208), (Value.int (Int.ofNat 446) 0), (Value.int (Int.ofNat 84) 0), (Value.str (S "/claim/cut.py") 447)])) (List.toArray [])
abbrev o210 (P : Params) : Obj := Obj.mk (Value.type "function") none (Data.func (FuncData.mk (S "multiplied") (S "multiplied") (defArgs (T 19)) (FuncBody.stmts (defBody (T 19))) (defScope (T 19)) 3 [] Value.none Value.none Value.none (Value.str (S "budwright.products") 411) none (R 209) Value.none 0)) (List.toArray [])
abbrev o211 (P : Params) : Obj := Obj.mk (Value.type "tuple") none (Data.seq (List.toArray []) 0) (List.toArray [])
abbrev o213 (P : Params) : Obj := Obj.mk (Value.type "tuple") none (Data.seq (List.toArray [(Value.str (S "left") 452), (Value.str (S "products") 453), (Value.str (S "powers") 454), (Value.str (S "count") 455), (Value.str (S "more") 456), (Value.str (S "many") 457), (Value.str (S "key") 458), (Value.str (S "rest") 459)]) 0) (List.toArray [])
abbrev o214 (P : Params) : Obj := Obj.mk (Value.type "tuple") none (Data.seq (List.toArray []) 0) (List.toArray [])
abbrev o216 (P : Params) : Obj := Obj.mk (Value.type "code") none (Data.fields (List.toArray [(Value.str (S "taken_off") 449), (Value.str (S "taken_off") 450), (Value.str (S "/claim/cut.py") 451), (Value.int (Int.ofNat 86) 0), (Value.int (Int.ofNat 4) 0), (Value.int (Int.ofNat 0) 0), (Value.int (Int.ofNat 0) 0), (Value.int (Int.ofNat 3) 0), (R 211), (Value.bool true), (Value.int (Int.ofNat 181) 0), (R 212), Value.none, (R 213), (R 214), (R 215), (Value.int (Int.ofNat 460) 0), (Value.int (Int.ofNat 86) 0), (Value.str (S "/claim/cut.py") 461)])) (List.toArray [])
abbrev o217 (P : Params) : Obj := Obj.mk (Value.type "function") none (Data.func (FuncData.mk (S "taken_off") (S "taken_off") (defArgs (T 20)) (FuncBody.stmts (defBody (T 20))) (defScope (T 20)) 3 [] Value.none Value.none Value.none (Value.str (S "budwright.products") 411) none (R 216) Value.none 0)) (List.toArray [])
abbrev o218 (P : Params) : Obj := Obj.mk (Value.type "tuple") none (Data.seq (List.toArray []) 0) (List.toArray [])
abbrev o221 (P : Params) : Obj := Obj.mk (Value.type "code") none (Data.fields (List.toArray [(Value.str (S "quotient") 463), (Value.str (S "quotient") 464), (Value.str (S "/claim/cut.py") 465), (Value.int (Int.ofNat 94) 0), (Value.int (Int.ofNat 3) 0), (Value.int (Int.ofNat 0) 0), (Value.int (Int.ofNat 0) 0), (Value.int (Int.ofNat 3) 0), (R 218), (Value.bool true), (Value.int (Int.ofNat 181) 0), (R 219), Value.none, Value.none, Value.none, (R 220), (Value.int (Int.ofNat 466) 0), (Value.int (Int.ofNat 94) 0), (Value.str (S "/claim/cut.py") 467)])) (List.toArray [])
abbrev o222 (P : Params) : Obj := Obj.mk (Value.type "function") none (Data.func (FuncData.mk (S "quotient") (S "quotient") (defArgs (T 21)) (FuncBody.stmts (defBody (T 21))) (defScope (T 21)) 3 [] Value.none Value.none Value.none (Value.str (S "budwright.products") 411) none (R 221) Value.none 0)) (List.toArray [])
abbrev o223 (P : Params) : Obj := Obj.mk (Value.type "tuple") none (Data.seq (List.toArray []) 0) (List.toArray [])
abbrev o226 (P : Params) : Obj := Obj.mk (Value.type "code") none (Data.fields (List.toArray [(Value.str (S "weighed") 469), (Value.str (S "weighed") 470), (Value.str (S "/claim/cut.py") 471), (Value.int (Int.ofNat 110) 0), (Value.int (Int.ofNat 2) 0), (Value.int (Int.ofNat 0) 0), (Value.int (Int.ofNat 0) 0), (Value.int (Int.ofNat 3) 0), (R 223), (Value.bool true), (Value.int (Int.ofNat 181) 0), (R 224), Value.none, Value.none, Value.none, (R 225), (Value.int (Int.ofNat 472) 0), (Value.int (Int.ofNat 110) 0), (Value.str (S "/claim/cut.py") 473)])) (List.toArray [])
abbrev o227 (P : Params) : Obj := Obj.mk (Value.type "function") none (Data.func (FuncData.mk (S "weighed") (S "weighed") (defArgs (T 22)) (FuncBody.stmts (defBody (T 22))) (defScope (T 22)) 3 [] Value.none Value.none Value.none (Value.str (S "budwright.products") 411) none (R 226) Value.none 0)) (List.toArray [])
abbrev o228 (P : Params) : Obj := Obj.mk (Value.type "tuple") none (Data.seq (List.toArray []) 0) (List.toArray [])
abbrev o231 (P : Params) : Obj := Obj.mk (Value.type "code") none (Data.fields (List.toArray [(Value.str (S "worth_at") 475), (Value.str (S "worth_at") 476), (Value.str (S "/claim/cut.py") 477), (Value.int (Int.ofNat 112) 0), (Value.int (Int.ofNat 2) 0), (Value.int (Int.ofNat 0) 0), (Value.int (Int.ofNat 0) 0), (Value.int (Int.ofNat 3) 0), (R 228), (Value.bool true), (Value.int (Int.ofNat 181) 0), (R 229), Value.none, Value.none, Value.none, (R 230), (Value.int (Int.ofNat 478) 0), (Value.int (Int.ofNat 112) 0), (Value.str (S "/claim/cut.py") 479)])) (List.toArray [])
abbrev o232 (P : Params) : Obj := Obj.mk (Value.type "function") none (Data.func (FuncData.mk (S "worth_at") (S "worth_at") (defArgs (T 23)) (FuncBody.stmts (defBody (T 23))) (defScope (T 23)) 3 [] Value.none Value.none Value.none (Value.str (S "budwright.products") 411) none (R 231) Value.none 0)) (List.toArray [])
abbrev o233 (P : Params) : Obj := Obj.mk (Value.type "tuple") none (Data.seq (List.toArray []) 0) (List.toArray [])
abbrev o235 (P : Params) : Obj := Obj.mk (Value.type "tuple") none (Data.seq (List.toArray [(Value.str (S "number") 492), (Value.str (S "pieces") 493), (Value.str (S "low") 494)]) 0) (List.toArray [])
abbrev o236 (P : Params) : Obj := Obj.mk (Value.type "tuple") none (Data.seq (List.toArray []) 0) (List.toArray [])
abbrev o238 (P : Params) : Obj := Obj.mk (Value.type "code") none (Data.fields (List.toArray [(Value.str (S "whole_text") 489), (Value.str (S "whole_text") 490), (Value.str (S "/claim/cut.py") 491), (Value.int (Int.ofNat 129) 0), (Value.int (Int.ofNat 1) 0), (Value.int (Int.ofNat 0) 0), (Value.int (Int.ofNat 0) 0), (Value.int (Int.ofNat 3) 0), (R 233), (Value.bool true), (Value.int (Int.ofNat 181) 0), (R 234), Value.none, (R 235), (R 236), (R 237), (Value.int (Int.ofNat 495) 0), (Value.int (Int.ofNat 129) 0), (Value.str (S "/claim/cut.py") 496)])) (List.toArray [])
abbrev o239 (P : Params) : Obj := Obj.mk (Value.type "function") none (Data.func (FuncData.mk (S "whole_text") (S "whole_text") (defArgs (T 27)) (FuncBody.stmts (defBody (T 27))) (defScope (T 27)) 3 [] Value.none Value.none Value.none (Value.str (S "budwright.figures") 481) none (R 238) Value.none 0)) (List.toArray [])
abbrev o240 (P : Params) : Obj := Obj.mk (Value.type "tuple") none (Data.seq (List.toArray []) 0) (List.toArray [])
abbrev o242 (P : Params) : Obj := Obj.mk (Value.type "tuple") none (Data.seq (List.toArray [(Value.str (S "powers") 505), (Value.str (S "pieces") 506), (Value.str (S "letter") 507), (Value.str (S "power") 508)]) 0) (List.toArray [])
abbrev o243 (P : Params) : Obj := Obj.mk (Value.type "tuple") none (Data.seq (List.toArray []) 0) (List.toArray [])
abbrev o245 (P : Params) : Obj := Obj.mk (Value.type "code") none (Data.fields (List.toArray [(Value.str (S "letters_text") 502), (Value.str (S "letters_text") 503), (Value.str (S "/claim/cut.py") 504), (Value.int (Int.ofNat 138) 0), (Value.int (Int.ofNat 1) 0), (Value.int (Int.ofNat 0) 0), (Value.int (Int.ofNat 0) 0), (Value.int (Int.ofNat 3) 0), (R 240), (Value.bool true), (Value.int (Int.ofNat 181) 0), (R 241), Value.none, (R 242), (R 243), (R 244), (Value.int (Int.ofNat 509) 0), (Value.int (Int.ofNat 138) 0), (Value.str (S "/claim/cut.py") 510)])) (List.toArray [])
abbrev o246 (P : Params) : Obj := Obj.mk (Value.type "function") none (Data.func (FuncData.mk (S "letters_text") (S "letters_text") (defArgs (T 30)) (FuncBody.stmts (defBody (T 30))) (defScope (T 30)) 3 [] Value.none Value.none Value.none (Value.str (S "budwright.sumtexts") 498) none (R 245) Value.none 0)) (List.toArray [])
abbrev o247 (P : Params) : Obj := Obj.mk (Value.type "tuple") none (Data.seq (List.toArray []) 0) (List.toArray [])
abbrev o249 (P : Params) : Obj := Obj.mk (Value.type "tuple") none (Data.seq (List.toArray [(Value.str (S "powers") 515), (Value.str (S "count") 516), (Value.str (S "letters") 517)]) 0) (List.toArray [])
abbrev o250 (P : Params) : Obj := Obj.mk (Value.type "tuple") none (Data.seq (List.toArray []) 0) (List.toArray [])
abbrev o252 (P : Params) : Obj := Obj.mk (Value.type "code") none (Data.fields (List.toArray [(Value.str (S "product_text") 512), (Value.str (S "product_text") 513), (Value.str (S "/claim/cut.py") 514), (Value.int (Int.ofNat 146) 0), (Value.int (Int.ofNat 2) 0), (Value.int (Int.ofNat 0) 0), (Value.int (Int.ofNat 0) 0), (Value.int (Int.ofNat 3) 0), (R 247), (Value.bool true), (Value.int (Int.ofNat 181) 0), (R 248), Value.none, (R 249), (R 250), (R 251), (Value.int (Int.ofNat 518) 0), (Value.int (Int.ofNat 146) 0), (Value.str (S "/claim/cut.py") 519)])) (List.toArray [])
abbrev o253 (P : Params) : Obj := Obj.mk (Value.type "function") none (Data.func (FuncData.mk (S "product_text") (S "product_text") (defArgs (T 31)) (FuncBody.stmts (defBody (T 31))) (defScope (T 31)) 3 [] Value.none Value.none Value.none (Value.str (S "budwright.sumtexts") 498) none (R 252) Value.none 0)) (List.toArray [])
abbrev o254 (P : Params) : Obj := Obj.mk (Value.type "tuple") none (Data.seq (List.toArray []) 0) (List.toArray [])
abbrev o256 (P : Params) : Obj := Obj.mk (Value.type "tuple") none (Data.seq (List.toArray [(Value.str (S "products") 524), (Value.str (S "pieces") 525), (Value.str (S "powers") 526), (Value.str (S "count") 527)]) 0) (List.toArray [])
abbrev o257 (P : Params) : Obj := Obj.mk (Value.type "tuple") none (Data.seq (List.toArray []) 0) (List.toArray [])
abbrev o259 (P : Params) : Obj := Obj.mk (Value.type "code") none (Data.fields (List.toArray [(Value.str (S "sum_pieces") 521), (Value.str (S "sum_pieces") 522), (Value.str (S "/claim/cut.py") 523), (Value.int (Int.ofNat 151) 0), (Value.int (Int.ofNat 1) 0), (Value.int (Int.ofNat 0) 0), (Value.int (Int.ofNat 0) 0), (Value.int (Int.ofNat 3) 0), (R 254), (Value.bool true), (Value.int (Int.ofNat 181) 0), (R 255), Value.none, (R 256), (R 257), (R 258), (Value.int (Int.ofNat 528) 0), (Value.int (Int.ofNat 151) 0), (Value.str (S "/claim/cut.py") 529)])) (List.toArray [])
abbrev o260 (P : Params) : Obj := Obj.mk (Value.type "function") none (Data.func (FuncData.mk (S "sum_pieces") (S "sum_pieces") (defArgs (T 32)) (FuncBody.stmts (defBody (T 32))) (defScope (T 32)) 3 [] Value.none Value.none Value.none (Value.str (S "budwright.sumtexts") 498) none (R 259) Value.none 0)) (List.toArray [])
abbrev o268 (P : Params) : Obj := Obj.mk (Value.type "tuple") none (Data.seq (List.toArray []) 0) (List.toArray [])
abbrev o269 (P : Params) : Obj := Obj.mk (Value.type "tuple") none (Data.seq (List.toArray [(R 268)]) 0) (List.toArray [])
abbrev o270 (P : Params) : Obj := Obj.mk (Value.type "tuple") none (Data.seq (List.toArray []) 0) (List.toArray [])
abbrev o273 (P : Params) : Obj := Obj.mk (Value.type "code") none (Data.fields (List.toArray [(Value.str (S "__init__") 547), (Value.str (S "Sum.__init__") 548), (Value.str (S "/claim/cut.py") 549), (Value.int (Int.ofNat 166) 0), (Value.int (Int.ofNat 3) 0), (Value.int (Int.ofNat 0) 0), (Value.int (Int.ofNat 0) 0), (Value.int (Int.ofNat 3) 0), (R 270), (Value.bool true), (Value.int (Int.ofNat 181) 0), (R 271), Value.none, Value.none, Value.none, (R 272), (Value.int (Int.ofNat 550) 0), (Value.int (Int.ofNat 166) 0), (Value.str (S "/claim/cut.py") 551)])) (List.toArray [])
abbrev o274 (P : Params) : Obj := Obj.mk (Value.type "function") none (Data.func (FuncData.mk (S "__init__") (S "Sum.__init__") (defArgs (M 35 0)) (FuncBody.stmts (defBody (M 35 0))) (defScope (M 35 0)) 3 [] (R 269) Value.none Value.none (Value.str (S "budwright.sums") 531) none (R 273) Value.none 0)) (List.toArray [])
abbrev o275 (P : Params) : Obj := Obj.mk (Value.type "tuple") none (Data.seq (List.toArray []) 0) (List.toArray [])
abbrev o277 (P : Params) : Obj := Obj.mk (Value.type "tuple") none (Data.seq (List.toArray [(Value.str (S "self") 556)]) 0) (List.toArray [])
abbrev o278 (P : Params) : Obj := Obj.mk (Value.type "tuple") none (Data.seq (List.toArray []) 0) (List.toArray [])
abbrev o280 (P : Params) : Obj := Obj.mk (Value.type "code") none (Data.fields (List.toArray [(Value.str (S "terms") 553), (Value.str (S "Sum.terms") 554), (Value.str (S "/claim/cut.py") 555), (Value.int (Int.ofNat 175) 0), (Value.int (Int.ofNat 1) 0), (Value.int (Int.ofNat 0) 0), (Value.int (Int.ofNat 0) 0), (Value.int (Int.ofNat 3) 0), (R 275), (Value.bool true), (Value.int (Int.ofNat 181) 0), (R 276), Value.none, (R 277), (R 278), (R 279), (Value.int (Int.ofNat 557) 0), (Value.int (Int.ofNat 175) 0), (Value.str (S "/claim/cut.py") 558)])) (List.toArray [])
abbrev o281 (P : Params) : Obj := Obj.mk (Value.type "function") none (Data.func (FuncData.mk (S "terms") (S "Sum.terms") (defArgs (M 35 1)) (FuncBody.stmts (defBody (M 35 1))) (defScope (M 35 1)) 3 [] Value.none Value.none Value.none (Value.str (S "budwright.sums") 531) none (R 280) Value.none 0)) (List.toArray [])
abbrev o282 (P : Params) : Obj := Obj.mk (Value.type "tuple") none (Data.seq (List.toArray []) 0) (List.toArray [])
abbrev o284 (P : Params) : Obj := Obj.mk (Value.type "tuple") none (Data.seq (List.toArray [(Value.str (S "self") 563), (Value.str (S "other") 564)]) 0) (List.toArray [])
abbrev o285 (P : Params) : Obj := Obj.mk (Value.type "tuple") none (Data.seq (List.toArray []) 0) (List.toArray [])
abbrev o287 (P : Params) : Obj := Obj.mk (Value.type "code") none (Data.fields (List.toArray [(Value.str (S "plus") 560), (Value.str (S "Sum.plus") 561), (Value.str (S "/claim/cut.py") 562), (Value.int (Int.ofNat 178) 0), (Value.int (Int.ofNat 2) 0), (Value.int (Int.ofNat 0) 0), (Value.int (Int.ofNat 0) 0), (Value.int (Int.ofNat 3) 0), (R 282), (Value.bool true), (Value.int (Int.ofNat 181) 0), (R 283), Value.none, (R 284), (R 285), (R 286), (Value.int (Int.ofNat 565) 0), (Value.int (Int.ofNat 178) 0), (Value.str (S "/claim/cut.py") 566)])) (List.toArray [])
abbrev o288 (P : Params) : Obj := Obj.mk (Value.type "function") none (Data.func (FuncData.mk (S "plus") (S "Sum.plus") (defArgs (M 35 2)) (FuncBody.stmts (defBody (M 35 2))) (defScope (M 35 2)) 3 [] Value.none Value.none Value.none (Value.str (S "budwright.sums") 531) none (R 287) Value.none 0)) (List.toArray [])
abbrev o289 (P : Params) : Obj := Obj.mk (Value.type "tuple") none (Data.seq (List.toArray []) 0) (List.toArray [])
abbrev o291 (P : Params) : Obj := Obj.mk (Value.type "tuple") none (Data.seq (List.toArray [(Value.str (S "self") 571), (Value.str (S "other") 572)]) 0) (List.toArray [])
abbrev o292 (P : Params) : Obj := Obj.mk (Value.type "tuple") none (Data.seq (List.toArray []) 0) (List.toArray [])
abbrev o294 (P : Params) : Obj := Obj.mk (Value.type "code") none (Data.fields (List.toArray [(Value.str (S "minus") 568), (Value.str (S "Sum.minus") 569), (Value.str (S "/claim/cut.py") 570), (Value.int (Int.ofNat 181) 0), (Value.int (Int.ofNat 2) 0), (Value.int (Int.ofNat 0) 0), (Value.int (Int.ofNat 0) 0), (Value.int (Int.ofNat 3) 0), (R 289), (Value.bool true), (Value.int (Int.ofNat 181) 0), (R 290), Value.none, (R 291), (R 292), (R 293), (Value.int (Int.ofNat 573) 0), (Value.int (Int.ofNat 181) 0), (Value.str (S "/claim/cut.py") 574)])) (List.toArray [])
abbrev o295 (P : Params) : Obj := Obj.mk (Value.type "function") none (Data.func (FuncData.mk (S "minus") (S "Sum.minus") (defArgs (M 35 3)) (FuncBody.stmts (defBody (M 35 3))) (defScope (M 35 3)) 3 [] Value.none Value.none Value.none (Value.str (S "budwright.sums") 531) none (R 294) Value.none 0)) (List.toArray [])
abbrev o296 (P : Params) : Obj := Obj.mk (Value.type "tuple") none (Data.seq (List.toArray []) 0) (List.toArray [])
abbrev o298 (P : Params) : Obj := Obj.mk (Value.type "tuple") none (Data.seq (List.toArray [(Value.str (S "self") 579), (Value.str (S "other") 580)]) 0) (List.toArray [])
abbrev o299 (P : Params) : Obj := Obj.mk (Value.type "tuple") none (Data.seq (List.toArray []) 0) (List.toArray [])
abbrev o301 (P : Params) : Obj := Obj.mk (Value.type "code") none (Data.fields (List.toArray [(Value.str (S "times") 576), (Value.str (S "Sum.times") 577), (Value.str (S "/claim/cut.py") 578), (Value.int (Int.ofNat 184) 0), (Value.int (Int.ofNat 2) 0), (Value.int (Int.ofNat 0) 0), (Value.int (Int.ofNat 0) 0), (Value.int (Int.ofNat 3) 0), (R 296), (Value.bool true), (Value.int (Int.ofNat 181) 0), (R 297), Value.none, (R 298), (R 299), (R 300), (Value.int (Int.ofNat 581) 0), (Value.int (Int.ofNat 184) 0), (Value.str (S "/claim/cut.py") 582)])) (List.toArray [])
abbrev o302 (P : Params) : Obj := Obj.mk (Value.type "function") none (Data.func (FuncData.mk (S "times") (S "Sum.times") (defArgs (M 35 4)) (FuncBody.stmts (defBody (M 35 4))) (defScope (M 35 4)) 3 [] Value.none Value.none Value.none (Value.str (S "budwright.sums") 531) none (R 301) Value.none 0)) (List.toArray [])
abbrev o303 (P : Params) : Obj := Obj.mk (Value.type "tuple") none (Data.seq (List.toArray []) 0) (List.toArray [])
abbrev o305 (P : Params) : Obj := Obj.mk (Value.type "tuple") none (Data.seq (List.toArray [(Value.str (S "self") 587), (Value.str (S "many") 588)]) 0) (List.toArray [])
abbrev o306 (P : Params) : Obj := Obj.mk (Value.type "tuple") none (Data.seq (List.toArray []) 0) (List.toArray [])
abbrev o308 (P : Params) : Obj := Obj.mk (Value.type "code") none (Data.fields (List.toArray [(Value.str (S "raised") 584), (Value.str (S "Sum.raised") 585), (Value.str (S "/claim/cut.py") 586), (Value.int (Int.ofNat 188) 0), (Value.int (Int.ofNat 2) 0), (Value.int (Int.ofNat 0) 0), (Value.int (Int.ofNat 0) 0), (Value.int (Int.ofNat 3) 0), (R 303), (Value.bool true), (Value.int (Int.ofNat 181) 0), (R 304), Value.none, (R 305), (R 306), (R 307), (Value.int (Int.ofNat 589) 0), (Value.int (Int.ofNat 188) 0), (Value.str (S "/claim/cut.py") 590)])) (List.toArray [])
abbrev o309 (P : Params) : Obj := Obj.mk (Value.type "function") none (Data.func (FuncData.mk (S "raised") (S "Sum.raised") (defArgs (M 35 5)) (FuncBody.stmts (defBody (M 35 5))) (defScope (M 35 5)) 3 [] Value.none Value.none Value.none (Value.str (S "budwright.sums") 531) none (R 308) Value.none 0)) (List.toArray [])
abbrev o310 (P : Params) : Obj := Obj.mk (Value.type "tuple") none (Data.seq (List.toArray []) 0) (List.toArray [])
abbrev o312 (P : Params) : Obj := Obj.mk (Value.type "tuple") none (Data.seq (List.toArray [(Value.str (S "self") 595), (Value.str (S "other") 596), (Value.str (S "found") 597)]) 0) (List.toArray [])
abbrev o313 (P : Params) : Obj := Obj.mk (Value.type "tuple") none (Data.seq (List.toArray []) 0) (List.toArray [])
abbrev o315 (P : Params) : Obj := Obj.mk (Value.type "code") none (Data.fields (List.toArray [(Value.str (S "shared") 592), (Value.str (S "Sum.shared") 593), (Value.str (S "/claim/cut.py") 594), (Value.int (Int.ofNat 191) 0), (Value.int (Int.ofNat 2) 0), (Value.int (Int.ofNat 0) 0), (Value.int (Int.ofNat 0) 0), (Value.int (Int.ofNat 3) 0), (R 310), (Value.bool true), (Value.int (Int.ofNat 181) 0), (R 311), Value.none, (R 312), (R 313), (R 314), (Value.int (Int.ofNat 598) 0), (Value.int (Int.ofNat 191) 0), (Value.str (S "/claim/cut.py") 599)])) (List.toArray [])
abbrev o316 (P : Params) : Obj := Obj.mk (Value.type "function") none (Data.func (FuncData.mk (S "shared") (S "Sum.shared") (defArgs (M 35 6)) (FuncBody.stmts (defBody (M 35 6))) (defScope (M 35 6)) 3 [] Value.none Value.none Value.none (Value.str (S "budwright.sums") 531) none (R 315) Value.none 0)) (List.toArray [])
abbrev o317 (P : Params) : Obj := Obj.mk (Value.type "tuple") none (Data.seq (List.toArray []) 0) (List.toArray [])
abbrev o320 (P : Params) : Obj := Obj.mk (Value.type "code") none (Data.fields (List.toArray [(Value.str (S "worth") 601), (Value.str (S "Sum.worth") 602), (Value.str (S "/claim/cut.py") 603), (Value.int (Int.ofNat 200) 0), (Value.int (Int.ofNat 2) 0), (Value.int (Int.ofNat 0) 0), (Value.int (Int.ofNat 0) 0), (Value.int (Int.ofNat 3) 0), (R 317), (Value.bool true), (Value.int (Int.ofNat 181) 0), (R 318), Value.none, Value.none, Value.none, (R 319), (Value.int (Int.ofNat 604) 0), (Value.int (Int.ofNat 200) 0), (Value.str (S "/claim/cut.py") 605)])) (List.toArray [])
abbrev o321 (P : Params) : Obj := Obj.mk (Value.type "function") none (Data.func (FuncData.mk (S "worth") (S "Sum.worth") (defArgs (M 35 7)) (FuncBody.stmts (defBody (M 35 7))) (defScope (M 35 7)) 3 [] Value.none Value.none Value.none (Value.str (S "budwright.sums") 531) none (R 320) Value.none 0)) (List.toArray [])
abbrev o322 (P : Params) : Obj := Obj.mk (Value.type "tuple") none (Data.seq (List.toArray []) 0) (List.toArray [])
abbrev o324 (P : Params) : Obj := Obj.mk (Value.type "tuple") none (Data.seq (List.toArray [(Value.str (S "self") 610), (Value.str (S "numbers") 611)]) 0) (List.toArray [])
abbrev o325 (P : Params) : Obj := Obj.mk (Value.type "tuple") none (Data.seq (List.toArray []) 0) (List.toArray [])
abbrev o327 (P : Params) : Obj := Obj.mk (Value.type "code") none (Data.fields (List.toArray [(Value.str (S "least") 607), (Value.str (S "Sum.least") 608), (Value.str (S "/claim/cut.py") 609), (Value.int (Int.ofNat 208) 0), (Value.int (Int.ofNat 2) 0), (Value.int (Int.ofNat 0) 0), (Value.int (Int.ofNat 0) 0), (Value.int (Int.ofNat 3) 0), (R 322), (Value.bool true), (Value.int (Int.ofNat 181) 0), (R 323), Value.none, (R 324), (R 325), (R 326), (Value.int (Int.ofNat 612) 0), (Value.int (Int.ofNat 208) 0), (Value.str (S "/claim/cut.py") 613)])) (List.toArray [])
abbrev o328 (P : Params) : Obj := Obj.mk (Value.type "function") none (Data.func (FuncData.mk (S "least") (S "Sum.least") (defArgs (M 35 8)) (FuncBody.stmts (defBody (M 35 8))) (defScope (M 35 8)) 3 [] Value.none Value.none Value.none (Value.str (S "budwright.sums") 531) none (R 327) Value.none 0)) (List.toArray [])
abbrev o329 (P : Params) : Obj := Obj.mk (Value.type "tuple") none (Data.seq (List.toArray []) 0) (List.toArray [])
abbrev o331 (P : Params) : Obj := Obj.mk (Value.type "tuple") none (Data.seq (List.toArray [(Value.str (S "self") 618), (Value.str (S "numbers") 619)]) 0) (List.toArray [])
abbrev o332 (P : Params) : Obj := Obj.mk (Value.type "tuple") none (Data.seq (List.toArray []) 0) (List.toArray [])
abbrev o334 (P : Params) : Obj := Obj.mk (Value.type "code") none (Data.fields (List.toArray [(Value.str (S "greatest") 615), (Value.str (S "Sum.greatest") 616), (Value.str (S "/claim/cut.py") 617), (Value.int (Int.ofNat 212) 0), (Value.int (Int.ofNat 2) 0), (Value.int (Int.ofNat 0) 0), (Value.int (Int.ofNat 0) 0), (Value.int (Int.ofNat 3) 0), (R 329), (Value.bool true), (Value.int (Int.ofNat 181) 0), (R 330), Value.none, (R 331), (R 332), (R 333), (Value.int (Int.ofNat 620) 0), (Value.int (Int.ofNat 212) 0), (Value.str (S "/claim/cut.py") 621)])) (List.toArray [])
abbrev o335 (P : Params) : Obj := Obj.mk (Value.type "function") none (Data.func (FuncData.mk (S "greatest") (S "Sum.greatest") (defArgs (M 35 9)) (FuncBody.stmts (defBody (M 35 9))) (defScope (M 35 9)) 3 [] Value.none Value.none Value.none (Value.str (S "budwright.sums") 531) none (R 334) Value.none 0)) (List.toArray [])
abbrev o336 (P : Params) : Obj := Obj.mk (Value.type "tuple") none (Data.seq (List.toArray []) 0) (List.toArray [])
abbrev o338 (P : Params) : Obj := Obj.mk (Value.type "tuple") none (Data.seq (List.toArray [(Value.str (S "self") 626)]) 0) (List.toArray [])
abbrev o339 (P : Params) : Obj := Obj.mk (Value.type "tuple") none (Data.seq (List.toArray []) 0) (List.toArray [])
abbrev o341 (P : Params) : Obj := Obj.mk (Value.type "code") none (Data.fields (List.toArray [(Value.str (S "lowest") 623), (Value.str (S "Sum.lowest") 624), (Value.str (S "/claim/cut.py") 625), (Value.int (Int.ofNat 216) 0), (Value.int (Int.ofNat 1) 0), (Value.int (Int.ofNat 0) 0), (Value.int (Int.ofNat 0) 0), (Value.int (Int.ofNat 3) 0), (R 336), (Value.bool true), (Value.int (Int.ofNat 181) 0), (R 337), Value.none, (R 338), (R 339), (R 340), (Value.int (Int.ofNat 627) 0), (Value.int (Int.ofNat 216) 0), (Value.str (S "/claim/cut.py") 628)])) (List.toArray [])
abbrev o342 (P : Params) : Obj := Obj.mk (Value.type "function") none (Data.func (FuncData.mk (S "lowest") (S "Sum.lowest") (defArgs (M 35 10)) (FuncBody.stmts (defBody (M 35 10))) (defScope (M 35 10)) 3 [] Value.none Value.none Value.none (Value.str (S "budwright.sums") 531) none (R 341) Value.none 0)) (List.toArray [])
abbrev o343 (P : Params) : Obj := Obj.mk (Value.type "tuple") none (Data.seq (List.toArray []) 0) (List.toArray [])
abbrev o345 (P : Params) : Obj := Obj.mk (Value.type "tuple") none (Data.seq (List.toArray [(Value.str (S "self") 633), (Value.str (S "places") 634)]) 0) (List.toArray [])
abbrev o346 (P : Params) : Obj := Obj.mk (Value.type "tuple") none (Data.seq (List.toArray []) 0) (List.toArray [])
abbrev o348 (P : Params) : Obj := Obj.mk (Value.type "code") none (Data.fields (List.toArray [(Value.str (S "with_ones") 630), (Value.str (S "Sum.with_ones") 631), (Value.str (S "/claim/cut.py") 632), (Value.int (Int.ofNat 219) 0), (Value.int (Int.ofNat 2) 0), (Value.int (Int.ofNat 0) 0), (Value.int (Int.ofNat 0) 0), (Value.int (Int.ofNat 3) 0), (R 343), (Value.bool true), (Value.int (Int.ofNat 181) 0), (R 344), Value.none, (R 345), (R 346), (R 347), (Value.int (Int.ofNat 635) 0), (Value.int (Int.ofNat 219) 0), (Value.str (S "/claim/cut.py") 636)])) (List.toArray [])
abbrev o349 (P : Params) : Obj := Obj.mk (Value.type "function") none (Data.func (FuncData.mk (S "with_ones") (S "Sum.with_ones") (defArgs (M 35 11)) (FuncBody.stmts (defBody (M 35 11))) (defScope (M 35 11)) 3 [] Value.none Value.none Value.none (Value.str (S "budwright.sums") 531) none (R 348) Value.none 0)) (List.toArray [])
abbrev o350 (P : Params) : Obj := Obj.mk (Value.type "tuple") none (Data.seq (List.toArray []) 0) (List.toArray [])
abbrev o352 (P : Params) : Obj := Obj.mk (Value.type "tuple") none (Data.seq (List.toArray [(Value.str (S "self") 641), (Value.str (S "width") 642)]) 0) (List.toArray [])
abbrev o353 (P : Params) : Obj := Obj.mk (Value.type "tuple") none (Data.seq (List.toArray []) 0) (List.toArray [])
abbrev o355 (P : Params) : Obj := Obj.mk (Value.type "code") none (Data.fields (List.toArray [(Value.str (S "widened") 638), (Value.str (S "Sum.widened") 639), (Value.str (S "/claim/cut.py") 640), (Value.int (Int.ofNat 222) 0), (Value.int (Int.ofNat 2) 0), (Value.int (Int.ofNat 0) 0), (Value.int (Int.ofNat 0) 0), (Value.int (Int.ofNat 3) 0), (R 350), (Value.bool true), (Value.int (Int.ofNat 181) 0), (R 351), Value.none, (R 352), (R 353), (R 354), (Value.int (Int.ofNat 643) 0), (Value.int (Int.ofNat 222) 0), (Value.str (S "/claim/cut.py") 644)])) (List.toArray [])
abbrev o356 (P : Params) : Obj := Obj.mk (Value.type "function") none (Data.func (FuncData.mk (S "widened") (S "Sum.widened") (defArgs (M 35 12)) (FuncBody.stmts (defBody (M 35 12))) (defScope (M 35 12)) 3 [] Value.none Value.none Value.none (Value.str (S "budwright.sums") 531) none (R 355) Value.none 0)) (List.toArray [])
abbrev o357 (P : Params) : Obj := Obj.mk (Value.type "tuple") none (Data.seq (List.toArray []) 0) (List.toArray [])
abbrev o359 (P : Params) : Obj := Obj.mk (Value.type "tuple") none (Data.seq (List.toArray [(Value.str (S "self") 649)]) 0) (List.toArray [])
abbrev o360 (P : Params) : Obj := Obj.mk (Value.type "tuple") none (Data.seq (List.toArray []) 0) (List.toArray [])
abbrev o362 (P : Params) : Obj := Obj.mk (Value.type "code") none (Data.fields (List.toArray [(Value.str (S "__len__") 646), (Value.str (S "Sum.__len__") 647), (Value.str (S "/claim/cut.py") 648), (Value.int (Int.ofNat 225) 0), (Value.int (Int.ofNat 1) 0), (Value.int (Int.ofNat 0) 0), (Value.int (Int.ofNat 0) 0), (Value.int (Int.ofNat 3) 0), (R 357), (Value.bool true), (Value.int (Int.ofNat 181) 0), (R 358), Value.none, (R 359), (R 360), (R 361), (Value.int (Int.ofNat 650) 0), (Value.int (Int.ofNat 225) 0), (Value.str (S "/claim/cut.py") 651)])) (List.toArray [])
abbrev o363 (P : Params) : Obj := Obj.mk (Value.type "function") none (Data.func (FuncData.mk (S "__len__") (S "Sum.__len__") (defArgs (M 35 13)) (FuncBody.stmts (defBody (M 35 13))) (defScope (M 35 13)) 3 [] Value.none Value.none Value.none (Value.str (S "budwright.sums") 531) none (R 362) Value.none 0)) (List.toArray [])
abbrev o364 (P : Params) : Obj := Obj.mk (Value.type "tuple") none (Data.seq (List.toArray []) 0) (List.toArray [])
abbrev o366 (P : Params) : Obj := Obj.mk (Value.type "tuple") none (Data.seq (List.toArray [(Value.str (S "self") 656), (Value.str (S "other") 657)]) 0) (List.toArray [])
abbrev o367 (P : Params) : Obj := Obj.mk (Value.type "tuple") none (Data.seq (List.toArray []) 0) (List.toArray [])
abbrev o369 (P : Params) : Obj := Obj.mk (Value.type "code") none (Data.fields (List.toArray [(Value.str (S "__eq__") 653), (Value.str (S "Sum.__eq__") 654), (Value.str (S "/claim/cut.py") 655), (Value.int (Int.ofNat 228) 0), (Value.int (Int.ofNat 2) 0), (Value.int (Int.ofNat 0) 0), (Value.int (Int.ofNat 0) 0), (Value.int (Int.ofNat 3) 0), (R 364), (Value.bool true), (Value.int (Int.ofNat 181) 0), (R 365), Value.none, (R 366), (R 367), (R 368), (Value.int (Int.ofNat 658) 0), (Value.int (Int.ofNat 228) 0), (Value.str (S "/claim/cut.py") 659)])) (List.toArray [])
abbrev o370 (P : Params) : Obj := Obj.mk (Value.type "function") none (Data.func (FuncData.mk (S "__eq__") (S "Sum.__eq__") (defArgs (M 35 14)) (FuncBody.stmts (defBody (M 35 14))) (defScope (M 35 14)) 3 [] Value.none Value.none Value.none (Value.str (S "budwright.sums") 531) none (R 369) Value.none 0)) (List.toArray [])
abbrev o371 (P : Params) : Obj := Obj.mk (Value.type "tuple") none (Data.seq (List.toArray []) 0) (List.toArray [])
abbrev o373 (P : Params) : Obj := Obj.mk (Value.type "tuple") none (Data.seq (List.toArray [(Value.str (S "self") 664)]) 0) (List.toArray [])
abbrev o374 (P : Params) : Obj := Obj.mk (Value.type "tuple") none (Data.seq (List.toArray []) 0) (List.toArray [])
abbrev o376 (P : Params) : Obj := Obj.mk (Value.type "code") none (Data.fields (List.toArray [(Value.str (S "__str__") 661), (Value.str (S "Sum.__str__") 662), (Value.str (S "/claim/cut.py") 663), (Value.int (Int.ofNat 231) 0), (Value.int (Int.ofNat 1) 0), (Value.int (Int.ofNat 0) 0), (Value.int (Int.ofNat 0) 0), (Value.int (Int.ofNat 3) 0), (R 371), (Value.bool true), (Value.int (Int.ofNat 181) 0), (R 372), Value.none, (R 373), (R 374), (R 375), (Value.int (Int.ofNat 665) 0), (Value.int (Int.ofNat 231) 0), (Value.str (S "/claim/cut.py") 666)])) (List.toArray [])
abbrev o377 (P : Params) : Obj := Obj.mk (Value.type "function") none (Data.func (FuncData.mk (S "__str__") (S "Sum.__str__") (defArgs (M 35 15)) (FuncBody.stmts (defBody (M 35 15))) (defScope (M 35 15)) 3 [] Value.none Value.none Value.none (Value.str (S "budwright.sums") 531) none (R 376) Value.none 0)) (List.toArray [])
abbrev o378 (P : Params) : Obj := Obj.mk (Value.type "tuple") none (Data.seq (List.toArray []) 0) (List.toArray [])
abbrev o380 (P : Params) : Obj := Obj.mk (Value.type "tuple") none (Data.seq (List.toArray [(Value.str (S "self") 671)]) 0) (List.toArray [])
abbrev o381 (P : Params) : Obj := Obj.mk (Value.type "tuple") none (Data.seq (List.toArray []) 0) (List.toArray [])
abbrev o383 (P : Params) : Obj := Obj.mk (Value.type "code") none (Data.fields (List.toArray [(Value.str (S "__repr__") 668), (Value.str (S "Sum.__repr__") 669), (Value.str (S "/claim/cut.py") 670), (Value.int (Int.ofNat 234) 0), (Value.int (Int.ofNat 1) 0), (Value.int (Int.ofNat 0) 0), (Value.int (Int.ofNat 0) 0), (Value.int (Int.ofNat 3) 0), (R 378), (Value.bool true), (Value.int (Int.ofNat 181) 0), (R 379), Value.none, (R 380), (R 381), (R 382), (Value.int (Int.ofNat 672) 0), (Value.int (Int.ofNat 234) 0), (Value.str (S "/claim/cut.py") 673)])) (List.toArray [])
abbrev o384 (P : Params) : Obj := Obj.mk (Value.type "function") none (Data.func (FuncData.mk (S "__repr__") (S "Sum.__repr__") (defArgs (M 35 16)) (FuncBody.stmts (defBody (M 35 16))) (defScope (M 35 16)) 3 [] Value.none Value.none Value.none (Value.str (S "budwright.sums") 531) none (R 383) Value.none 0)) (List.toArray [])
abbrev o385 (P : Params) : Obj := Obj.mk (Value.type "tuple") none (Data.seq (List.toArray [(Value.str (S "products") 675), (Value.str (S "width") 676)]) 0) (List.toArray [])
abbrev o386 (P : Params) : Obj := Obj.mk (Value.type "dict") none (Data.dict (List.toArray [E P "__module__" 542 (Value.str (S "budwright.sums") 531), E P "__firstlineno__" 546 (Value.int (Int.ofNat 164) 545), E P "__init__" 552 (R 274), E P "terms" 559 (R 281), E P "plus" 567 (R 288), E P "minus" 575 (R 295), E P "times" 583 (R 302), E P "raised" 591 (R 309), E P "shared" 600 (R 316), E P "worth" 606 (R 321), E P "least" 614 (R 328), E P "greatest" 622 (R 335), E P "lowest" 629 (R 342), E P "with_ones" 637 (R 349), E P "widened" 645 (R 356), E P "__len__" 652 (R 363), E P "__eq__" 660 (R 370), E P "__str__" 667 (R 377), E P "__repr__" 674 (R 384), E P "__static_attributes__" 677 (R 385), E P "__dict__" 679 (R 388), E P "__weakref__" 681 (R 389), E P "__doc__" 682 Value.none, E P "__hash__" 683 Value.none]) 5) (List.toArray [])
abbrev o387 (P : Params) : Obj := Obj.mk (Value.type "type") none (Data.cls (ClassData.mk (S "Sum") [(Value.type "object")] [(R 387), (Value.type "object")] 386 (S "Sum") true [] [] false none false)) (List.toArray [none, none, (some (Value.str (S "Sum") 535)), (some (Value.str (S "Sum") 543)), (some (Value.builtin "object.__new__")), (some (Value.bool true))])
abbrev o388 (P : Params) : Obj := Obj.mk (Value.type "getset_descriptor") none (Data.fields (List.toArray [(Value.str (S "__dict__") 678), (R 387), (Value.builtin "function.__dict__"), (Value.builtin "function.__dict__#set")])) (List.toArray [])
abbrev o389 (P : Params) : Obj := Obj.mk (Value.type "getset_descriptor") none (Data.fields (List.toArray [(Value.str (S "__weakref__") 680), (R 387), (Value.builtin "ExceptionGroup.__weakref__"), Value.none])) (List.toArray [])
abbrev o392 (P : Params) : Obj := Obj.mk (Value.type "tuple") none (Data.seq (List.toArray []) 0) (List.toArray [])
abbrev o394 (P : Params) : Obj := Obj.mk (Value.type "tuple") none (Data.seq (List.toArray [(Value.str (S "width") 689), (Value.str (S "other") 690)]) 0) (List.toArray [])
abbrev o395 (P : Params) : Obj := Obj.mk (Value.type "tuple") none (Data.seq (List.toArray []) 0) (List.toArray [])
abbrev o397 (P : Params) : Obj := Obj.mk (Value.type "code") none (Data.fields (List.toArray [(Value.str (S "check_width") 686), (Value.str (S "check_width") 687), (Value.str (S "/claim/cut.py") 688), (Value.int (Int.ofNat 236) 0), (Value.int (Int.ofNat 2) 0), (Value.int (Int.ofNat 0) 0), (Value.int (Int.ofNat 0) 0), (Value.int (Int.ofNat 3) 0), (R 392), (Value.bool true), (Value.int (Int.ofNat 181) 0), (R 393), Value.none, (R 394), (R 395), (R 396), (Value.int (Int.ofNat 691) 0), (Value.int (Int.ofNat 236) 0), (Value.str (S "/claim/cut.py") 692)])) (List.toArray [])
abbrev o398 (P : Params) : Obj := Obj.mk (Value.type "function") none (Data.func (FuncData.mk (S "check_width") (S "check_width") (defArgs (T 36)) (FuncBody.stmts (defBody (T 36))) (defScope (T 36)) 3 [] Value.none Value.none Value.none (Value.str (S "budwright.sums") 531) none (R 397) Value.none 0)) (List.toArray [])
abbrev o399 (P : Params) : Obj := Obj.mk (Value.type "tuple") none (Data.seq (List.toArray []) 0) (List.toArray [])
abbrev o401 (P : Params) : Obj := Obj.mk (Value.type "tuple") none (Data.seq (List.toArray [(Value.str (S "_law_script") 699)]) 0) (List.toArray [])
abbrev o402 (P : Params) : Obj := Obj.mk (Value.type "tuple") none (Data.seq (List.toArray []) 0) (List.toArray [])
abbrev o404 (P : Params) : Obj := Obj.mk (Value.type "code") none (Data.fields (List.toArray [(Value.str (S "_law_feed") 696), (Value.str (S "_law_feed") 697), (Value.str (S "/claim/cut.py") 698), (Value.int (Int.ofNat 240) 0), (Value.int (Int.ofNat 1) 0), (Value.int (Int.ofNat 0) 0), (Value.int (Int.ofNat 0) 0), (Value.int (Int.ofNat 3) 0), (R 399), (Value.bool true), (Value.int (Int.ofNat 181) 0), (R 400), Value.none, (R 401), (R 402), (R 403), (Value.int (Int.ofNat 700) 0), (Value.int (Int.ofNat 240) 0), (Value.str (S "/claim/cut.py") 701)])) (List.toArray [])
abbrev o405 (P : Params) : Obj := Obj.mk (Value.type "function") none (Data.func (FuncData.mk (S "_law_feed") (S "_law_feed") (defArgs (T 38)) (FuncBody.stmts (defBody (T 38))) (defScope (T 38)) 3 [] Value.none Value.none Value.none (Value.str (S "law_budwright_k06_sums_worth_at_parts") 694) none (R 404) Value.none 0)) (List.toArray [])
abbrev o406 (P : Params) : Obj := Obj.mk (Value.type "tuple") none (Data.seq (List.toArray []) 0) (List.toArray [])
abbrev o408 (P : Params) : Obj := Obj.mk (Value.type "tuple") none (Data.seq (List.toArray [(Value.str (S "_law_feed_here") 706), (Value.str (S "_law_many") 707), (Value.str (S "_law_cell") 708), (Value.str (S "_law_digit") 709), (Value.str (S "_law_mix") 710)]) 0) (List.toArray [])
abbrev o409 (P : Params) : Obj := Obj.mk (Value.type "tuple") none (Data.seq (List.toArray []) 0) (List.toArray [])
abbrev o411 (P : Params) : Obj := Obj.mk (Value.type "code") none (Data.fields (List.toArray [(Value.str (S "_law_draw") 703), (Value.str (S "_law_draw") 704), (Value.str (S "/claim/cut.py") 705), (Value.int (Int.ofNat 242) 0), (Value.int (Int.ofNat 2) 0), (Value.int (Int.ofNat 0) 0), (Value.int (Int.ofNat 0) 0), (Value.int (Int.ofNat 3) 0), (R 406), (Value.bool true), (Value.int (Int.ofNat 181) 0), (R 407), Value.none, (R 408), (R 409), (R 410), (Value.int (Int.ofNat 711) 0), (Value.int (Int.ofNat 242) 0), (Value.str (S "/claim/cut.py") 712)])) (List.toArray [])
abbrev o412 (P : Params) : Obj := Obj.mk (Value.type "function") none (Data.func (FuncData.mk (S "_law_draw") (S "_law_draw") (defArgs (T 39)) (FuncBody.stmts (defBody (T 39))) (defScope (T 39)) 3 [] Value.none Value.none Value.none (Value.str (S "law_budwright_k06_sums_worth_at_parts") 694) none (R 411) Value.none 0)) (List.toArray [])
abbrev o413 (P : Params) : Obj := Obj.mk (Value.type "tuple") none (Data.seq (List.toArray []) 0) (List.toArray [])
abbrev o415 (P : Params) : Obj := Obj.mk (Value.type "tuple") none (Data.seq (List.toArray [(Value.str (S "_law_feed_here") 717), (Value.str (S "_law_row") 718)]) 0) (List.toArray [])
abbrev o416 (P : Params) : Obj := Obj.mk (Value.type "tuple") none (Data.seq (List.toArray []) 0) (List.toArray [])
abbrev o418 (P : Params) : Obj := Obj.mk (Value.type "code") none (Data.fields (List.toArray [(Value.str (S "_law_pick") 714), (Value.str (S "_law_pick") 715), (Value.str (S "/claim/cut.py") 716), (Value.int (Int.ofNat 259) 0), (Value.int (Int.ofNat 2) 0), (Value.int (Int.ofNat 0) 0), (Value.int (Int.ofNat 0) 0), (Value.int (Int.ofNat 3) 0), (R 413), (Value.bool true), (Value.int (Int.ofNat 181) 0), (R 414), Value.none, (R 415), (R 416), (R 417), (Value.int (Int.ofNat 719) 0), (Value.int (Int.ofNat 259) 0), (Value.str (S "/claim/cut.py") 720)])) (List.toArray [])
abbrev o419 (P : Params) : Obj := Obj.mk (Value.type "function") none (Data.func (FuncData.mk (S "_law_pick") (S "_law_pick") (defArgs (T 40)) (FuncBody.stmts (defBody (T 40))) (defScope (T 40)) 3 [] Value.none Value.none Value.none (Value.str (S "law_budwright_k06_sums_worth_at_parts") 694) none (R 418) Value.none 0)) (List.toArray [])
abbrev o420 (P : Params) : Obj := Obj.mk (Value.type "tuple") none (Data.seq (List.toArray []) 0) (List.toArray [])
abbrev o423 (P : Params) : Obj := Obj.mk (Value.type "code") none (Data.fields (List.toArray [(Value.str (S "_law_same") 722), (Value.str (S "_law_same") 723), (Value.str (S "/claim/cut.py") 724), (Value.int (Int.ofNat 261) 0), (Value.int (Int.ofNat 2) 0), (Value.int (Int.ofNat 0) 0), (Value.int (Int.ofNat 0) 0), (Value.int (Int.ofNat 3) 0), (R 420), (Value.bool true), (Value.int (Int.ofNat 181) 0), (R 421), Value.none, Value.none, Value.none, (R 422), (Value.int (Int.ofNat 725) 0), (Value.int (Int.ofNat 261) 0), (Value.str (S "/claim/cut.py") 726)])) (List.toArray [])
abbrev o424 (P : Params) : Obj := Obj.mk (Value.type "function") none (Data.func (FuncData.mk (S "_law_same") (S "_law_same") (defArgs (T 41)) (FuncBody.stmts (defBody (T 41))) (defScope (T 41)) 3 [] Value.none Value.none Value.none (Value.str (S "law_budwright_k06_sums_worth_at_parts") 694) none (R 423) Value.none 0)) (List.toArray [])
abbrev o425 (P : Params) : Obj := Obj.mk (Value.type "tuple") none (Data.seq (List.toArray []) 0) (List.toArray [])
abbrev o427 (P : Params) : Obj := Obj.mk (Value.type "tuple") none (Data.seq (List.toArray [(Value.str (S "_law_asked") 731), (Value.str (S "e") 732)]) 0) (List.toArray [])
abbrev o428 (P : Params) : Obj := Obj.mk (Value.type "tuple") none (Data.seq (List.toArray []) 0) (List.toArray [])
abbrev o430 (P : Params) : Obj := Obj.mk (Value.type "code") none (Data.fields (List.toArray [(Value.str (S "_law_word") 728), (Value.str (S "_law_word") 729), (Value.str (S "/claim/cut.py") 730), (Value.int (Int.ofNat 277) 0), (Value.int (Int.ofNat 1) 0), (Value.int (Int.ofNat 0) 0), (Value.int (Int.ofNat 0) 0), (Value.int (Int.ofNat 3) 0), (R 425), (Value.bool true), (Value.int (Int.ofNat 181) 0), (R 426), Value.none, (R 427), (R 428), (R 429), (Value.int (Int.ofNat 733) 0), (Value.int (Int.ofNat 277) 0), (Value.str (S "/claim/cut.py") 734)])) (List.toArray [])
abbrev o431 (P : Params) : Obj := Obj.mk (Value.type "function") none (Data.func (FuncData.mk (S "_law_word") (S "_law_word") (defArgs (T 42)) (FuncBody.stmts (defBody (T 42))) (defScope (T 42)) 3 [] Value.none Value.none Value.none (Value.str (S "law_budwright_k06_sums_worth_at_parts") 694) none (R 430) Value.none 0)) (List.toArray [])
abbrev o432 (P : Params) : Obj := Obj.mk (Value.type "tuple") none (Data.seq (List.toArray []) 0) (List.toArray [])
abbrev o434 (P : Params) : Obj := Obj.mk (Value.type "tuple") none (Data.seq (List.toArray [(Value.str (S "_law_one") 739), (Value.str (S "_law_other") 740)]) 0) (List.toArray [])
abbrev o435 (P : Params) : Obj := Obj.mk (Value.type "tuple") none (Data.seq (List.toArray []) 0) (List.toArray [])
abbrev o437 (P : Params) : Obj := Obj.mk (Value.type "code") none (Data.fields (List.toArray [(Value.str (S "_law_gcd") 736), (Value.str (S "_law_gcd") 737), (Value.str (S "/claim/cut.py") 738), (Value.int (Int.ofNat 285) 0), (Value.int (Int.ofNat 2) 0), (Value.int (Int.ofNat 0) 0), (Value.int (Int.ofNat 0) 0), (Value.int (Int.ofNat 3) 0), (R 432), (Value.bool true), (Value.int (Int.ofNat 181) 0), (R 433), Value.none, (R 434), (R 435), (R 436), (Value.int (Int.ofNat 741) 0), (Value.int (Int.ofNat 285) 0), (Value.str (S "/claim/cut.py") 742)])) (List.toArray [])
abbrev o438 (P : Params) : Obj := Obj.mk (Value.type "function") none (Data.func (FuncData.mk (S "_law_gcd") (S "_law_gcd") (defArgs (T 43)) (FuncBody.stmts (defBody (T 43))) (defScope (T 43)) 3 [] Value.none Value.none Value.none (Value.str (S "law_budwright_k06_sums_worth_at_parts") 694) none (R 437) Value.none 0)) (List.toArray [])
abbrev o439 (P : Params) : Obj := Obj.mk (Value.type "tuple") none (Data.seq (List.toArray []) 0) (List.toArray [])
abbrev o441 (P : Params) : Obj := Obj.mk (Value.type "tuple") none (Data.seq (List.toArray [(Value.str (S "_law_top") 747), (Value.str (S "_law_under") 748), (Value.str (S "_law_by") 749)]) 0) (List.toArray [])
abbrev o442 (P : Params) : Obj := Obj.mk (Value.type "tuple") none (Data.seq (List.toArray []) 0) (List.toArray [])
abbrev o444 (P : Params) : Obj := Obj.mk (Value.type "code") none (Data.fields (List.toArray [(Value.str (S "_law_low") 744), (Value.str (S "_law_low") 745), (Value.str (S "/claim/cut.py") 746), (Value.int (Int.ofNat 289) 0), (Value.int (Int.ofNat 2) 0), (Value.int (Int.ofNat 0) 0), (Value.int (Int.ofNat 0) 0), (Value.int (Int.ofNat 3) 0), (R 439), (Value.bool true), (Value.int (Int.ofNat 181) 0), (R 440), Value.none, (R 441), (R 442), (R 443), (Value.int (Int.ofNat 750) 0), (Value.int (Int.ofNat 289) 0), (Value.str (S "/claim/cut.py") 751)])) (List.toArray [])
abbrev o445 (P : Params) : Obj := Obj.mk (Value.type "function") none (Data.func (FuncData.mk (S "_law_low") (S "_law_low") (defArgs (T 44)) (FuncBody.stmts (defBody (T 44))) (defScope (T 44)) 3 [] Value.none Value.none Value.none (Value.str (S "law_budwright_k06_sums_worth_at_parts") 694) none (R 444) Value.none 0)) (List.toArray [])
abbrev o446 (P : Params) : Obj := Obj.mk (Value.type "tuple") none (Data.seq (List.toArray []) 0) (List.toArray [])
abbrev o448 (P : Params) : Obj := Obj.mk (Value.type "tuple") none (Data.seq (List.toArray [(Value.str (S "_law_one") 756), (Value.str (S "_law_other") 757)]) 0) (List.toArray [])
abbrev o449 (P : Params) : Obj := Obj.mk (Value.type "tuple") none (Data.seq (List.toArray []) 0) (List.toArray [])
abbrev o451 (P : Params) : Obj := Obj.mk (Value.type "code") none (Data.fields (List.toArray [(Value.str (S "_law_add") 753), (Value.str (S "_law_add") 754), (Value.str (S "/claim/cut.py") 755), (Value.int (Int.ofNat 294) 0), (Value.int (Int.ofNat 2) 0), (Value.int (Int.ofNat 0) 0), (Value.int (Int.ofNat 0) 0), (Value.int (Int.ofNat 3) 0), (R 446), (Value.bool true), (Value.int (Int.ofNat 181) 0), (R 447), Value.none, (R 448), (R 449), (R 450), (Value.int (Int.ofNat 758) 0), (Value.int (Int.ofNat 294) 0), (Value.str (S "/claim/cut.py") 759)])) (List.toArray [])
abbrev o452 (P : Params) : Obj := Obj.mk (Value.type "function") none (Data.func (FuncData.mk (S "_law_add") (S "_law_add") (defArgs (T 45)) (FuncBody.stmts (defBody (T 45))) (defScope (T 45)) 3 [] Value.none Value.none Value.none (Value.str (S "law_budwright_k06_sums_worth_at_parts") 694) none (R 451) Value.none 0)) (List.toArray [])
abbrev o453 (P : Params) : Obj := Obj.mk (Value.type "tuple") none (Data.seq (List.toArray []) 0) (List.toArray [])
abbrev o455 (P : Params) : Obj := Obj.mk (Value.type "tuple") none (Data.seq (List.toArray [(Value.str (S "_law_one") 764), (Value.str (S "_law_other") 765)]) 0) (List.toArray [])
abbrev o456 (P : Params) : Obj := Obj.mk (Value.type "tuple") none (Data.seq (List.toArray []) 0) (List.toArray [])
abbrev o458 (P : Params) : Obj := Obj.mk (Value.type "code") none (Data.fields (List.toArray [(Value.str (S "_law_mul") 761), (Value.str (S "_law_mul") 762), (Value.str (S "/claim/cut.py") 763), (Value.int (Int.ofNat 296) 0), (Value.int (Int.ofNat 2) 0), (Value.int (Int.ofNat 0) 0), (Value.int (Int.ofNat 0) 0), (Value.int (Int.ofNat 3) 0), (R 453), (Value.bool true), (Value.int (Int.ofNat 181) 0), (R 454), Value.none, (R 455), (R 456), (R 457), (Value.int (Int.ofNat 766) 0), (Value.int (Int.ofNat 296) 0), (Value.str (S "/claim/cut.py") 767)])) (List.toArray [])
abbrev o459 (P : Params) : Obj := Obj.mk (Value.type "function") none (Data.func (FuncData.mk (S "_law_mul") (S "_law_mul") (defArgs (T 46)) (FuncBody.stmts (defBody (T 46))) (defScope (T 46)) 3 [] Value.none Value.none Value.none (Value.str (S "law_budwright_k06_sums_worth_at_parts") 694) none (R 458) Value.none 0)) (List.toArray [])
abbrev o460 (P : Params) : Obj := Obj.mk (Value.type "tuple") none (Data.seq (List.toArray []) 0) (List.toArray [])
abbrev o462 (P : Params) : Obj := Obj.mk (Value.type "tuple") none (Data.seq (List.toArray [(Value.str (S "_law_one") 772), (Value.str (S "_law_many") 773), (Value.str (S "_law_top") 774), (Value.str (S "_law_under") 775), (Value.str (S "_law_turn") 776)]) 0) (List.toArray [])
abbrev o463 (P : Params) : Obj := Obj.mk (Value.type "tuple") none (Data.seq (List.toArray []) 0) (List.toArray [])
abbrev o465 (P : Params) : Obj := Obj.mk (Value.type "code") none (Data.fields (List.toArray [(Value.str (S "_law_pow") 769), (Value.str (S "_law_pow") 770), (Value.str (S "/claim/cut.py") 771), (Value.int (Int.ofNat 298) 0), (Value.int (Int.ofNat 2) 0), (Value.int (Int.ofNat 0) 0), (Value.int (Int.ofNat 0) 0), (Value.int (Int.ofNat 3) 0), (R 460), (Value.bool true), (Value.int (Int.ofNat 181) 0), (R 461), Value.none, (R 462), (R 463), (R 464), (Value.int (Int.ofNat 777) 0), (Value.int (Int.ofNat 298) 0), (Value.str (S "/claim/cut.py") 778)])) (List.toArray [])
abbrev o466 (P : Params) : Obj := Obj.mk (Value.type "function") none (Data.func (FuncData.mk (S "_law_pow") (S "_law_pow") (defArgs (T 47)) (FuncBody.stmts (defBody (T 47))) (defScope (T 47)) 3 [] Value.none Value.none Value.none (Value.str (S "law_budwright_k06_sums_worth_at_parts") 694) none (R 465) Value.none 0)) (List.toArray [])
abbrev o467 (P : Params) : Obj := Obj.mk (Value.type "tuple") none (Data.seq (List.toArray []) 0) (List.toArray [])
abbrev o469 (P : Params) : Obj := Obj.mk (Value.type "tuple") none (Data.seq (List.toArray [(Value.str (S "_law_feed_here") 783), (Value.str (S "_law_size") 784)]) 0) (List.toArray [])
abbrev o470 (P : Params) : Obj := Obj.mk (Value.type "tuple") none (Data.seq (List.toArray []) 0) (List.toArray [])
abbrev o472 (P : Params) : Obj := Obj.mk (Value.type "code") none (Data.fields (List.toArray [(Value.str (S "_law_great_number") 780), (Value.str (S "_law_great_number") 781), (Value.str (S "/claim/cut.py") 782), (Value.int (Int.ofNat 303) 0), (Value.int (Int.ofNat 1) 0), (Value.int (Int.ofNat 0) 0), (Value.int (Int.ofNat 0) 0), (Value.int (Int.ofNat 3) 0), (R 467), (Value.bool true), (Value.int (Int.ofNat 181) 0), (R 468), Value.none, (R 469), (R 470), (R 471), (Value.int (Int.ofNat 785) 0), (Value.int (Int.ofNat 303) 0), (Value.str (S "/claim/cut.py") 786)])) (List.toArray [])
abbrev o473 (P : Params) : Obj := Obj.mk (Value.type "function") none (Data.func (FuncData.mk (S "_law_great_number") (S "_law_great_number") (defArgs (T 48)) (FuncBody.stmts (defBody (T 48))) (defScope (T 48)) 3 [] Value.none Value.none Value.none (Value.str (S "law_budwright_k06_sums_worth_at_parts") 694) none (R 472) Value.none 0)) (List.toArray [])
abbrev o474 (P : Params) : Obj := Obj.mk (Value.type "tuple") none (Data.seq (List.toArray []) 0) (List.toArray [])
abbrev o477 (P : Params) : Obj := Obj.mk (Value.type "code") none (Data.fields (List.toArray [(Value.str (S "_law_powers") 788), (Value.str (S "_law_powers") 789), (Value.str (S "/claim/cut.py") 790), (Value.int (Int.ofNat 306) 0), (Value.int (Int.ofNat 2) 0), (Value.int (Int.ofNat 0) 0), (Value.int (Int.ofNat 0) 0), (Value.int (Int.ofNat 3) 0), (R 474), (Value.bool true), (Value.int (Int.ofNat 181) 0), (R 475), Value.none, Value.none, Value.none, (R 476), (Value.int (Int.ofNat 791) 0), (Value.int (Int.ofNat 306) 0), (Value.str (S "/claim/cut.py") 792)])) (List.toArray [])
abbrev o478 (P : Params) : Obj := Obj.mk (Value.type "function") none (Data.func (FuncData.mk (S "_law_powers") (S "_law_powers") (defArgs (T 49)) (FuncBody.stmts (defBody (T 49))) (defScope (T 49)) 3 [] Value.none Value.none Value.none (Value.str (S "law_budwright_k06_sums_worth_at_parts") 694) none (R 477) Value.none 0)) (List.toArray [])
abbrev o479 (P : Params) : Obj := Obj.mk (Value.type "tuple") none (Data.seq (List.toArray []) 0) (List.toArray [])
abbrev o481 (P : Params) : Obj := Obj.mk (Value.type "tuple") none (Data.seq (List.toArray [(Value.str (S "_law_feed_here") 797), (Value.str (S "_law_width") 798), (Value.str (S "_law_most") 799), (Value.str (S "_law_found") 800), (Value.str (S "_law_k") 801), (Value.str (S "_law_many") 802)]) 0) (List.toArray [])
abbrev o482 (P : Params) : Obj := Obj.mk (Value.type "tuple") none (Data.seq (List.toArray []) 0) (List.toArray [])
abbrev o484 (P : Params) : Obj := Obj.mk (Value.type "code") none (Data.fields (List.toArray [(Value.str (S "_law_terms") 794), (Value.str (S "_law_terms") 795), (Value.str (S "/claim/cut.py") 796), (Value.int (Int.ofNat 309) 0), (Value.int (Int.ofNat 3) 0), (Value.int (Int.ofNat 0) 0), (Value.int (Int.ofNat 0) 0), (Value.int (Int.ofNat 3) 0), (R 479), (Value.bool true), (Value.int (Int.ofNat 181) 0), (R 480), Value.none, (R 481), (R 482), (R 483), (Value.int (Int.ofNat 803) 0), (Value.int (Int.ofNat 309) 0), (Value.str (S "/claim/cut.py") 804)])) (List.toArray [])
abbrev o485 (P : Params) : Obj := Obj.mk (Value.type "function") none (Data.func (FuncData.mk (S "_law_terms") (S "_law_terms") (defArgs (T 50)) (FuncBody.stmts (defBody (T 50))) (defScope (T 50)) 3 [] Value.none Value.none Value.none (Value.str (S "law_budwright_k06_sums_worth_at_parts") 694) none (R 484) Value.none 0)) (List.toArray [])
abbrev o486 (P : Params) : Obj := Obj.mk (Value.type "tuple") none (Data.seq (List.toArray []) 0) (List.toArray [])
abbrev o489 (P : Params) : Obj := Obj.mk (Value.type "code") none (Data.fields (List.toArray [(Value.str (S "_law_book") 806), (Value.str (S "_law_book") 807), (Value.str (S "/claim/cut.py") 808), (Value.int (Int.ofNat 317) 0), (Value.int (Int.ofNat 1) 0), (Value.int (Int.ofNat 0) 0), (Value.int (Int.ofNat 0) 0), (Value.int (Int.ofNat 3) 0), (R 486), (Value.bool true), (Value.int (Int.ofNat 181) 0), (R 487), Value.none, Value.none, Value.none, (R 488), (Value.int (Int.ofNat 809) 0), (Value.int (Int.ofNat 317) 0), (Value.str (S "/claim/cut.py") 810)])) (List.toArray [])
abbrev o490 (P : Params) : Obj := Obj.mk (Value.type "function") none (Data.func (FuncData.mk (S "_law_book") (S "_law_book") (defArgs (T 51)) (FuncBody.stmts (defBody (T 51))) (defScope (T 51)) 3 [] Value.none Value.none Value.none (Value.str (S "law_budwright_k06_sums_worth_at_parts") 694) none (R 489) Value.none 0)) (List.toArray [])
abbrev o491 (P : Params) : Obj := Obj.mk (Value.type "tuple") none (Data.seq (List.toArray []) 0) (List.toArray [])
abbrev o493 (P : Params) : Obj := Obj.mk (Value.type "tuple") none (Data.seq (List.toArray [(Value.str (S "_law_book_here") 815), (Value.str (S "_law_parts") 816), (Value.str (S "_law_found") 817), (Value.str (S "_law_powers_here") 818), (Value.str (S "_law_here") 819), (Value.str (S "_law_one") 820), (Value.str (S "_law_by") 821)]) 0) (List.toArray [])
abbrev o494 (P : Params) : Obj := Obj.mk (Value.type "tuple") none (Data.seq (List.toArray []) 0) (List.toArray [])
abbrev o496 (P : Params) : Obj := Obj.mk (Value.type "code") none (Data.fields (List.toArray [(Value.str (S "_law_worth") 812), (Value.str (S "_law_worth") 813), (Value.str (S "/claim/cut.py") 814), (Value.int (Int.ofNat 322) 0), (Value.int (Int.ofNat 2) 0), (Value.int (Int.ofNat 0) 0), (Value.int (Int.ofNat 0) 0), (Value.int (Int.ofNat 3) 0), (R 491), (Value.bool true), (Value.int (Int.ofNat 181) 0), (R 492), Value.none, (R 493), (R 494), (R 495), (Value.int (Int.ofNat 822) 0), (Value.int (Int.ofNat 322) 0), (Value.str (S "/claim/cut.py") 823)])) (List.toArray [])
abbrev o497 (P : Params) : Obj := Obj.mk (Value.type "function") none (Data.func (FuncData.mk (S "_law_worth") (S "_law_worth") (defArgs (T 52)) (FuncBody.stmts (defBody (T 52))) (defScope (T 52)) 3 [] Value.none Value.none Value.none (Value.str (S "law_budwright_k06_sums_worth_at_parts") 694) none (R 496) Value.none 0)) (List.toArray [])
abbrev o498 (P : Params) : Obj := Obj.mk (Value.type "tuple") none (Data.seq (List.toArray []) 0) (List.toArray [])
abbrev o501 (P : Params) : Obj := Obj.mk (Value.type "code") none (Data.fields (List.toArray [(Value.str (S "_law_worth_so") 825), (Value.str (S "_law_worth_so") 826), (Value.str (S "/claim/cut.py") 827), (Value.int (Int.ofNat 330) 0), (Value.int (Int.ofNat 4) 0), (Value.int (Int.ofNat 0) 0), (Value.int (Int.ofNat 0) 0), (Value.int (Int.ofNat 3) 0), (R 498), (Value.bool true), (Value.int (Int.ofNat 181) 0), (R 499), Value.none, Value.none, Value.none, (R 500), (Value.int (Int.ofNat 828) 0), (Value.int (Int.ofNat 330) 0), (Value.str (S "/claim/cut.py") 829)])) (List.toArray [])
abbrev o502 (P : Params) : Obj := Obj.mk (Value.type "function") none (Data.func (FuncData.mk (S "_law_worth_so") (S "_law_worth_so") (defArgs (T 53)) (FuncBody.stmts (defBody (T 53))) (defScope (T 53)) 3 [] Value.none Value.none Value.none (Value.str (S "law_budwright_k06_sums_worth_at_parts") 694) none (R 501) Value.none 0)) (List.toArray [])
abbrev o503 (P : Params) : Obj := Obj.mk (Value.type "tuple") none (Data.seq (List.toArray []) 0) (List.toArray [])
abbrev o505 (P : Params) : Obj := Obj.mk (Value.type "tuple") none (Data.seq (List.toArray [(Value.str (S "_law_found") 834), (Value.str (S "_law_heights") 835), (Value.str (S "_law_width") 836), (Value.str (S "_law_words") 837)]) 0) (List.toArray [])
abbrev o506 (P : Params) : Obj := Obj.mk (Value.type "tuple") none (Data.seq (List.toArray [(Value.str (S "_law_found") 838), (Value.str (S "_law_heights") 839), (Value.str (S "_law_width") 840)]) 0) (List.toArray [])
abbrev o508 (P : Params) : Obj := Obj.mk (Value.type "code") none (Data.fields (List.toArray [(Value.str (S "_law_lengths_so") 831), (Value.str (S "_law_lengths_so") 832), (Value.str (S "/claim/cut.py") 833), (Value.int (Int.ofNat 340) 0), (Value.int (Int.ofNat 3) 0), (Value.int (Int.ofNat 0) 0), (Value.int (Int.ofNat 0) 0), (Value.int (Int.ofNat 3) 0), (R 503), (Value.bool true), (Value.int (Int.ofNat 181) 0), (R 504), Value.none, (R 505), (R 506), (R 507), (Value.int (Int.ofNat 841) 0), (Value.int (Int.ofNat 340) 0), (Value.str (S "/claim/cut.py") 842)])) (List.toArray [])
abbrev o509 (P : Params) : Obj := Obj.mk (Value.type "function") none (Data.func (FuncData.mk (S "_law_lengths_so") (S "_law_lengths_so") (defArgs (T 54)) (FuncBody.stmts (defBody (T 54))) (defScope (T 54)) 3 [] Value.none Value.none Value.none (Value.str (S "law_budwright_k06_sums_worth_at_parts") 694) none (R 508) Value.none 0)) (List.toArray [])
abbrev o510 (P : Params) : Obj := Obj.mk (Value.type "tuple") none (Data.seq (List.toArray []) 0) (List.toArray [])
abbrev o513 (P : Params) : Obj := Obj.mk (Value.type "code") none (Data.fields (List.toArray [(Value.str (S "law") 844), (Value.str (S "law") 845), (Value.str (S "/claim/cut.py") 846), (Value.int (Int.ofNat 347) 0), (Value.int (Int.ofNat 1) 0), (Value.int (Int.ofNat 0) 0), (Value.int (Int.ofNat 0) 0), (Value.int (Int.ofNat 3) 0), (R 510), (Value.bool true), (Value.int (Int.ofNat 181) 0), (R 511), Value.none, Value.none, Value.none, (R 512), (Value.int (Int.ofNat 847) 0), (Value.int (Int.ofNat 347) 0), (Value.str (S "/claim/cut.py") 848)])) (List.toArray [])
abbrev o514 (P : Params) : Obj := Obj.mk (Value.type "function") none (Data.func (FuncData.mk (S "law") (S "law") (defArgs (T 55)) (FuncBody.stmts (defBody (T 55))) (defScope (T 55)) 3 [] Value.none Value.none Value.none (Value.str (S "law_budwright_k06_sums_worth_at_parts") 694) none (R 513) Value.none 0)) (List.toArray [])
def K (P : Params) : Frag := (nat_lit 2, o2 P) :: (nat_lit 3, o3 P) :: (nat_lit 15, o15 P) :: (nat_lit 17, o17 P) :: (nat_lit 18, o18 P) :: (nat_lit 20, o20 P) :: (nat_lit 21, o21 P) :: (nat_lit 22, o22 P) :: (nat_lit 29, o29 P) :: (nat_lit 31, o31 P) :: (nat_lit 32, o32 P) :: (nat_lit 34, o34 P) :: (nat_lit 35, o35 P) :: (nat_lit 36, o36 P) :: (nat_lit 37, o37 P) :: (nat_lit 38, o38 P) :: (nat_lit 39, o39 P) :: (nat_lit 42, o42 P) :: (nat_lit 49, o49 P) :: (nat_lit 51, o51 P) :: (nat_lit 52, o52 P) :: (nat_lit 54, o54 P) :: (nat_lit 55, o55 P) :: (nat_lit 56, o56 P) :: (nat_lit 57, o57 P) :: (nat_lit 58, o58 P) :: (nat_lit 61, o61 P) :: (nat_lit 68, o68 P) :: (nat_lit 70, o70 P) :: (nat_lit 71, o71 P) :: (nat_lit 73, o73 P) :: (nat_lit 74, o74 P) :: (nat_lit 75, o75 P) :: (nat_lit 76, o76 P) :: (nat_lit 77, o77 P) :: (nat_lit 80, o80 P) :: (nat_lit 87, o87 P) :: (nat_lit 89, o89 P) :: (nat_lit 90, o90 P) :: (nat_lit 92, o92 P) :: (nat_lit 93, o93 P) :: (nat_lit 94, o94 P) :: (nat_lit 95, o95 P) :: (nat_lit 96, o96 P) :: (nat_lit 97, o97 P) :: (nat_lit 100, o100 P) :: (nat_lit 107, o107 P) :: (nat_lit 109, o109 P) :: (nat_lit 110, o110 P) :: (nat_lit 112, o112 P) :: (nat_lit 113, o113 P) :: (nat_lit 114, o114 P) :: (nat_lit 115, o115 P) :: (nat_lit 116, o116 P) :: (nat_lit 117, o117 P) :: (nat_lit 120, o120 P) :: (nat_lit 127, o127 P) :: (nat_lit 129, o129 P) :: (nat_lit 130, o130 P) :: (nat_lit 132, o132 P) :: (nat_lit 133, o133 P) :: (nat_lit 134, o134 P) :: (nat_lit 135, o135 P) :: (nat_lit 136, o136 P) :: (nat_lit 137, o137 P) :: (nat_lit 140, o140 P) :: (nat_lit 147, o147 P) :: (nat_lit 149, o149 P) :: (nat_lit 150, o150 P) :: (nat_lit 152, o152 P) :: (nat_lit 153, o153 P) :: (nat_lit 154, o154 P) :: (nat_lit 155, o155 P) :: (nat_lit 156, o156 P) :: (nat_lit 157, o157 P) :: (nat_lit 160, o160 P) :: (nat_lit 162, o162 P) :: (nat_lit 163, o163 P) :: (nat_lit 165, o165 P) :: (nat_lit 166, o166 P) :: (nat_lit 167, o167 P) :: (nat_lit 169, o169 P) :: (nat_lit 170, o170 P) :: (nat_lit 172, o172 P) :: (nat_lit 173, o173 P) :: (nat_lit 174, o174 P) :: (nat_lit 176, o176 P) :: (nat_lit 177, o177 P) :: (nat_lit 179, o179 P) :: (nat_lit 180, o180 P) :: (nat_lit 181, o181 P) :: (nat_lit 184, o184 P) :: (nat_lit 185, o185 P) :: (nat_lit 186, o186 P) :: (nat_lit 189, o189 P) :: (nat_lit 190, o190 P) :: (nat_lit 191, o191 P) :: (nat_lit 194, o194 P) :: (nat_lit 195, o195 P) :: (nat_lit 196, o196 P) :: (nat_lit 199, o199 P) :: (nat_lit 200, o200 P) :: (nat_lit 201, o201 P) :: (nat_lit 204, o204 P) :: (nat_lit 205, o205 P) :: (nat_lit 206, o206 P) :: (nat_lit 209, o209 P) :: (nat_lit 210, o210 P) :: (nat_lit 211, o211 P) :: (nat_lit 213, o213 P) :: (nat_lit 214, o214 P) :: (nat_lit 216, o216 P) :: (nat_lit 217, o217 P) :: (nat_lit 218, o218 P) :: (nat_lit 221, o221 P) :: (nat_lit 222, o222 P) :: (nat_lit 223, o223 P) :: (nat_lit 226, o226 P) :: (nat_lit 227, o227 P) :: (nat_lit 228, o228 P) :: (nat_lit 231, o231 P) :: (nat_lit 232, o232 P) :: (nat_lit 233, o233 P) :: (nat_lit 235, o235 P) :: (nat_lit 236, o236 P) :: (nat_lit 238, o238 P) :: (nat_lit 239, o239 P) :: (nat_lit 240, o240 P) :: (nat_lit 242, o242 P) :: (nat_lit 243, o243 P) :: (nat_lit 245, o245 P) :: (nat_lit 246, o246 P) :: (nat_lit 247, o247 P) :: (nat_lit 249, o249 P) :: (nat_lit 250, o250 P) :: (nat_lit 252, o252 P) :: (nat_lit 253, o253 P) :: (nat_lit 254, o254 P) :: (nat_lit 256, o256 P) :: (nat_lit 257, o257 P) :: (nat_lit 259, o259 P) :: (nat_lit 260, o260 P) :: (nat_lit 268, o268 P) :: (nat_lit 269, o269 P) :: (nat_lit 270, o270 P) :: (nat_lit 273, o273 P) :: (nat_lit 274, o274 P) :: (nat_lit 275, o275 P) :: (nat_lit 277, o277 P) :: (nat_lit 278, o278 P) :: (nat_lit 280, o280 P) :: (nat_lit 281, o281 P) :: (nat_lit 282, o282 P) :: (nat_lit 284, o284 P) :: (nat_lit 285, o285 P) :: (nat_lit 287, o287 P) :: (nat_lit 288, o288 P) :: (nat_lit 289, o289 P) :: (nat_lit 291, o291 P) :: (nat_lit 292, o292 P) :: (nat_lit 294, o294 P) :: (nat_lit 295, o295 P) :: (nat_lit 296, o296 P) :: (nat_lit 298, o298 P) :: (nat_lit 299, o299 P) :: (nat_lit 301, o301 P) :: (nat_lit 302, o302 P) :: (nat_lit 303, o303 P) :: (nat_lit 305, o305 P) :: (nat_lit 306, o306 P) :: (nat_lit 308, o308 P) :: (nat_lit 309, o309 P) :: (nat_lit 310, o310 P) :: (nat_lit 312, o312 P) :: (nat_lit 313, o313 P) :: (nat_lit 315, o315 P) :: (nat_lit 316, o316 P) :: (nat_lit 317, o317 P) :: (nat_lit 320, o320 P) :: (nat_lit 321, o321 P) :: (nat_lit 322, o322 P) :: (nat_lit 324, o324 P) :: (nat_lit 325, o325 P) :: (nat_lit 327, o327 P) :: (nat_lit 328, o328 P) :: (nat_lit 329, o329 P) :: (nat_lit 331, o331 P) :: (nat_lit 332, o332 P) :: (nat_lit 334, o334 P) :: (nat_lit 335, o335 P) :: (nat_lit 336, o336 P) :: (nat_lit 338, o338 P) :: (nat_lit 339, o339 P) :: (nat_lit 341, o341 P) :: (nat_lit 342, o342 P) :: (nat_lit 343, o343 P) :: (nat_lit 345, o345 P) :: (nat_lit 346, o346 P) :: (nat_lit 348, o348 P) :: (nat_lit 349, o349 P) :: (nat_lit 350, o350 P) :: (nat_lit 352, o352 P) :: (nat_lit 353, o353 P) :: (nat_lit 355, o355 P) :: (nat_lit 356, o356 P) :: (nat_lit 357, o357 P) :: (nat_lit 359, o359 P) :: (nat_lit 360, o360 P) :: (nat_lit 362, o362 P) :: (nat_lit 363, o363 P) :: (nat_lit 364, o364 P) :: (nat_lit 366, o366 P) :: (nat_lit 367, o367 P) :: (nat_lit 369, o369 P) :: (nat_lit 370, o370 P) :: (nat_lit 371, o371 P) :: (nat_lit 373, o373 P) :: (nat_lit 374, o374 P) :: (nat_lit 376, o376 P) :: (nat_lit 377, o377 P) :: (nat_lit 378, o378 P) :: (nat_lit 380, o380 P) :: (nat_lit 381, o381 P) :: (nat_lit 383, o383 P) :: (nat_lit 384, o384 P) :: (nat_lit 385, o385 P) :: (nat_lit 386, o386 P) :: (nat_lit 387, o387 P) :: (nat_lit 388, o388 P) :: (nat_lit 389, o389 P) :: (nat_lit 392, o392 P) :: (nat_lit 394, o394 P) :: (nat_lit 395, o395 P) :: (nat_lit 397, o397 P) :: (nat_lit 398, o398 P) :: (nat_lit 399, o399 P) :: (nat_lit 401, o401 P) :: (nat_lit 402, o402 P) :: (nat_lit 404, o404 P) :: (nat_lit 405, o405 P) :: (nat_lit 406, o406 P) :: (nat_lit 408, o408 P) :: (nat_lit 409, o409 P) :: (nat_lit 411, o411 P) :: (nat_lit 412, o412 P) :: (nat_lit 413, o413 P) :: (nat_lit 415, o415 P) :: (nat_lit 416, o416 P) :: (nat_lit 418, o418 P) :: (nat_lit 419, o419 P) :: (nat_lit 420, o420 P) :: (nat_lit 423, o423 P) :: (nat_lit 424, o424 P) :: (nat_lit 425, o425 P) :: (nat_lit 427, o427 P) :: (nat_lit 428, o428 P) :: (nat_lit 430, o430 P) :: (nat_lit 431, o431 P) :: (nat_lit 432, o432 P) :: (nat_lit 434, o434 P) :: (nat_lit 435, o435 P) :: (nat_lit 437, o437 P) :: (nat_lit 438, o438 P) :: (nat_lit 439, o439 P) :: (nat_lit 441, o441 P) :: (nat_lit 442, o442 P) :: (nat_lit 444, o444 P) :: (nat_lit 445, o445 P) :: (nat_lit 446, o446 P) :: (nat_lit 448, o448 P) :: (nat_lit 449, o449 P) :: (nat_lit 451, o451 P) :: (nat_lit 452, o452 P) :: (nat_lit 453, o453 P) :: (nat_lit 455, o455 P) :: (nat_lit 456, o456 P) :: (nat_lit 458, o458 P) :: (nat_lit 459, o459 P) :: (nat_lit 460, o460 P) :: (nat_lit 462, o462 P) :: (nat_lit 463, o463 P) :: (nat_lit 465, o465 P) :: (nat_lit 466, o466 P) :: (nat_lit 467, o467 P) :: (nat_lit 469, o469 P) :: (nat_lit 470, o470 P) :: (nat_lit 472, o472 P) :: (nat_lit 473, o473 P) :: (nat_lit 474, o474 P) :: (nat_lit 477, o477 P) :: (nat_lit 478, o478 P) :: (nat_lit 479, o479 P) :: (nat_lit 481, o481 P) :: (nat_lit 482, o482 P) :: (nat_lit 484, o484 P) :: (nat_lit 485, o485 P) :: (nat_lit 486, o486 P) :: (nat_lit 489, o489 P) :: (nat_lit 490, o490 P) :: (nat_lit 491, o491 P) :: (nat_lit 493, o493 P) :: (nat_lit 494, o494 P) :: (nat_lit 496, o496 P) :: (nat_lit 497, o497 P) :: (nat_lit 498, o498 P) :: (nat_lit 501, o501 P) :: (nat_lit 502, o502 P) :: (nat_lit 503, o503 P) :: (nat_lit 505, o505 P) :: (nat_lit 506, o506 P) :: (nat_lit 508, o508 P) :: (nat_lit 509, o509 P) :: (nat_lit 510, o510 P) :: (nat_lit 513, o513 P) :: (nat_lit 514, o514 P) :: []
def as : List Addr := nat_lit 2 :: nat_lit 3 :: nat_lit 15 :: nat_lit 17 :: nat_lit 18 :: nat_lit 20 :: nat_lit 21 :: nat_lit 22 :: nat_lit 29 :: nat_lit 31 :: nat_lit 32 :: nat_lit 34 :: nat_lit 35 :: nat_lit 36 :: nat_lit 37 :: nat_lit 38 :: nat_lit 39 :: nat_lit 42 :: nat_lit 49 :: nat_lit 51 :: nat_lit 52 :: nat_lit 54 :: nat_lit 55 :: nat_lit 56 :: nat_lit 57 :: nat_lit 58 :: nat_lit 61 :: nat_lit 68 :: nat_lit 70 :: nat_lit 71 :: nat_lit 73 :: nat_lit 74 :: nat_lit 75 :: nat_lit 76 :: nat_lit 77 :: nat_lit 80 :: nat_lit 87 :: nat_lit 89 :: nat_lit 90 :: nat_lit 92 :: nat_lit 93 :: nat_lit 94 :: nat_lit 95 :: nat_lit 96 :: nat_lit 97 :: nat_lit 100 :: nat_lit 107 :: nat_lit 109 :: nat_lit 110 :: nat_lit 112 :: nat_lit 113 :: nat_lit 114 :: nat_lit 115 :: nat_lit 116 :: nat_lit 117 :: nat_lit 120 :: nat_lit 127 :: nat_lit 129 :: nat_lit 130 :: nat_lit 132 :: nat_lit 133 :: nat_lit 134 :: nat_lit 135 :: nat_lit 136 :: nat_lit 137 :: nat_lit 140 :: nat_lit 147 :: nat_lit 149 :: nat_lit 150 :: nat_lit 152 :: nat_lit 153 :: nat_lit 154 :: nat_lit 155 :: nat_lit 156 :: nat_lit 157 :: nat_lit 160 :: nat_lit 162 :: nat_lit 163 :: nat_lit 165 :: nat_lit 166 :: nat_lit 167 :: nat_lit 169 :: nat_lit 170 :: nat_lit 172 :: nat_lit 173 :: nat_lit 174 :: nat_lit 176 :: nat_lit 177 :: nat_lit 179 :: nat_lit 180 :: nat_lit 181 :: nat_lit 184 :: nat_lit 185 :: nat_lit 186 :: nat_lit 189 :: nat_lit 190 :: nat_lit 191 :: nat_lit 194 :: nat_lit 195 :: nat_lit 196 :: nat_lit 199 :: nat_lit 200 :: nat_lit 201 :: nat_lit 204 :: nat_lit 205 :: nat_lit 206 :: nat_lit 209 :: nat_lit 210 :: nat_lit 211 :: nat_lit 213 :: nat_lit 214 :: nat_lit 216 :: nat_lit 217 :: nat_lit 218 :: nat_lit 221 :: nat_lit 222 :: nat_lit 223 :: nat_lit 226 :: nat_lit 227 :: nat_lit 228 :: nat_lit 231 :: nat_lit 232 :: nat_lit 233 :: nat_lit 235 :: nat_lit 236 :: nat_lit 238 :: nat_lit 239 :: nat_lit 240 :: nat_lit 242 :: nat_lit 243 :: nat_lit 245 :: nat_lit 246 :: nat_lit 247 :: nat_lit 249 :: nat_lit 250 :: nat_lit 252 :: nat_lit 253 :: nat_lit 254 :: nat_lit 256 :: nat_lit 257 :: nat_lit 259 :: nat_lit 260 :: nat_lit 268 :: nat_lit 269 :: nat_lit 270 :: nat_lit 273 :: nat_lit 274 :: nat_lit 275 :: nat_lit 277 :: nat_lit 278 :: nat_lit 280 :: nat_lit 281 :: nat_lit 282 :: nat_lit 284 :: nat_lit 285 :: nat_lit 287 :: nat_lit 288 :: nat_lit 289 :: nat_lit 291 :: nat_lit 292 :: nat_lit 294 :: nat_lit 295 :: nat_lit 296 :: nat_lit 298 :: nat_lit 299 :: nat_lit 301 :: nat_lit 302 :: nat_lit 303 :: nat_lit 305 :: nat_lit 306 :: nat_lit 308 :: nat_lit 309 :: nat_lit 310 :: nat_lit 312 :: nat_lit 313 :: nat_lit 315 :: nat_lit 316 :: nat_lit 317 :: nat_lit 320 :: nat_lit 321 :: nat_lit 322 :: nat_lit 324 :: nat_lit 325 :: nat_lit 327 :: nat_lit 328 :: nat_lit 329 :: nat_lit 331 :: nat_lit 332 :: nat_lit 334 :: nat_lit 335 :: nat_lit 336 :: nat_lit 338 :: nat_lit 339 :: nat_lit 341 :: nat_lit 342 :: nat_lit 343 :: nat_lit 345 :: nat_lit 346 :: nat_lit 348 :: nat_lit 349 :: nat_lit 350 :: nat_lit 352 :: nat_lit 353 :: nat_lit 355 :: nat_lit 356 :: nat_lit 357 :: nat_lit 359 :: nat_lit 360 :: nat_lit 362 :: nat_lit 363 :: nat_lit 364 :: nat_lit 366 :: nat_lit 367 :: nat_lit 369 :: nat_lit 370 :: nat_lit 371 :: nat_lit 373 :: nat_lit 374 :: nat_lit 376 :: nat_lit 377 :: nat_lit 378 :: nat_lit 380 :: nat_lit 381 :: nat_lit 383 :: nat_lit 384 :: nat_lit 385 :: nat_lit 386 :: nat_lit 387 :: nat_lit 388 :: nat_lit 389 :: nat_lit 392 :: nat_lit 394 :: nat_lit 395 :: nat_lit 397 :: nat_lit 398 :: nat_lit 399 :: nat_lit 401 :: nat_lit 402 :: nat_lit 404 :: nat_lit 405 :: nat_lit 406 :: nat_lit 408 :: nat_lit 409 :: nat_lit 411 :: nat_lit 412 :: nat_lit 413 :: nat_lit 415 :: nat_lit 416 :: nat_lit 418 :: nat_lit 419 :: nat_lit 420 :: nat_lit 423 :: nat_lit 424 :: nat_lit 425 :: nat_lit 427 :: nat_lit 428 :: nat_lit 430 :: nat_lit 431 :: nat_lit 432 :: nat_lit 434 :: nat_lit 435 :: nat_lit 437 :: nat_lit 438 :: nat_lit 439 :: nat_lit 441 :: nat_lit 442 :: nat_lit 444 :: nat_lit 445 :: nat_lit 446 :: nat_lit 448 :: nat_lit 449 :: nat_lit 451 :: nat_lit 452 :: nat_lit 453 :: nat_lit 455 :: nat_lit 456 :: nat_lit 458 :: nat_lit 459 :: nat_lit 460 :: nat_lit 462 :: nat_lit 463 :: nat_lit 465 :: nat_lit 466 :: nat_lit 467 :: nat_lit 469 :: nat_lit 470 :: nat_lit 472 :: nat_lit 473 :: nat_lit 474 :: nat_lit 477 :: nat_lit 478 :: nat_lit 479 :: nat_lit 481 :: nat_lit 482 :: nat_lit 484 :: nat_lit 485 :: nat_lit 486 :: nat_lit 489 :: nat_lit 490 :: nat_lit 491 :: nat_lit 493 :: nat_lit 494 :: nat_lit 496 :: nat_lit 497 :: nat_lit 498 :: nat_lit 501 :: nat_lit 502 :: nat_lit 503 :: nat_lit 505 :: nat_lit 506 :: nat_lit 508 :: nat_lit 509 :: nat_lit 510 :: nat_lit 513 :: nat_lit 514 :: []

abbrev qv : Program := view Rw.prog [53, 54, 55]
def names0 : List PySem.Str := [PySem.Str.ofString "_wall", PySem.Str.ofString "__name__", PySem.Str.ofString "BudError", PySem.Str.ofString "BadSum", PySem.Str.ofString "Great", PySem.Str.ofString "NoPart", PySem.Str.ofString "NoPlace", PySem.Str.ofString "Lacking", PySem.Str.ofString "NothingLeft", PySem.Str.ofString "common", PySem.Str.ofString "power_of", PySem.Str.ofString "lowest_terms", PySem.Str.ofString "added_powers", PySem.Str.ofString "lessened_powers", PySem.Str.ofString "gathered"]
def names1 : List PySem.Str := [PySem.Str.ofString "lowest_powers", PySem.Str.ofString "highest_powers", PySem.Str.ofString "multiplied", PySem.Str.ofString "taken_off", PySem.Str.ofString "quotient", PySem.Str.ofString "weighed", PySem.Str.ofString "worth_at", PySem.Str.ofString "CHUNK_FIGURES", PySem.Str.ofString "CHUNK", PySem.Str.ofString "whole_text", PySem.Str.ofString "LETTERS", PySem.Str.ofString "letters_text", PySem.Str.ofString "product_text", PySem.Str.ofString "sum_pieces", PySem.Str.ofString "WIDE"]
def names2 : List PySem.Str := [PySem.Str.ofString "Sum", PySem.Str.ofString "check_width", PySem.Str.ofString "_law_feed", PySem.Str.ofString "_law_draw", PySem.Str.ofString "_law_pick", PySem.Str.ofString "_law_same", PySem.Str.ofString "_law_word", PySem.Str.ofString "_law_gcd", PySem.Str.ofString "_law_low", PySem.Str.ofString "_law_add", PySem.Str.ofString "_law_mul", PySem.Str.ofString "_law_pow", PySem.Str.ofString "_law_great_number", PySem.Str.ofString "_law_powers", PySem.Str.ofString "_law_terms"]
def names3 : List PySem.Str := [PySem.Str.ofString "_law_book", PySem.Str.ofString "_law_worth"]
def names : List PySem.Str := names0 ++ (names1 ++ (names2 ++ (names3)))

theorem as_eq (P : Params) : as = (K P).map (·.1) := rfl
abbrev hk : Hook := kHook K as as_eq
def ob (s : SharedT) : hk.α := as.map (HandSHeadRun.getT s)
theorem ob_eq (s : SharedT) : ob s = hk.obs s.abs := List.map_congr_left fun a _ => HandSHeadRun.getT_eq s a
theorem run (w : World) : HandSHeadRun.RunEq Rw qv hk ob 7000 names w := by
  intro os
  kernel_rfl
end Hd
set_option Elab.async false
set_option linter.all false
set_option maxRecDepth 100000
set_option maxHeartbeats 2000000
namespace Bw
open PySem PySem.Spec PyProof.Rows L2
section
variable {P : Program} {w : World} {K : PySem.W.Frag} {mg : Str → Option Value} {base : Heap}
abbrev s_law_draw : Stmt := topS 39
abbrev n_law_draw : List Str := ["_law_feed_here", "_law_many", "_law_cell", "_law_digit", "_law_mix"]
theorem sc_law_draw : FnScope n_law_draw ["_law_feed_here", "_law_many"] (defScope s_law_draw) := ⟨rfl, rfl, rfl, by decide +kernel, rfl, by decide +kernel, by decide +kernel⟩
def spDraw : Sp := fun vs H Q _ => ∃ (f l : Addr) (n : Int), vs = [.ref f, .int n] ∧ FeedAt H f l ∧ 0 < n ∧ n.natAbs < 2 ^ 200 ∧ ∀ (v : Int) (H' : Hp), 0 ≤ v → v < n → SameBut f H H' → FeedAt H' f l → Q (.int v) H'
theorem ok_draw {f : Addr} {fd : FuncData} {k : Nat} (F : Fun K "_law_draw" "_law_draw" s_law_draw f fd) (T : Tx mg) : FnOk P w K mg base CX0 (k + 1) f fd ["_law_feed_here", "_law_many"] spDraw := by
  refine F.ok sc_law_draw (fun vs H Q E h => ?_) (fun cdv A outer s H vs Q E hr h => ?_)
  · obtain ⟨f, l, n, rfl, _⟩ := h
    rfl
  · obtain ⟨f, l, r, rfl, ⟨ns, i, n, m, c, nlf, hf, hl, hi, hn, hm, hm2⟩, hr0, hr1, q⟩ := h
    refine ⟨_, (C8.pss_cut (ps_if (PW.pt (pw_and (pt_cmpR op_eq (pe_ix ix_list (pv 0) pe_int (fun _ _ => rfl)) pe_int (nomark _)) (pw_and1 (pt_cmpR op_lt (pe_ix ix_list (pv 0) pe_int (fun _ _ => rfl)) (pe_callB call_len_seq (by rfl) T.len PySem.boot_len (pa_cons (pe_ix ix_list (pv 0) pe_int (fun _ _ => rfl)) pa_nil)) (nomark _)))))
    (pss_cons (ps_set (i := 2) sc_law_draw.nd rfl (.inl rfl) (pe_ix ix_list (pe_ix ix_list (pv 0) pe_int (fun _ _ => rfl)) (pe_ix ix_list (pv 0) pe_int (fun _ _ => rfl)) (fun _ _ => rfl)))
    (pss_cons (ps_asg (pe_op op_add (pe_ix ix_list (pv 0) pe_int (fun _ _ => rfl)) pe_int) (pg_sub (pv 0) pe_int set_list))
    (pss_one (ps_if (pt_cmpR op_ge (pv 2) (pe_op op_pow pe_int pe_int) (nomark _))
      (pss_one (ps_asg (pv 2) (pg_sub (pv 0) pe_int set_list)))
      (pss_one (ps_asg (pe_op op_mod (pe_op op_add (pe_op op_add (pe_op op_mul (pe_ix ix_list (pv 0) pe_int (fun _ _ => rfl)) pe_int) (pe_op op_mul (pe_op op_mod (pv 2) pe_int) pe_int)) pe_int) pe_int) (pg_sub (pv 0) pe_int set_list)))))))
    pss_nil)
  (pss_cons (ps_if (pt_cmpR op_gt (pe_ix ix_list (pv 0) pe_int (fun _ _ => rfl)) pe_int (nomark _))
    (pss_cons (ps_set (i := 3) sc_law_draw.nd rfl (.inl rfl) (pe_op op_mod (pe_ix ix_list (pv 0) pe_int (fun _ _ => rfl)) (pv 1)))
    (pss_cons (ps_asg (pe_op op_fdivW (pe_ix ix_list (pv 0) pe_int (fun _ _ => rfl)) (pv 1)) (pg_sub (pv 0) pe_int set_list))
    (pss_one (ps_ret (pv 3)))))
    pss_nil)
  (pss_cons (ps_asg (pe_op op_add (pe_ix ix_list (pv 0) pe_int (fun _ _ => rfl)) pe_int) (pg_sub (pv 0) pe_int set_list))
  (pss_cons (ps_set (i := 4) sc_law_draw.nd rfl (.inl rfl) (pe_ix ix_list (pv 0) pe_int (fun _ _ => rfl)))
  (pss_cons (ps_set (i := 4) sc_law_draw.nd rfl (.inl rfl) (pe_op op_add (pe_op op_add (pe_op op_add (pe_op op_mul (pe_op op_mod (pe_op op_mul (pv 4) (pv 4)) pe_int) pe_int) (pe_op op_mul (pv 4) pe_int)) (pe_op op_mul pe_int (pe_ix ix_list (pv 0) pe_int (fun _ _ => rfl)))) pe_int))
  (pss_cons (ps_asg (pe_op op_mod (pv 4) pe_int) (pg_sub (pv 0) pe_int set_list))
  (pss_one (ps_ret (pe_op op_mod (pe_op op_add (pe_op op_fdiv (pe_ix ix_list (pv 0) pe_int (fun _ _ => rfl)) pe_int) (pe_op op_mul (pe_op op_mod (pe_ix ix_list (pv 0) pe_int (fun _ _ => rfl)) pe_int) pe_int)) (pv 1)))))))))), ?_⟩
    -- between: a feed of the same list
    refine ⟨fun σ H2 => ∃ (y : Option V) (i : Nat) (n m : Int), σ = [some (.ref f), some (.int r), y, none, none] ∧ SameBut f H H2 ∧ H2 f = some (.lst [.ref l, .int i, .int n, .int m, .int c]) ∧ i ≤ ns.length ∧ 0 ≤ n ∧ 0 ≤ m ∧ m < 2147483647, ?_, ?_⟩
    · refine ⟨.ref f, rfl, f, _, 2, .int n, rfl, rfl, SqL.of hf, rfl, rfl, _, rfl, ite2 (fun e => ?_) (fun e => iteF ?_)⟩
      · refine ⟨.ref f, rfl, f, _, 1, .int i, rfl, rfl, SqL.of hf, rfl, .ref f, rfl, f, _, 0, .ref l, rfl, rfl, SqL.of hf, rfl, l, _, rfl, .inl (SqL.of hl), _, _, rfl, rfl, _, rfl, ite2 (fun e => ?_) (fun e => ?_)⟩
        · have hlt : i < ns.length := by
            have := of_decide_eq_true e
            rw [List.length_map] at this
            omega
          have g1 : (ns.map V.int)[i]? = some (.int ns[i]) := by
            rw [List.getElem?_map, List.getElem?_eq_getElem hlt]
            rfl
          generalize ns[i] = u at g1
          -- cell = feed[0][feed[1]]; feed[1] = feed[1] + 1
          refine ⟨.ref f, rfl, f, _, 0, .ref l, rfl, rfl, SqL.of hf, rfl, .ref f, rfl, f, _, 1, .int i, rfl, rfl, SqL.of hf, rfl, l, _, i, .int u, rfl, rfl, SqL.of hl, atI_nat g1, ?_⟩
          refine ⟨.ref f, rfl, f, _, 1, .int i, rfl, rfl, SqL.of hf, rfl, _, _, rfl, rfl, .ref f, rfl, f, _, 1, 1, rfl, rfl, hf, rfl, ?_⟩
          -- if cell >= 10 ** 18
          refine ⟨.int u, rfl, _, _, rfl, rfl, ⟨by decide, by decide, by decide⟩, _, _, rfl, rfl, _, rfl, ite2 (fun e => ?_) (fun e => ?_)⟩
          · have h0 : 0 ≤ u := Int.le_trans (by decide : (0 : Int) ≤ 10 ^ Int.toNat 18) (of_decide_eq_true e)
            refine ⟨.int u, rfl, .ref f, rfl, f, _, 2, 2, rfl, rfl, upd_same, rfl, ?_⟩
            exact ⟨_, i + 1, u, m, rfl, SameBut.upd (SameBut.upd (.refl _ _)), upd_same, hlt, h0, hm, hm2⟩
          · refine ⟨.ref f, rfl, f, _, 3, .int m, rfl, rfl, SqL.of upd_same, rfl, _, _, rfl, rfl, .inl ⟨by omega, by omega⟩, .int u, rfl, _, _, rfl, rfl, (by show (0 : Int) < 1000000007; decide), _, _, rfl, rfl, .inr ⟨by decide, by decide⟩, _, _, rfl, rfl, _, _, rfl, rfl, _, _, rfl, rfl, (by show (0 : Int) < 2147483647; decide), ?_⟩
            refine ⟨.ref f, rfl, f, _, 3, 3, rfl, rfl, upd_same, rfl, ?_⟩
            exact ⟨_, i + 1, n, _, rfl, SameBut.upd (SameBut.upd (.refl _ _)), upd_same, hlt, hn, Int.emod_nonneg _ (by decide), Int.emod_lt_of_pos _ (by decide)⟩
        · exact ⟨none, i, n, m, rfl, .refl _ _, hf, hi, hn, hm, hm2⟩
      · exact ⟨none, i, n, m, rfl, .refl _ _, hf, hi, hn, hm, hm2⟩
    · rintro σ H2 ⟨y, i, n, m, rfl, sb, hf, hi, hn, hm, hm2⟩
      have hl2 : H2 l = some (.lst (ns.map V.int)) := sb _ _ nlf hl
      -- if feed[2] > 0
      refine ⟨.ref f, rfl, f, _, 2, .int n, rfl, rfl, SqL.of hf, rfl, _, _, rfl, rfl, _, rfl, ite2 (fun e => ?_) (fun e => ?_)⟩
      · refine ⟨.ref f, rfl, f, _, 2, .int n, rfl, rfl, SqL.of hf, rfl, .int r, rfl, _, _, rfl, rfl, hr0, ?_⟩
        refine ⟨.ref f, rfl, f, _, 2, .int n, rfl, rfl, SqL.of hf, rfl, .int r, rfl, _, _, rfl, rfl, wide_div hr0 hr1 (by decide) (by decide), .ref f, rfl, f, _, 2, 2, rfl, rfl, hf, rfl, ?_⟩
        refine ⟨_, rfl, q _ _ (Int.emod_nonneg _ (by omega)) (Int.emod_lt_of_pos _ hr0) sb.upd ⟨ns, i, _, m, c, nlf, upd_same, by rw [upd_ne nlf]; exact hl2, hi, Int.ediv_nonneg hn (by omega), hm, hm2⟩⟩
      · -- feed[4] = feed[4] + 1
        refine ⟨.ref f, rfl, f, _, 4, .int c, rfl, rfl, SqL.of hf, rfl, _, _, rfl, rfl, .ref f, rfl, f, _, 4, 4, rfl, rfl, hf, rfl, ?_⟩
        -- mix
        refine ⟨.ref f, rfl, f, _, 3, .int m, rfl, rfl, SqL.of upd_same, rfl, ?_⟩
        refine ⟨.int m, rfl, .int m, rfl, _, _, rfl, rfl, .inl ⟨by omega, by omega⟩, _, _, rfl, rfl, (by show (0 : Int) < 2147483587; decide), _, _, rfl, rfl, .inr ⟨by decide, by decide⟩, .int m, rfl, _, _, rfl, rfl, .inr ⟨by decide, by decide⟩, _, _, rfl, rfl, .ref f, rfl, f, _, 4, _, rfl, rfl, SqL.of upd_same, rfl, _, _, rfl, rfl, .inl ⟨by decide, by decide⟩, _, _, rfl, rfl, _, _, rfl, rfl, ?_⟩
        refine ⟨_, rfl, _, _, rfl, rfl, (by show (0 : Int) < 2147483647; decide), .ref f, rfl, f, _, 3, 3, rfl, rfl, upd_same, rfl, ?_⟩
        have a1 : ∀ z : Int, 0 ≤ z % 2147483647 := fun z => Int.emod_nonneg _ (by decide)
        have a2 : ∀ z : Int, z % 2147483647 < 2147483647 := fun z => Int.emod_lt_of_pos _ (by decide)
        refine ⟨.ref f, rfl, f, _, 3, _, rfl, rfl, SqL.of upd_same, rfl, _, _, rfl, rfl, ⟨by decide, by decide⟩, .ref f, rfl, f, _, 3, _, rfl, rfl, SqL.of upd_same, rfl, _, _, rfl, rfl, (by show (0 : Int) < 4093; decide), _, _, rfl, rfl, .inr ⟨by decide, by decide⟩, _, _, rfl, rfl, .int r, rfl, _, _, rfl, rfl, hr0, ?_⟩
        refine q _ _ (Int.emod_nonneg _ (by omega)) (Int.emod_lt_of_pos _ hr0) (SameBut.upd sb.upd) ⟨ns, i, n, _, _, nlf, upd_same, by rw [upd_ne nlf, upd_ne nlf]; exact hl2, hi, hn, a1 _, a2 _⟩
end
end Bw
set_option Elab.async false
set_option linter.all false
set_option maxRecDepth 100000
set_option maxHeartbeats 2000000
namespace Bw
open PySem PySem.Spec PyProof.Rows L2
section
variable {P : Program} {w : World} {K : PySem.W.Frag} {mg : Str → Option Value} {base : Heap}
/-! ### the feed made -/
abbrev s_law_feed : Stmt := topS 38
abbrev n_law_feed : List Str := ["_law_script"]
theorem sc_law_feed : FnScope n_law_feed ["_law_script"] (defScope s_law_feed) := ⟨rfl, rfl, rfl, by decide +kernel, rfl, by decide +kernel, by decide +kernel⟩
def spFeed (K : PySem.W.Frag) : Sp := fun vs H Q _ => ∃ (a : Addr) (ns : List Int), vs = [.ref a] ∧ SqL K H a (ns.map V.int) ∧ ∀ (f l : Addr) (H' : Hp), Same H H' → H f = none → FeedAt H' f l → Q (.ref f) H'
theorem ok_feed {f : Addr} {fd : FuncData} {k : Nat} (F : Fun K "_law_feed" "_law_feed" s_law_feed f fd) (T : Tx mg) : FnOk P w K mg base CX0 (k + 1) f fd ["_law_script"] (spFeed K) := by
  refine F.ok sc_law_feed (fun vs H Q E h => ?_) (fun cdv A outer s H vs Q E hr h => ?_)
  · obtain ⟨a, ns, rfl, _⟩ := h
    rfl
  · obtain ⟨a, ns, rfl, hS, q⟩ := h
    refine ⟨_, (pss_one (ps_ret (pe_lst (pa_cons (pe_callTy call_list_of (by rfl) T.list (by decide +kernel) (pa_cons (pe_slice sl_list (pv 0) po_none (po_some pe_int)) pa_nil)) (pa_cons pe_int (pa_cons pe_int (pa_cons pe_int (pa_cons pe_int pa_nil)))))))), ?_⟩
    refine ⟨.ref a, rfl, 63, rfl, a, _, rfl, hS, fun c nc => ?_⟩
    refine ⟨c, _, rfl, .inl (SqL.of upd_same), fun l nl => ?_⟩
    refine ⟨by show 5 ≤ sizeLine; decide, fun g ng => ?_⟩
    have s1 : Same H (upd H c (.lst (cutV (ns.map V.int) none (some 63)))) := same_upd nc
    have s2 := s1.trans (same_upd (o := .lst (cutV (ns.map V.int) none (some 63))) nl)
    have s3 := s2.trans (same_upd (o := .lst [.ref l, .int 0, .int 0, .int 9106, .int 0]) ng)
    have nlg : l ≠ g := fun e => by
      rw [← e, upd_same] at ng
      cases ng
    refine q g l _ s3 (s2.free ng) ⟨(ns.drop (HT.sIx (ns.map V.int).length 0 none)).take (HT.sIx (ns.map V.int).length (ns.map V.int).length (some 63) - HT.sIx (ns.map V.int).length 0 none), 0, 0, 9106, 0, nlg, upd_same, ?_, Nat.zero_le _, by decide, by decide, by decide⟩
    rw [upd_ne nlg, upd_same]
    unfold cutV
    rw [List.map_take, List.map_drop]
/-! ### one of a row -/
abbrev s_law_pick : Stmt := topS 40
abbrev n_law_pick : List Str := ["_law_feed_here", "_law_row"]
theorem sc_law_pick : FnScope n_law_pick ["_law_feed_here", "_law_row"] (defScope s_law_pick) := ⟨rfl, rfl, rfl, by decide +kernel, rfl, by decide +kernel, by decide +kernel⟩
def spPick : Sp := fun vs H Q _ => ∃ (f l a : Addr) (xs : List V), vs = [.ref f, .ref a] ∧ FeedAt H f l ∧ H a = some (.lst xs) ∧ a ≠ f ∧ 0 < xs.length ∧ xs.length < 1000 ∧ ∀ (v : V) (H' : Hp), v ∈ xs → SameBut f H H' → FeedAt H' f l → Q v H'
theorem ok_pick {f : Addr} {fd : FuncData} {k j : Nat} (F : Fun K "_law_pick" "_law_pick" s_law_pick f fd) (T : Tx mg) (c_law_draw : Cal P w K mg base CX0 k "_law_draw" ["_law_feed_here", "_law_many"] spDraw) : FnOk P w K mg base CX0 (k + 1) f fd ["_law_feed_here", "_law_row"] spPick := by
  refine F.ok sc_law_pick (fun vs H Q E h => ?_) (fun cdv A outer s H vs Q E hr h => ?_)
  · obtain ⟨f, l, a, xs, rfl, _⟩ := h
    rfl
  · obtain ⟨f, l, a, xs, rfl, hf, ha, naf, h0, h1, q⟩ := h
    refine ⟨_, (pss_one (ps_ret (pe_ix ix_list (pv 1) (pe_cal c_law_draw hr (by rfl) (pa_cons (pv 0) (pa_cons (pe_callB call_len_seq (by rfl) T.len PySem.boot_len (pa_cons (pv 1) pa_nil)) pa_nil))) (fun _ _ => rfl)))), ?_⟩
    refine ⟨.ref a, rfl, .ref f, rfl, .ref a, rfl, a, _, rfl, .inl (SqL.of ha), f, l, _, rfl, hf, by omega, Nat.lt_trans (show ((xs.length : Int)).natAbs < 1000 by omega) (by decide), fun v H' v0 v1 sb hf' => ?_⟩
    obtain ⟨n, rfl⟩ : ∃ n : Nat, v = (n : Int) := ⟨v.toNat, by omega⟩
    have hn : n < xs.length := by omega
    exact ⟨a, xs, _, xs[n], rfl, rfl, SqL.of (sb _ _ naf ha), atI_nat (List.getElem?_eq_getElem hn), q _ _ (List.getElem_mem hn) sb hf'⟩
end
end Bw
set_option Elab.async false
set_option linter.all false
set_option maxRecDepth 100000
set_option maxHeartbeats 4000000
namespace Bw
open PySem PySem.Spec PyProof.Rows L2
/-! ### walks whose turn is any reading -/
theorem it_list {K : PySem.W.Frag} {a : Addr} {xs : List V} {H1 : Hp} {Qd : Hp → Prop} {Body : V → Hp → (Hp → Prop) → Prop} (Pv : Nat → Hp → Prop) (h0 : Pv 0 H1) (hl : ∀ i H, i ≤ xs.length → Pv i H → SqL K H a xs)
    (hs : ∀ i x H, xs[i]? = some x → Pv i H → Body x H (Pv (i + 1))) (hd : ∀ H, Pv xs.length H → Qd H) :
    ∃ W : Nat → Nat → Hp → Prop, (∃ m, W 0 m H1) ∧ ∀ i m H, W i m H → ((Itl K a).stop i H ∧ Qd H) ∨ ((Itl K a).go i H ∧ ∃ Nx : Hp → Prop, (∀ H', Nx H' → ∃ m', m' < m ∧ W (i + 1) m' H') ∧ ∀ x H', (Itl K a).yld i H x H' → Body x H' Nx) := by
  refine ⟨fun i m H => m = xs.length - i ∧ i ≤ xs.length ∧ Pv i H, ⟨xs.length, by simp, Nat.zero_le _, h0⟩, ?_⟩
  rintro i m H ⟨rfl, hi, p⟩
  have q := hl i H hi p
  by_cases hlt : i < xs.length
  · refine .inr ⟨⟨xs, xs[i], q, by simp [hlt]⟩, Pv (i + 1), fun H' p' => ⟨xs.length - (i + 1), by omega, rfl, hlt, p'⟩, fun x H' y => ?_⟩
    obtain ⟨e, y⟩ := y
    subst e
    exact hs i x _ (y _ q) p
  · exact .inl ⟨⟨xs, q, by omega⟩, hd H (by
      have : i = xs.length := by omega
      rw [this] at p
      exact p)⟩
theorem it_range {lo : Int} {n : Nat} {H1 : Hp} {Qd : Hp → Prop} {Body : V → Hp → (Hp → Prop) → Prop} (Pv : Nat → Hp → Prop) (h0 : Pv 0 H1) (hs : ∀ i H, i < n → Pv i H → Body (.int (lo + i)) H (Pv (i + 1))) (hd : ∀ H, Pv n H → Qd H) :
    ∃ W : Nat → Nat → Hp → Prop, (∃ m, W 0 m H1) ∧ ∀ i m H, W i m H → ((Itr lo n).stop i H ∧ Qd H) ∨ ((Itr lo n).go i H ∧ ∃ Nx : Hp → Prop, (∀ H', Nx H' → ∃ m', m' < m ∧ W (i + 1) m' H') ∧ ∀ x H', (Itr lo n).yld i H x H' → Body x H' Nx) := by
  refine ⟨fun i m H => m = n - i ∧ i ≤ n ∧ Pv i H, ⟨n, by simp, Nat.zero_le _, h0⟩, ?_⟩
  rintro i m H ⟨rfl, hi, p⟩
  by_cases hlt : i < n
  · refine .inr ⟨hlt, Pv (i + 1), fun H' p' => ⟨n - (i + 1), by omega, rfl, hlt, p'⟩, fun x H' y => ?_⟩
    obtain ⟨e, y⟩ := y
    subst e y
    exact hs i _ hlt p
  · exact .inl ⟨(by show n ≤ i; omega), hd H (by
      have : i = n := by omega
      rw [this] at p
      exact p)⟩
theorem all_rep (n : Nat) : (List.replicate n true).all id = true := by
  rw [List.all_eq_true]
  intro x hx
  exact List.eq_of_mem_replicate hx
theorem it_zipT {K : PySem.W.Frag} {a b : Addr} {xs ys : List V} {H1 : Hp} {Qd : Hp → Prop} {Body : V → Hp → (Hp → Prop) → Prop} (hl : xs.length = ys.length) (Pv : Nat → Hp → Prop) (h0 : Pv 0 H1) (hq : ∀ i H, Pv i H → SqT K H a xs ∧ SqT K H b ys)
    (hs : ∀ (i : Nat) (x y : V) (T : Addr) (H : Hp), xs[i]? = some x → ys[i]? = some y → Pv i H → H T = none → Body (.ref T) (upd H T (.tup [x, y])) (Pv (i + 1))) (hd : ∀ H, Pv xs.length H → Qd H) :
    ∃ W : Nat → Nat → Hp → Prop, (∃ m, W 0 m H1) ∧ ∀ i m H, W i m H → ((RZ.ItzT K a b).stop i H ∧ Qd H) ∨ ((RZ.ItzT K a b).go i H ∧ ∃ Nx : Hp → Prop, (∀ H', Nx H' → ∃ m', m' < m ∧ W (i + 1) m' H') ∧ ∀ x H', (RZ.ItzT K a b).yld i H x H' → Body x H' Nx) := by
  refine ⟨fun i m H => m = xs.length - i ∧ i ≤ xs.length ∧ Pv i H, ⟨xs.length, rfl, Nat.zero_le _, h0⟩, ?_⟩
  rintro i m H ⟨rfl, hi, p⟩
  obtain ⟨qx, qy⟩ := hq i H p
  by_cases hlt : i < xs.length
  · have hx : xs[i]? = some xs[i] := List.getElem?_eq_getElem hlt
    have hy : ys[i]? = some ys[i] := List.getElem?_eq_getElem (by omega)
    refine .inr ⟨⟨xs, ys, _, _, qx, qy, hx, hy⟩, Pv (i + 1), fun H' p' => ⟨xs.length - (i + 1), by omega, rfl, hlt, p'⟩, fun v H' y => ?_⟩
    obtain ⟨T, x', y', rfl, hT, rfl, f1, f2⟩ := y
    exact hs i x' y' T H (f1 xs qx) (f2 ys qy) p hT
  · have e : i = xs.length := by omega
    subst e
    exact .inl ⟨⟨xs, ys, qx, qy, Or.inl (Nat.le_refl _)⟩, hd H p⟩
theorem it_zipL {K : PySem.W.Frag} {a b : Addr} {xs ys : List V} {H1 : Hp} {Qd : Hp → Prop} {Body : V → Hp → (Hp → Prop) → Prop} (hl : xs.length = ys.length) (Pv : Nat → Hp → Prop) (h0 : Pv 0 H1) (hq : ∀ i H, Pv i H → SqL K H a xs ∧ SqL K H b ys)
    (hs : ∀ (i : Nat) (x y : V) (T : Addr) (H : Hp), xs[i]? = some x → ys[i]? = some y → Pv i H → H T = none → Body (.ref T) (upd H T (.tup [x, y])) (Pv (i + 1))) (hd : ∀ H, Pv xs.length H → Qd H) :
    ∃ W : Nat → Nat → Hp → Prop, (∃ m, W 0 m H1) ∧ ∀ i m H, W i m H → ((Itz K a b).stop i H ∧ Qd H) ∨ ((Itz K a b).go i H ∧ ∃ Nx : Hp → Prop, (∀ H', Nx H' → ∃ m', m' < m ∧ W (i + 1) m' H') ∧ ∀ x H', (Itz K a b).yld i H x H' → Body x H' Nx) := by
  refine ⟨fun i m H => m = xs.length - i ∧ i ≤ xs.length ∧ Pv i H, ⟨xs.length, rfl, Nat.zero_le _, h0⟩, ?_⟩
  rintro i m H ⟨rfl, hi, p⟩
  obtain ⟨qx, qy⟩ := hq i H p
  by_cases hlt : i < xs.length
  · have hx : xs[i]? = some xs[i] := List.getElem?_eq_getElem hlt
    have hy : ys[i]? = some ys[i] := List.getElem?_eq_getElem (by omega)
    refine .inr ⟨⟨xs, ys, _, _, qx, qy, hx, hy⟩, Pv (i + 1), fun H' p' => ⟨xs.length - (i + 1), by omega, rfl, hlt, p'⟩, fun v H' y => ?_⟩
    obtain ⟨T, x', y', rfl, hT, rfl, f1, f2⟩ := y
    exact hs i x' y' T H (f1 xs qx) (f2 ys qy) p hT
  · have e : i = xs.length := by omega
    subst e
    exact .inl ⟨⟨xs, ys, qx, qy, Or.inl (Nat.le_refl _)⟩, hd H p⟩
/-- alike data, at most n deep -/
def Al : Nat → Hp → V → V → Prop
  | 0, _, _, _ => False
  | n + 1, H, x, y => (x = y ∧ ((∃ i, x = .int i) ∨ (∃ z, x = .str z) ∨ (∃ b, x = .bl b) ∨ x = .non)) ∨
    (∃ (a b : Addr) (xs ys : List V), x = .ref a ∧ y = .ref b ∧ H a = some (.tup xs) ∧ H b = some (.tup ys) ∧ xs.length = ys.length ∧ xs.length ≤ 1000 ∧ ∀ (j : Nat) (u v : V), xs[j]? = some u → ys[j]? = some v → Al n H u v) ∨
    (∃ (a b : Addr) (xs ys : List V), x = .ref a ∧ y = .ref b ∧ H a = some (.lst xs) ∧ H b = some (.lst ys) ∧ xs.length = ys.length ∧ xs.length ≤ 1000 ∧ ∀ (j : Nat) (u v : V), xs[j]? = some u → ys[j]? = some v → Al n H u v)
theorem Al.same : ∀ {n : Nat} {H H' : Hp} {x y : V}, Same H H' → Al n H x y → Al n H' x y
  | 0, _, _, _, _, _, h => h
  | n + 1, H, H', x, y, s, h => by
    rcases h with h | ⟨a, b, xs, ys, h1, h2, h3, h4, h5, h6, h7⟩ | ⟨a, b, xs, ys, h1, h2, h3, h4, h5, h6, h7⟩
    · exact .inl h
    · exact .inr (.inl ⟨a, b, xs, ys, h1, h2, s _ _ h3, s _ _ h4, h5, h6, fun j u v e1 e2 => (h7 j u v e1 e2).same s⟩)
    · exact .inr (.inr ⟨a, b, xs, ys, h1, h2, s _ _ h3, s _ _ h4, h5, h6, fun j u v e1 e2 => (h7 j u v e1 e2).same s⟩)
section
variable {P : Program} {w : World} {K : PySem.W.Frag} {mg : Str → Option Value} {base : Heap}
abbrev s_law_same : Stmt := topS 41
abbrev n_law_same : List Str := ["_law_found", "_law_due", "_law_one", "_law_two"]
theorem sc_law_same : FnScope n_law_same ["_law_found", "_law_due"] (defScope s_law_same) := ⟨rfl, rfl, rfl, by decide +kernel, rfl, by decide +kernel, by decide +kernel⟩
def spSame (n : Nat) : Sp := fun vs H Q _ => ∃ x y : V, vs = [x, y] ∧ Al n H x y ∧ ∀ H', Same H H' → Q (.bl true) H'
theorem ok_same {f : Addr} {fd : FuncData} (F : Fun K "_law_same" "_law_same" s_law_same f fd) (T : Tx mg) (gf : mg "_law_same" = some (.ref f)) (bf : Binds K fd ["_law_found", "_law_due"] []) : ∀ n : Nat, FnOk P w K mg base CX0 (n + 1) f fd ["_law_found", "_law_due"] (spSame n)
  | 0 => F.ok sc_law_same (fun vs H Q E h => by
      obtain ⟨_, _, _, h, _⟩ := h
      exact h.elim) (fun cdv A outer s H vs Q E hr h => by
      obtain ⟨_, _, _, h, _⟩ := h
      exact h.elim)
  | n + 1 => by
    have c_law_same : Cal P w K mg base CX0 (n + 1) "_law_same" ["_law_found", "_law_due"] (spSame n) := ⟨f, fd, ok_same F T gf bf n, gf, F.kp, bf⟩
    refine F.ok sc_law_same (fun vs H Q E h => ?_) (fun cdv A outer s H vs Q E hr h => ?_)
    · obtain ⟨x, y, rfl, _⟩ := h
      rfl
    · obtain ⟨x, y, rfl, h, q⟩ := h
      refine ⟨_, (pss_cons (ps_if (pt_val (pe_callB (c_isi (K := K)) (by rfl) T.isinstance (by decide +kernel) (pa_cons (pv 1) (pa_cons (pe_bltn (v := .ty "dict") (by rfl) T.dict (by decide +kernel) rfl) pa_nil))))
    pss_never
    pss_nil)
  (pss_cons (ps_if (pt_cmpR op_ne (pe_callB (c_isi (K := K)) (by rfl) T.isinstance (by decide +kernel) (pa_cons (pv 1) (pa_cons (pe_bltn (v := .ty "tuple") (by rfl) T.tuple (by decide +kernel) rfl) pa_nil))) (pe_callB (c_isi (K := K)) (by rfl) T.isinstance (by decide +kernel) (pa_cons (pv 0) (pa_cons (pe_bltn (v := .ty "tuple") (by rfl) T.tuple (by decide +kernel) rfl) pa_nil))) (nomark _))
    (pss_one (ps_ret pe_bl))
    pss_nil)
  (pss_cons (ps_if (pt_cmpR op_ne (pe_callB (c_isi (K := K)) (by rfl) T.isinstance (by decide +kernel) (pa_cons (pv 1) (pa_cons (pe_bltn (v := .ty "list") (by rfl) T.list (by decide +kernel) rfl) pa_nil))) (pe_callB (c_isi (K := K)) (by rfl) T.isinstance (by decide +kernel) (pa_cons (pv 0) (pa_cons (pe_bltn (v := .ty "list") (by rfl) T.list (by decide +kernel) rfl) pa_nil))) (nomark _))
    (pss_one (ps_ret pe_bl))
    pss_nil)
  (pss_cons (ps_if (pt_val (pe_callB (c_isiT (K := K)) (by rfl) T.isinstance (by decide +kernel) (pa_cons (pv 1) (pa_cons (pe_tup (pa_cons (pe_bltn (v := .ty "list") (by rfl) T.list (by decide +kernel) rfl) (pa_cons (pe_bltn (v := .ty "tuple") (by rfl) T.tuple (by decide +kernel) rfl) pa_nil))) pa_nil))))
    (pss_one (ps_ret (pe_and (pe_cmpR op_eq (pe_callB (c_len (K := K)) (by rfl) T.len PySem.boot_len (pa_cons (pv 0) pa_nil)) (pe_callB (c_len (K := K)) (by rfl) T.len PySem.boot_len (pa_cons (pv 1) pa_nil)) (nomark _)) (pe_one (pe_callB (c_all (K := K) rfl) (by rfl) T.all (by decide +kernel) (pa_cons (pe_lc (own := [("_law_one", 2), ("_law_two", 3)]) (by rfl) sc_law_same.nd (RZ.pi_zipA (by rfl) T.zip (pa_cons (pv 0) (pa_cons (pv 1) pa_nil))) (blkOk_by (own := [("_law_one", 2), ("_law_two", 3)]) (N := n_law_same) (sc := defScope s_law_same) (by decide +kernel)) (fun _ _ _ _ _ => (g_tup (K := K) (n := 2) rfl (pgs_cons (pg_name (i := 2) sc_law_same.nd rfl (.inl rfl)) (pgs_cons (pg_name (i := 3) sc_law_same.nd rfl (.inl rfl)) pgs_nil)))) (fun _ _ _ _ _ => pts_nil) (fun _ _ _ _ _ => (pe_cal c_law_same hr (by rfl) (pa_cons (pv 2) (pa_cons (pv 3) pa_nil))))) pa_nil))))))
    pss_nil)
  (pss_cons (ps_if (pt_cmpR op_ne (pe_callB (c_isi (K := K)) (by rfl) T.isinstance (by decide +kernel) (pa_cons (pv 1) (pa_cons (pe_bltn (v := .ty "bool") (by rfl) T.bool (by decide +kernel) rfl) pa_nil))) (pe_callB (c_isi (K := K)) (by rfl) T.isinstance (by decide +kernel) (pa_cons (pv 0) (pa_cons (pe_bltn (v := .ty "bool") (by rfl) T.bool (by decide +kernel) rfl) pa_nil))) (nomark _))
    (pss_one (ps_ret pe_bl))
    pss_nil)
  (pss_cons (ps_if (pt_cmpR op_ne (pe_callB (c_isi (K := K)) (by rfl) T.isinstance (by decide +kernel) (pa_cons (pv 1) (pa_cons (pe_bltn (v := .ty "str") (by rfl) T.str (by decide +kernel) rfl) pa_nil))) (pe_callB (c_isi (K := K)) (by rfl) T.isinstance (by decide +kernel) (pa_cons (pv 0) (pa_cons (pe_bltn (v := .ty "str") (by rfl) T.str (by decide +kernel) rfl) pa_nil))) (nomark _))
    (pss_one (ps_ret pe_bl))
    pss_nil)
  (pss_one (ps_ret (pe_and (pe_cmpR op_eq (pe_cmpR op_isN (pv 1) pe_non (nomark _)) (pe_cmpR op_isN (pv 0) pe_non (nomark _)) (nomark _)) (pe_one (pe_cmpR op_eq (pv 0) (pv 1) (nomark _)))))))))))), ?_⟩
      rcases h with ⟨rfl, h⟩ | ⟨a, b, xs, ys, rfl, rfl, ha, hb, hl, hz, hi⟩ | ⟨a, b, xs, ys, rfl, rfl, ha, hb, hl, hz, hi⟩
      · -- numbers, texts, truths, None
        obtain ⟨t, b1, b2, ty, k1, k2, k3, k4, k5, hsc⟩ : ∃ (t : String) (b1 b2 : Bool), (∀ H', TyOf K H' x (.type t)) ∧ kitB t "dict" = some false ∧ kitB t "tuple" = some false ∧ kitB t "list" = some false ∧ kitB t "bool" = some b1 ∧ kitB t "str" = some b2 ∧ scal x x = true := by
          rcases h with ⟨i, rfl⟩ | ⟨z, rfl⟩ | ⟨b, rfl⟩ | rfl
          · exact ⟨"int", false, false, fun _ => .int i, by decide +kernel, by decide +kernel, by decide +kernel, by decide +kernel, by decide +kernel, rfl⟩
          · exact ⟨"str", false, true, fun _ => .str z, by decide +kernel, by decide +kernel, by decide +kernel, by decide +kernel, by decide +kernel, rfl⟩
          · exact ⟨"bool", true, false, fun _ => .bl b, by decide +kernel, by decide +kernel, by decide +kernel, by decide +kernel, by decide +kernel, rfl⟩
          · exact ⟨"NoneType", false, false, fun _ => .non, by decide +kernel, by decide +kernel, by decide +kernel, by decide +kernel, by decide +kernel, rfl⟩
        have kA : PySem.W.kitAny K (.type t) [.type "list", .type "tuple"] = some false := kitAny_cons (kit_ty k3) (fun _ => kitAny_cons (kit_ty k2) (fun _ => kitAny_nil) (fun z => by cases z)) (fun z => by cases z)
        refine ⟨x, rfl, _, _, _, _, false, rfl, .ty "dict", .base (ty _), kit_ty k1, false, rfl, iteF ?_⟩
        refine ⟨x, rfl, _, _, _, _, false, rfl, .ty "tuple", .base (ty _), kit_ty k2, x, rfl, _, _, _, _, false, rfl, .ty "tuple", .base (ty _), kit_ty k2, rfl, _, rfl, iteNS rfl ?_⟩
        refine ⟨x, rfl, _, _, _, _, false, rfl, .ty "list", .base (ty _), kit_ty k3, x, rfl, _, _, _, _, false, rfl, .ty "list", .base (ty _), kit_ty k3, rfl, _, rfl, iteNS rfl ?_⟩
        refine ⟨x, rfl, by show 2 ≤ sizeLine; decide, fun tp etp => ⟨x, tp, _, _, [.type "list", .type "tuple"], false, rfl, upd_same, .cons (.ty "list") (.cons (.ty "tuple") .nil), .base (ty _), kA, false, rfl, iteF ?_⟩⟩
        refine ⟨x, rfl, _, _, _, _, b1, rfl, .ty "bool", .base (ty _), kit_ty k4, x, rfl, _, _, _, _, b1, rfl, .ty "bool", .base (ty _), kit_ty k4, rfl, _, rfl, iteNS rfl ?_⟩
        refine ⟨x, rfl, _, _, _, _, b2, rfl, .ty "str", .base (ty _), kit_ty k5, x, rfl, _, _, _, _, b2, rfl, .ty "str", .base (ty _), kit_ty k5, rfl, _, rfl, iteNS rfl ?_⟩
        refine ⟨x, rfl, rfl, x, rfl, rfl, rfl, true, by rw [decide_eq_true rfl], iteT ⟨x, rfl, x, rfl, hsc, ?_⟩⟩
        rw [decide_eq_true rfl]
        exact q _ (same_upd etp)
      · -- two tuples
        have kA : PySem.W.kitAny K (.type "tuple") [.type "list", .type "tuple"] = some true := kitAny_cons (kit_ty (show kitB "tuple" "list" = some false by decide +kernel)) (fun _ => kitAny_cons (kit_ty (show kitB "tuple" "tuple" = some true by decide +kernel)) (fun z => by cases z) (fun _ => rfl)) (fun z => by cases z)
        refine ⟨.ref b, rfl, _, _, _, _, false, rfl, .ty "dict", .base (.tup hb), kit_ty (by decide +kernel), false, rfl, iteF ?_⟩
        refine ⟨.ref b, rfl, _, _, _, _, true, rfl, .ty "tuple", .base (.tup hb), kit_ty (by decide +kernel), .ref a, rfl, _, _, _, _, true, rfl, .ty "tuple", .base (.tup ha), kit_ty (by decide +kernel), rfl, _, rfl, iteNS rfl ?_⟩
        refine ⟨.ref b, rfl, _, _, _, _, false, rfl, .ty "list", .base (.tup hb), kit_ty (by decide +kernel), .ref a, rfl, _, _, _, _, false, rfl, .ty "list", .base (.tup ha), kit_ty (by decide +kernel), rfl, _, rfl, iteNS rfl ?_⟩
        refine ⟨.ref b, rfl, by show 2 ≤ sizeLine; decide, fun tp etp => ?_⟩
        have s1 := same_upd (o := .tup [.ty "list", .ty "tuple"]) etp
        have ha := s1 _ _ ha
        have hb := s1 _ _ hb
        refine ⟨.ref b, tp, _, _, [.type "list", .type "tuple"], true, rfl, upd_same, .cons (.ty "list") (.cons (.ty "tuple") .nil), .base (.tup hb), kA, true, rfl, iteT ?_⟩
        refine ⟨.ref a, rfl, a, _, rfl, .inr (SqT.of ha), .ref b, rfl, b, _, rfl, .inr (SqT.of hb), rfl, true, by rw [hl, decide_eq_true rfl], iteT ?_⟩
        refine ⟨.ref a, rfl, .ref b, rfl, a, b, xs, ys, rfl, .inr ⟨SqT.of ha, SqT.of hb, fun D eD => ?_⟩⟩
        have naD : a ≠ D := ne_of_none ha eD
        have nbD : b ≠ D := ne_of_none hb eD
        refine it_zipT hl (fun j H' => H' D = some (.lst ((List.replicate j true).map V.bl)) ∧ ∀ c o, c ≠ D → (upd H tp (.tup [.ty "list", .ty "tuple"])) c = some o → H' c = some o) ⟨upd_same, fun c o n e => by rw [upd_ne n]; exact e⟩ (fun j H' ⟨_, k⟩ => ⟨SqT.of (k _ _ naD ha), SqT.of (k _ _ nbD hb)⟩) ?_ ?_
        · rintro j u v Tt H1 hu hv ⟨e1, k1⟩ nT
          have hj := (List.getElem?_eq_some_iff.mp hu).1
          have sT := same_upd (o := .tup [u, v]) nT
          have sA : Same H (upd H1 Tt (.tup [u, v])) := fun c o e => sT _ _ (k1 _ _ (ne_of_none (s1 _ _ e) eD) (s1 _ _ e))
          refine ⟨Tt, [u, v], rfl, SqT.of upd_same, rfl, u, [v], rfl, v, [], rfl, rfl, rfl, u, rfl, v, rfl, u, v, rfl, (hi j u v hu hv).same sA, fun H2 s2 => ?_⟩
          refine ⟨_, s2 _ _ (sT _ _ e1), by rw [List.length_map, List.length_replicate]; exact small1000 (by omega), ?_, fun c o n e => ?_⟩
          · rw [upd_same, List.replicate_succ', List.map_append]
            rfl
          · rw [upd_ne n]
            exact s2 _ _ (sT _ _ (k1 _ _ n e))
        · rintro H1 ⟨e1, k1⟩
          refine ⟨D, _, rfl, SqL.of e1, ?_⟩
          rw [all_rep]
          exact q _ fun c o e => k1 _ _ (ne_of_none (s1 _ _ e) eD) (s1 _ _ e)
      · -- two lists
        have kA : PySem.W.kitAny K (.type "list") [.type "list", .type "tuple"] = some true := kitAny_cons (kit_ty (show kitB "list" "list" = some true by decide +kernel)) (fun z => by cases z) (fun _ => rfl)
        refine ⟨.ref b, rfl, _, _, _, _, false, rfl, .ty "dict", .base (.lst hb), kit_ty (by decide +kernel), false, rfl, iteF ?_⟩
        refine ⟨.ref b, rfl, _, _, _, _, false, rfl, .ty "tuple", .base (.lst hb), kit_ty (by decide +kernel), .ref a, rfl, _, _, _, _, false, rfl, .ty "tuple", .base (.lst ha), kit_ty (by decide +kernel), rfl, _, rfl, iteNS rfl ?_⟩
        refine ⟨.ref b, rfl, _, _, _, _, true, rfl, .ty "list", .base (.lst hb), kit_ty (by decide +kernel), .ref a, rfl, _, _, _, _, true, rfl, .ty "list", .base (.lst ha), kit_ty (by decide +kernel), rfl, _, rfl, iteNS rfl ?_⟩
        refine ⟨.ref b, rfl, by show 2 ≤ sizeLine; decide, fun tp etp => ?_⟩
        have s1 := same_upd (o := .tup [.ty "list", .ty "tuple"]) etp
        have ha := s1 _ _ ha
        have hb := s1 _ _ hb
        refine ⟨.ref b, tp, _, _, [.type "list", .type "tuple"], true, rfl, upd_same, .cons (.ty "list") (.cons (.ty "tuple") .nil), .base (.lst hb), kA, true, rfl, iteT ?_⟩
        refine ⟨.ref a, rfl, a, _, rfl, .inl (SqL.of ha), .ref b, rfl, b, _, rfl, .inl (SqL.of hb), rfl, true, by rw [hl, decide_eq_true rfl], iteT ?_⟩
        refine ⟨.ref a, rfl, .ref b, rfl, a, b, xs, ys, rfl, .inl ⟨SqL.of ha, SqL.of hb, fun D eD => ?_⟩⟩
        have naD : a ≠ D := ne_of_none ha eD
        have nbD : b ≠ D := ne_of_none hb eD
        refine it_zipL hl (fun j H' => H' D = some (.lst ((List.replicate j true).map V.bl)) ∧ ∀ c o, c ≠ D → (upd H tp (.tup [.ty "list", .ty "tuple"])) c = some o → H' c = some o) ⟨upd_same, fun c o n e => by rw [upd_ne n]; exact e⟩ (fun j H' ⟨_, k⟩ => ⟨SqL.of (k _ _ naD ha), SqL.of (k _ _ nbD hb)⟩) ?_ ?_
        · rintro j u v Tt H1 hu hv ⟨e1, k1⟩ nT
          have hj := (List.getElem?_eq_some_iff.mp hu).1
          have sT := same_upd (o := .tup [u, v]) nT
          have sA : Same H (upd H1 Tt (.tup [u, v])) := fun c o e => sT _ _ (k1 _ _ (ne_of_none (s1 _ _ e) eD) (s1 _ _ e))
          refine ⟨Tt, [u, v], rfl, SqT.of upd_same, rfl, u, [v], rfl, v, [], rfl, rfl, rfl, u, rfl, v, rfl, u, v, rfl, (hi j u v hu hv).same sA, fun H2 s2 => ?_⟩
          refine ⟨_, s2 _ _ (sT _ _ e1), by rw [List.length_map, List.length_replicate]; exact small1000 (by omega), ?_, fun c o n e => ?_⟩
          · rw [upd_same, List.replicate_succ', List.map_append]
            rfl
          · rw [upd_ne n]
            exact s2 _ _ (sT _ _ (k1 _ _ n e))
        · rintro H1 ⟨e1, k1⟩
          refine ⟨D, _, rfl, SqL.of e1, ?_⟩
          rw [all_rep]
          exact q _ fun c o e => k1 _ _ (ne_of_none (s1 _ _ e) eD) (s1 _ _ e)
end
end Bw
set_option Elab.async false
set_option linter.all false
set_option maxRecDepth 100000
set_option maxHeartbeats 4000000
namespace Bw
open PySem PySem.Spec PyProof.Rows L2
theorem SameBut.none {f l a : Addr} {H H1 : Hp} (s : SameBut f H H1) (h : FeedAt H1 f l) (e : H1 a = none) : H a = none := by
  by_cases z : a = f
  · subst z
    exact absurd rfl (h.ne e)
  · cases y : H a with
    | none => rfl
    | some u =>
      rw [s _ _ z y] at e
      cases e
/-! ### products in the heap -/
def TermAt (H : Hp) (t : Addr) (a : Tm) : Prop := ∃ q, H t = some (.tup [.ref q, .int a.2]) ∧ H q = some (.tup (a.1.map V.int))
def TermsAt (H : Hp) (ts : List Addr) (terms : List Tm) : Prop := ts.length = terms.length ∧ ∀ (i : Nat) (a : Tm), terms[i]? = some a → ∃ t, ts[i]? = some t ∧ TermAt H t a
theorem TermAt.same {H H' : Hp} {t : Addr} {a : Tm} (s : ∀ b xs, H b = some (.tup xs) → H' b = some (.tup xs)) (h : TermAt H t a) : TermAt H' t a := by
  obtain ⟨q, h1, h2⟩ := h
  exact ⟨q, s _ _ h1, s _ _ h2⟩
theorem TermsAt.keep {H H' : Hp} {ts : List Addr} {terms : List Tm} (s : ∀ b xs, H b = some (.tup xs) → H' b = some (.tup xs)) (h : TermsAt H ts terms) : TermsAt H' ts terms := ⟨h.1, fun i a e => by
  obtain ⟨t, e1, e2⟩ := h.2 i a e
  exact ⟨t, e1, e2.same s⟩⟩
theorem TermsAt.same {H H' : Hp} {ts : List Addr} {terms : List Tm} (s : Same H H') (h : TermsAt H ts terms) : TermsAt H' ts terms := h.keep fun b xs e => s _ _ e
theorem TermsAt.but {H H' : Hp} {f l : Addr} {ts : List Addr} {terms : List Tm} (s : SameBut f H H') (hf : FeedAt H f l) (h : TermsAt H ts terms) : TermsAt H' ts terms := h.keep fun b xs e => s _ _ (hf.tup e) e
theorem TermsAt.put {H : Hp} {R : Addr} {xs : List V} {o : HO} {ts : List Addr} {terms : List Tm} (h : TermsAt H ts terms) (hR : H R = some (.lst xs)) : TermsAt (upd H R o) ts terms := h.keep fun b ys e => by
  rw [upd_ne (ne_of e hR (by intro z; cases z))]
  exact e
theorem TermsAt.nil {H : Hp} : TermsAt H [] [] := ⟨rfl, fun i a e => by simp at e⟩
theorem TermsAt.snoc {H : Hp} {ts : List Addr} {terms : List Tm} {t : Addr} {a : Tm} (h : TermsAt H ts terms) (ht : TermAt H t a) : TermsAt H (ts ++ [t]) (terms ++ [a]) := by
  refine ⟨by rw [List.length_append, List.length_append, h.1]; rfl, fun i b e => ?_⟩
  rw [List.getElem?_append] at e
  split at e
  · next hi =>
    obtain ⟨u, e1, e2⟩ := h.2 i b e
    exact ⟨u, by rw [List.getElem?_append, if_pos (by rw [h.1]; exact hi)]; exact e1, e2⟩
  · next hi =>
    have h2 := (List.getElem?_eq_some_iff.mp e).1
    rw [List.length_singleton] at h2
    have z : i - terms.length = 0 := by omega
    rw [z] at e
    have : a = b := Option.some.inj e
    subst this
    refine ⟨t, ?_, ht⟩
    rw [List.getElem?_append, if_neg (by rw [h.1]; exact hi), h.1, z]
    rfl
theorem TermsAt.at {H : Hp} {ts : List Addr} {terms : List Tm} (h : TermsAt H ts terms) {i : Nat} {t : Addr} (e : ts[i]? = some t) : ∃ a, terms[i]? = some a ∧ TermAt H t a := by
  have hi : i < terms.length := by
    have := (List.getElem?_eq_some_iff.mp e).1
    rw [h.1] at this
    exact this
  obtain ⟨u, e1, e2⟩ := h.2 i _ (List.getElem?_eq_getElem hi)
  cases (Option.some.inj (e.symm.trans e1))
  exact ⟨_, List.getElem?_eq_getElem hi, e2⟩
section
variable {P : Program} {w : World} {K : PySem.W.Frag} {mg : Str → Option Value} {base : Heap}
abbrev s_law_great_number : Stmt := topS 48
abbrev n_law_great_number : List Str := ["_law_feed_here", "_law_size"]
theorem sc_law_great_number : FnScope n_law_great_number ["_law_feed_here"] (defScope s_law_great_number) := ⟨rfl, rfl, rfl, by decide +kernel, rfl, by decide +kernel, by decide +kernel⟩
def spGreat : Sp := fun vs H Q _ => ∃ (f l : Addr), vs = [.ref f] ∧ FeedAt H f l ∧ ∀ (v : Int) (H' : Hp), v.natAbs < 2 ^ 100 → SameBut f H H' → FeedAt H' f l → Q (.int v) H'
theorem ok_great {f : Addr} {fd : FuncData} (F : Fun K "_law_great_number" "_law_great_number" s_law_great_number f fd) (T : Tx mg) (c_law_draw : Cal P w K mg base CX0 1 "_law_draw" ["_law_feed_here", "_law_many"] spDraw) (c_law_pick : Cal P w K mg base CX0 2 "_law_pick" ["_law_feed_here", "_law_row"] spPick) : FnOk P w K mg base CX0 3 f fd ["_law_feed_here"] spGreat := by
  refine F.ok sc_law_great_number (fun vs H Q E h => ?_) (fun cdv A outer s H vs Q E hr h => ?_)
  · obtain ⟨f, l, rfl, _⟩ := h
    rfl
  · obtain ⟨f, l, rfl, hf, q⟩ := h
    refine ⟨_, (pss_cons (ps_set (i := 1) sc_law_great_number.nd rfl (.inl rfl) (pe_cal c_law_pick hr (by rfl) (pa_cons (pv 0) (pa_cons (pe_lst (pa_cons pe_int (pa_cons pe_int (pa_cons pe_int (pa_cons (pe_op op_pow pe_int pe_int) (pa_cons (pe_op op_pow pe_int pe_int) pa_nil)))))) pa_nil))))
  (pss_one (ps_ret (pe_op op_sub (pe_cal c_law_draw (hr.mono (by decide)) (by rfl) (pa_cons (pv 0) (pa_cons (pe_op op_add (pe_op op_mul pe_int (pv 1)) pe_int) pa_nil))) (pv 1))))), ?_⟩
    refine ⟨.ref f, rfl, 10, 9, rfl, rfl, ⟨by decide, by decide, by decide⟩, 10, 29, rfl, rfl, ⟨by decide, by decide, by decide⟩, by show 5 ≤ sizeLine; decide, fun o eo => ?_⟩
    have so := same_upd (o := .lst [.int 2, .int 10, .int 1000, .int (10 ^ Int.toNat 9), .int (10 ^ Int.toNat 29)]) eo
    refine ⟨f, l, o, _, rfl, hf.same so, upd_same, hf.ne eo, by show 0 < 5; decide, by show 5 < 1000; decide, fun v H1 hv sb1 hf1 => ?_⟩
    obtain ⟨z, rfl, z0, z1⟩ : ∃ z : Int, v = .int z ∧ 0 ≤ z ∧ z ≤ 100000000000000000000000000000 := by
      have e9 : ((10 : Int) ^ Int.toNat 9) = 1000000000 := by decide
      have e29 : ((10 : Int) ^ Int.toNat 29) = 100000000000000000000000000000 := by decide
      simp only [List.mem_cons, List.not_mem_nil, or_false] at hv
      rcases hv with rfl | rfl | rfl | rfl | rfl
      · exact ⟨2, rfl, by decide, by decide⟩
      · exact ⟨10, rfl, by decide, by decide⟩
      · exact ⟨1000, rfl, by decide, by decide⟩
      · exact ⟨1000000000, by rw [← e9], by decide, by decide⟩
      · exact ⟨100000000000000000000000000000, by rw [← e29], by decide, by decide⟩
    refine ⟨.ref f, rfl, .int z, rfl, _, _, rfl, rfl, .inl ⟨by decide, by decide⟩, _, _, rfl, rfl, f, l, _, rfl, hf1, by omega, ?_, fun u H2 u0 u1 sb2 hf2 => ?_⟩
    · have : (2 * z + 1).natAbs < 1000000000000000000000000000000 := by omega
      exact Nat.lt_trans this (by decide)
    · refine ⟨.int z, rfl, _, _, rfl, rfl, q _ _ ?_ ((so.but.trans sb1).trans sb2) hf2⟩
      have : (u - z).natAbs ≤ 100000000000000000000000000000 := by omega
      exact Nat.lt_of_le_of_lt this (by decide)
abbrev s_law_powers : Stmt := topS 49
abbrev n_law_powers : List Str := ["_law_feed_here", "_law_width", "_law_far", "_law_k"]
theorem sc_law_powers : FnScope n_law_powers ["_law_feed_here", "_law_width"] (defScope s_law_powers) := ⟨rfl, rfl, rfl, by decide +kernel, rfl, by decide +kernel, by decide +kernel⟩
def spPowers : Sp := fun vs H Q _ => ∃ (f l : Addr) (n : Nat), vs = [.ref f, .int n] ∧ FeedAt H f l ∧ n ≤ 8 ∧ ∀ (b : Addr) (p : List Int) (H' : Hp), p.length = n → SameBut f H H' → FeedAt H' f l → H' b = some (.tup (p.map V.int)) → Q (.ref b) H'
theorem ok_powers {f : Addr} {fd : FuncData} (F : Fun K "_law_powers" "_law_powers" s_law_powers f fd) (T : Tx mg) (c_law_draw : Cal P w K mg base CX0 1 "_law_draw" ["_law_feed_here", "_law_many"] spDraw) (c_law_pick : Cal P w K mg base CX0 2 "_law_pick" ["_law_feed_here", "_law_row"] spPick) : FnOk P w K mg base CX0 3 f fd ["_law_feed_here", "_law_width"] spPowers := by
  refine F.ok sc_law_powers (fun vs H Q E h => ?_) (fun cdv A outer s H vs Q E hr h => ?_)
  · obtain ⟨f, l, n, rfl, _⟩ := h
    rfl
  · obtain ⟨f, l, n, rfl, hf, n8, q⟩ := h
    have hr1 := hr.mono (show 1 ≤ 2 by decide)
    refine ⟨_, (pss_cons (ps_set (i := 2) sc_law_powers.nd rfl (.inr rfl) (pe_cal c_law_pick hr (by rfl) (pa_cons (pv 0) (pa_cons (pe_lst (pa_cons pe_int (pa_cons pe_int (pa_cons pe_int (pa_cons pe_int (pa_cons pe_int pa_nil)))))) pa_nil))))
  (pss_one (ps_ret (pe_callTy (c_tup (K := K)) (by rfl) T.tuple (by decide +kernel) (pa_cons (pe_lc (own := [("_law_k", 3)]) (by rfl) sc_law_powers.nd (pi_range1 (by rfl) T.range (pa_cons (pv 1) pa_nil)) (blkOk_by (own := [("_law_k", 3)]) (N := n_law_powers) (sc := defScope s_law_powers) (by decide +kernel)) (fun _ _ _ _ _ => (pg_name (i := 3) sc_law_powers.nd rfl (.inl rfl))) (fun _ _ _ _ _ => pts_nil) (fun _ _ _ _ _ => (pe_ifExp (pt_cmpR op_gt (pe_cal c_law_draw hr1 (by rfl) (pa_cons (pv 0) (pa_cons pe_int pa_nil))) pe_int (nomark _)) (pe_op op_sub (pe_cal c_law_draw hr1 (by rfl) (pa_cons (pv 0) (pa_cons (pe_op op_add (pe_op op_mul pe_int (pv 2)) pe_int) pa_nil))) (pv 2)) pe_int))) pa_nil))))), ?_⟩
    refine ⟨.ref f, rfl, by show 5 ≤ sizeLine; decide, fun o eo => ?_⟩
    have so := same_upd (o := .lst [.int 1, .int 1, .int 2, .int 3, .int 1000]) eo
    refine ⟨f, l, o, _, rfl, hf.same so, upd_same, hf.ne eo, by show 0 < 5; decide, by show 5 < 1000; decide, fun v H1 hv sb1 hf1 => ?_⟩
    obtain ⟨z, rfl, z0, z1⟩ : ∃ z : Int, v = .int z ∧ 0 ≤ z ∧ z ≤ 1000 := by
      simp only [List.mem_cons, List.not_mem_nil, or_false] at hv
      rcases hv with rfl | rfl | rfl | rfl | rfl
      · exact ⟨1, rfl, by decide, by decide⟩
      · exact ⟨1, rfl, by decide, by decide⟩
      · exact ⟨2, rfl, by decide, by decide⟩
      · exact ⟨3, rfl, by decide, by decide⟩
      · exact ⟨1000, rfl, by decide, by decide⟩
    have sb1 : SameBut f H H1 := so.but.trans sb1
    refine ⟨.int n, rfl, n, rfl, by omega, by omega, fun D eD => ?_⟩
    have D0 : H D = none := sb1.none hf1 eD
    have nDf : D ≠ f := hf1.ne eD
    refine lc_range (fun j H' => ∃ x : List Int, x.length = j ∧ H' D = some (.lst (x.map V.int)) ∧ SameBut f H H' ∧ FeedAt H' f l) ⟨[], rfl, upd_same, sb1.updN D0, hf1.put nDf (hf1.ne2 eD)⟩ ?_ ?_
    · rintro j H2 hj ⟨x, lx, eD2, sb2, hf2⟩
      have hj : j < n := hj
      refine ⟨rfl, .ref f, rfl, f, l, 3, rfl, hf2, by decide, by decide, fun u H3 u0 u1 sb3 hf3 => ?_⟩
      have eD3 := sb3 _ _ nDf eD2
      refine ⟨_, _, rfl, rfl, _, rfl, ite2 (fun _ => ?_) (fun _ => ?_)⟩
      · refine ⟨.ref f, rfl, .int z, rfl, _, _, rfl, rfl, .inl ⟨by decide, by decide⟩, _, _, rfl, rfl, f, l, _, rfl, hf3, by omega, Nat.lt_trans (show (2 * z + 1).natAbs < 10000 by omega) (by decide), fun y H4 y0 y1 sb4 hf4 => ?_⟩
        refine ⟨.int z, rfl, _, _, rfl, rfl, x.map V.int, sb4 _ _ nDf eD3, by rw [List.length_map]; exact small1000 (by omega), x ++ [y - z], by rw [List.length_append, lx]; rfl, ?_, ((sb2.trans sb3).trans sb4).updN D0, hf4.put nDf (hf.ne2 D0)⟩
        rw [upd_same, List.map_append]
        rfl
      · refine ⟨x.map V.int, eD3, by rw [List.length_map]; exact small1000 (by omega), x ++ [0], by rw [List.length_append, lx]; rfl, ?_, (sb2.trans sb3).updN D0, hf3.put nDf (hf.ne2 D0)⟩
        rw [upd_same, List.map_append]
        rfl
    · rintro H2 ⟨x, lx, eD2, sb2, hf2⟩
      refine ⟨D, _, rfl, .inl ⟨SqL.of eD2, fun p ep => ?_⟩⟩
      have sp := same_upd (o := .tup (x.map V.int)) ep
      exact q p x _ (by rw [lx]; exact Int.toNat_natCast n) (sb2.trans sp.but) (hf2.same sp) upd_same
abbrev s_law_terms : Stmt := topS 50
abbrev n_law_terms : List Str := ["_law_feed_here", "_law_width", "_law_most", "_law_found", "_law_k", "_law_many"]
theorem sc_law_terms : FnScope n_law_terms ["_law_feed_here", "_law_width", "_law_most"] (defScope s_law_terms) := ⟨rfl, rfl, rfl, by decide +kernel, rfl, by decide +kernel, by decide +kernel⟩
def Small (n : Nat) (a : Tm) : Prop := a.1.length = n ∧ a.2.natAbs < 2 ^ 100
def spTerms : Sp := fun vs H Q _ => ∃ (f l : Addr) (n m : Nat), vs = [.ref f, .int n, .int m] ∧ FeedAt H f l ∧ n ≤ 8 ∧ m ≤ 20 ∧
  ∀ (R : Addr) (ts : List Addr) (terms : List Tm) (H' : Hp), SameBut f H H' → FeedAt H' f l → H R = none → H' R = some (.lst (ts.map V.ref)) → TermsAt H' ts terms → (∀ a ∈ terms, Small n a) → terms.length ≤ 2 * m → Q (.ref R) H'
theorem ok_terms {f : Addr} {fd : FuncData} (F : Fun K "_law_terms" "_law_terms" s_law_terms f fd) (T : Tx mg) (c_law_draw : Cal P w K mg base CX0 1 "_law_draw" ["_law_feed_here", "_law_many"] spDraw) (c_law_pick : Cal P w K mg base CX0 2 "_law_pick" ["_law_feed_here", "_law_row"] spPick)
    (c_law_great_number : Cal P w K mg base CX0 3 "_law_great_number" ["_law_feed_here"] spGreat) (c_law_powers : Cal P w K mg base CX0 3 "_law_powers" ["_law_feed_here", "_law_width"] spPowers) : FnOk P w K mg base CX0 4 f fd ["_law_feed_here", "_law_width", "_law_most"] spTerms := by
  refine F.ok sc_law_terms (fun vs H Q E h => ?_) (fun cdv A outer s H vs Q E hr h => ?_)
  · obtain ⟨f, l, n, m, rfl, _⟩ := h
    rfl
  · obtain ⟨f, l, n, m, rfl, hf, n8, m20, q⟩ := h
    have hr1 := hr.mono (show 1 ≤ 3 by decide)
    have hr2 := hr.mono (show 2 ≤ 3 by decide)
    refine ⟨_, (pss_cons (ps_set (i := 3) sc_law_terms.nd rfl (.inl rfl) (pe_lst pa_nil))
  (pss_cons (ps_for PassesOwn.never rfl (pi_range1 (by rfl) T.range (pa_cons (pe_cal c_law_draw hr1 (by rfl) (pa_cons (pv 0) (pa_cons (pe_op op_add (pv 2) pe_int) pa_nil))) pa_nil)) (pg_name (i := 4) sc_law_terms.nd rfl (.inl rfl))
    (pss_cons (ps_set (i := 5) sc_law_terms.nd rfl (.inl rfl) (pe_cal c_law_pick hr2 (by rfl) (pa_cons (pv 0) (pa_cons (pe_lst (pa_cons pe_int (pa_cons pe_int (pa_cons (pe_un un_neg pe_int) (pa_cons pe_int (pa_cons pe_int (pa_cons pe_int (pa_cons (pe_op op_sub (pe_cal c_law_draw hr1 (by rfl) (pa_cons (pv 0) (pa_cons pe_int pa_nil))) pe_int) (pa_cons (pe_cal c_law_great_number hr (by rfl) (pa_cons (pv 0) pa_nil)) pa_nil))))))))) pa_nil))))
    (pss_cons (ps_expr (pe_bm PySem.F.plainAttrs_list PySem.F.slot_list_append PySem.F.type_list_append mt_append (pv 3) (pa_cons (pe_tup (pa_cons (pe_cal c_law_powers hr (by rfl) (pa_cons (pv 0) (pa_cons (pv 1) pa_nil))) (pa_cons (pv 5) pa_nil))) pa_nil)))
    (pss_one (ps_if (pt_cmpR op_eq (pe_cal c_law_draw hr1 (by rfl) (pa_cons (pv 0) (pa_cons pe_int pa_nil))) pe_int (nomark _))
      (pss_one (ps_expr (pe_bm PySem.F.plainAttrs_list PySem.F.slot_list_append PySem.F.type_list_append mt_append (pv 3) (pa_cons (pe_tup (pa_cons (pe_ix (i_tup (K := K)) (pe_ix (i_list (K := K)) (pv 3) (pe_cal c_law_draw hr1 (by rfl) (pa_cons (pv 0) (pa_cons (pe_callB (c_len (K := K)) (by rfl) T.len PySem.boot_len (pa_cons (pv 3) pa_nil)) pa_nil))) (fun _ _ => rfl)) pe_int (fun _ _ => rfl)) (pa_cons (pe_op op_sub (pe_cal c_law_draw hr1 (by rfl) (pa_cons (pv 0) (pa_cons pe_int pa_nil))) pe_int) pa_nil))) pa_nil))))
      pss_nil)))))
  (pss_one (ps_ret (pv 3))))), ?_⟩
    refine ⟨Nat.zero_le _, fun R eR => ?_⟩
    have sR := same_upd (o := .lst []) eR
    have nRf : R ≠ f := hf.ne eR
    have nRl : R ≠ l := hf.ne2 eR
    refine ⟨.ref f, rfl, .int m, rfl, _, _, rfl, rfl, f, l, _, rfl, hf.same sR, by omega, Nat.lt_trans (show ((m : Int) + 1).natAbs < 1000 by omega) (by decide), fun u H1 u0 u1 sb1 hf1 => ?_⟩
    refine ⟨u, rfl, by omega, by omega, ?_⟩
    refine for_range (fun i σ H' => ∃ (y4 y5 : Option V) (ts : List Addr) (terms : List Tm), σ = [some (.ref f), some (.int n), some (.int m), some (.ref R), y4, y5] ∧ SameBut f H H' ∧ FeedAt H' f l ∧ H' R = some (.lst (ts.map V.ref)) ∧ TermsAt H' ts terms ∧ (∀ a ∈ terms, Small n a) ∧ terms.length ≤ 2 * i)
      ⟨none, none, [], [], rfl, sR.but.trans sb1, hf1, sb1 _ _ nRf upd_same, .nil, by simp, Nat.zero_le _⟩ ?_ ?_
    · rintro i σ H2 hi ⟨y4, y5, ts, terms, rfl, sb2, hf2, eR2, hT2, hsm, hln⟩
      have hi : i < u.toNat := hi
      -- many = pick(feed, [..])
      refine ⟨.ref f, rfl, 1, rfl, .ref f, rfl, f, l, 41, rfl, hf2, by decide, by decide, fun a H3 a0 a1 sb3 hf3 => ?_⟩
      refine ⟨_, _, rfl, rfl, .ref f, rfl, f, l, rfl, hf3, fun g H4 g1 sb4 hf4 => ⟨by show 8 ≤ sizeLine; decide, fun o eo => ?_⟩⟩
      have so := same_upd (o := .lst [.int 1, .int 1, .int (-1), .int 2, .int 3, .int 0, .int (a - 20), .int g]) eo
      refine ⟨f, l, o, _, rfl, hf4.same so, upd_same, hf4.ne eo, by show 0 < 8; decide, by show 8 < 1000; decide, fun v H5 hv sb5 hf5 => ?_⟩
      obtain ⟨c, rfl, hc⟩ : ∃ c : Int, v = .int c ∧ c.natAbs < 2 ^ 100 := by
        have small : ∀ c : Int, c.natAbs ≤ 100 → c.natAbs < 2 ^ 100 := fun c h => Nat.lt_of_le_of_lt h (by decide)
        simp only [List.mem_cons, List.not_mem_nil, or_false] at hv
        rcases hv with rfl | rfl | rfl | rfl | rfl | rfl | rfl | rfl
        · exact ⟨1, rfl, by decide⟩
        · exact ⟨1, rfl, by decide⟩
        · exact ⟨-1, rfl, by decide⟩
        · exact ⟨2, rfl, by decide⟩
        · exact ⟨3, rfl, by decide⟩
        · exact ⟨0, rfl, by decide⟩
        · exact ⟨a - 20, rfl, small _ (by omega)⟩
        · exact ⟨g, rfl, g1⟩
      have sb25 : SameBut f H2 H5 := ((sb3.trans sb4).trans so.but).trans sb5
      have eR5 := sb25 _ _ nRf eR2
      -- found.append((powers(feed, width), many))
      refine ⟨.ref R, rfl, .inl ⟨rfl, _, SqL.of eR5⟩, .ref f, rfl, .int n, rfl, f, l, n, rfl, hf5, n8, fun b p H6 lp sb6 hf6 hb => ?_⟩
      refine ⟨.int c, rfl, by show 2 ≤ sizeLine; decide, fun t et => ?_⟩
      have st := same_upd (o := .tup [.ref b, .int c]) et
      have eR6 := sb6 _ _ nRf eR5
      have hT6 := ((hT2.but sb25 hf2).but sb6 hf5).same st
      refine ⟨R, _, _, rfl, rfl, st _ _ eR6, by rw [List.length_map, hT2.1]; exact small1000 (by omega), ?_⟩
      have hT7 := (hT6.snoc (a := (p, c)) ⟨b, upd_same, st _ _ hb⟩).put (o := .lst (ts.map V.ref ++ [.ref t])) (st _ _ eR6)
      have sb7 : SameBut f H (upd (upd H6 t (.tup [.ref b, .int c])) R (.lst (ts.map V.ref ++ [.ref t]))) := (((sb2.trans sb25).trans sb6).trans st.but).updN eR
      have hf7 := (hf6.same st).put (o := .lst (ts.map V.ref ++ [.ref t])) nRf nRl
      have eR7 : (upd (upd H6 t (.tup [.ref b, .int c])) R (.lst (ts.map V.ref ++ [.ref t]))) R = some (.lst ((ts ++ [t]).map V.ref)) := by
        rw [upd_same, List.map_append]
        rfl
      have hsm7 : ∀ a ∈ terms ++ [(p, c)], Small n a := fun a ha => by
        rcases List.mem_append.mp ha with ha | ha
        · exact hsm a ha
        · rw [List.mem_singleton.mp ha]
          exact ⟨lp, hc⟩
      have hln7 : (terms ++ [(p, c)]).length ≤ 2 * i + 1 := by
        rw [List.length_append]
        show terms.length + 1 ≤ _
        omega
      have lt7 : (ts ++ [t]).length = (terms ++ [(p, c)]).length := hT7.1
      have pos7 : 0 < (terms ++ [(p, c)]).length := by
        rw [List.length_append]
        exact Nat.succ_pos _
      generalize (upd (upd H6 t (.tup [.ref b, .int c])) R (.lst (ts.map V.ref ++ [.ref t]))) = H7 at hT7 sb7 hf7 eR7
      generalize ts ++ [t] = ts7 at hT7 eR7 lt7
      generalize terms ++ [(p, c)] = tm7 at hT7 hsm7 hln7 lt7 pos7
      -- if draw(6) == 0
      refine ⟨.ref f, rfl, f, l, 6, rfl, hf7, by decide, by decide, fun k H8 k0 k1 sb8 hf8 => ?_⟩
      have eR8 := sb8 _ _ nRf eR7
      have hT8 := hT7.but sb8 hf7
      refine ⟨rfl, _, rfl, ite2 (fun _ => ?_) (fun _ => ⟨_, _, ts7, tm7, rfl, sb7.trans sb8, hf8, eR8, hT8, hsm7, by omega⟩)⟩
      refine ⟨.ref R, rfl, .inl ⟨rfl, _, SqL.of eR8⟩, .ref R, rfl, .ref f, rfl, .ref R, rfl, R, _, rfl, .inl (SqL.of eR8), f, l, _, rfl, hf8, ?_, ?_, fun j H9 j0 j1 sb9 hf9 => ?_⟩
      · rw [List.length_map]
        omega
      · rw [List.length_map]
        exact Nat.lt_trans (show ((ts7.length : Int)).natAbs < 1000 by omega) (by decide)
      · rw [List.length_map] at j1
        obtain ⟨J, rfl⟩ : ∃ J : Nat, j = (J : Int) := ⟨j.toNat, by omega⟩
        have hJ : J < ts7.length := by omega
        have eR9 := sb9 _ _ nRf eR8
        have hT9 := hT8.but sb9 hf8
        obtain ⟨a7, ea7, q7, hq1, hq2⟩ := hT9.at (List.getElem?_eq_getElem hJ)
        have gJ : (ts7.map V.ref)[J]? = some (.ref ts7[J]) := by rw [List.getElem?_map, List.getElem?_eq_getElem hJ]; rfl
        refine ⟨R, _, _, _, rfl, rfl, SqL.of eR9, atI_nat gJ, _, _, 0, .ref q7, rfl, rfl, SqT.of hq1, atI_nat (j := 0) rfl, ?_⟩
        refine ⟨.ref f, rfl, f, l, 7, rfl, hf9, by decide, by decide, fun d H10 d0 d1 sb10 hf10 => ⟨_, _, rfl, rfl, by show 2 ≤ sizeLine; decide, fun t2 et2 => ?_⟩⟩
        have st2 := same_upd (o := .tup [.ref q7, .int (d - 3)]) et2
        have eR10 := sb10 _ _ nRf eR9
        have hT10 := (hT9.but sb10 hf9).same st2
        have hq10 := st2 _ _ (sb10 _ _ (hf9.tup hq2) hq2)
        refine ⟨R, _, _, rfl, rfl, st2 _ _ eR10, by rw [List.length_map]; exact small1000 (by omega), ?_⟩
        refine ⟨_, _, ts7 ++ [t2], tm7 ++ [(a7.1, d - 3)], rfl, (((sb7.trans sb8).trans sb9).trans (sb10.trans st2.but)).updN eR, (hf10.same st2).put nRf nRl, ?_, (hT10.snoc (a := (a7.1, d - 3)) ⟨q7, upd_same, hq10⟩).put (st2 _ _ eR10), fun a ha => ?_, ?_⟩
        · rw [upd_same, List.map_append]
          rfl
        · rcases List.mem_append.mp ha with ha | ha
          · exact hsm7 a ha
          · rw [List.mem_singleton.mp ha]
            exact ⟨(hsm7 a7 (List.mem_of_getElem? ea7)).1, Nat.lt_of_le_of_lt (show (d - 3).natAbs ≤ 100 by omega) (by decide)⟩
        · rw [List.length_append]
          show tm7.length + 1 ≤ _
          omega
    · rintro σ H2 ⟨y4, y5, ts, terms, rfl, sb2, hf2, eR2, hT2, hsm, hln⟩
      exact ⟨.ref R, rfl, q R ts terms _ sb2 hf2 eR eR2 hT2 hsm (by omega)⟩
end
end Bw
set_option Elab.async false
set_option linter.all false
set_option maxRecDepth 100000
set_option maxHeartbeats 4000000
namespace Bw
open PySem PySem.Spec PyProof.Rows L2
/-! ### more of books -/
def Sized (n M : Nat) (ts : List Tm) : Prop := ∀ a ∈ ts, a.1.length = n ∧ a.2.natAbs ≤ M
theorem Sized.nil {n M : Nat} : Sized n M [] := fun a h => by cases h
theorem Sized.mono {n M N : Nat} {ts : List Tm} (h : Sized n M ts) (l : M ≤ N) : Sized n N ts := fun a ha => ⟨(h a ha).1, Nat.le_trans (h a ha).2 l⟩
theorem Sized.put {n M : Nat} {bk : List Tm} {p : List Int} {c : Int} (h : Sized n M bk) (hp : p.length = n) (hc : c.natAbs ≤ M) : Sized n M (putB bk p c) := by
  unfold putB
  split
  · intro a ha
    obtain ⟨b, hb, rfl⟩ := List.mem_map.mp ha
    split
    · exact ⟨(h b hb).1, hc⟩
    · exact h b hb
  · intro a ha
    rcases List.mem_append.mp ha with ha | ha
    · exact h a ha
    · rw [List.mem_singleton.mp ha]
      exact ⟨hp, hc⟩
theorem Sized.add {n M m : Nat} {bk : List Tm} {p : List Int} {c : Int} (h : Sized n M bk) (hp : p.length = n) (hc : c.natAbs ≤ m) : Sized n (M + m) (addB bk p c) := by
  refine (h.mono (Nat.le_add_right M m)).put hp ?_
  cases e : getB bk p with
  | none =>
    show (0 + c).natAbs ≤ _
    omega
  | some d =>
    have := (h _ (getB_some e)).2
    show (d + c).natAbs ≤ _
    have z : d.natAbs ≤ M := this
    omega
theorem getB_mem {bk : List Tm} (nd : NdB bk) {p : List Int} {c : Int} (h : (p, c) ∈ bk) : getB bk p = some c := by
  cases e : getB bk p with
  | none =>
    have z := getB_none e
    have : (bk.any fun a => decide (a.1 = p)) = true := List.any_eq_true.mpr ⟨_, h, decide_eq_true rfl⟩
    rw [z] at this
    cases this
  | some d =>
    have m := getB_some e
    have : ∀ {l : List Tm}, (l.map (·.1)).Nodup → (p, c) ∈ l → (p, d) ∈ l → c = d := by
      intro l
      induction l with
      | nil => intro _ h _; cases h
      | cons a l ih =>
        intro nd h1 h2
        have nd' := List.nodup_cons.mp nd
        rcases List.mem_cons.mp h1 with e1 | h1
        · rcases List.mem_cons.mp h2 with e2 | h2
          · exact congrArg Prod.snd (e1.trans e2.symm)
          · exact absurd (List.mem_map.mpr ⟨_, h2, by rw [← e1]⟩) nd'.1
        · rcases List.mem_cons.mp h2 with e2 | h2
          · exact absurd (List.mem_map.mpr ⟨_, h1, by rw [← e2]⟩) nd'.1
          · exact ih nd'.2 h1 h2
    rw [this nd h m]
theorem nd_app {a b : List Tm} (h : NdB (a ++ b)) : NdB a := by
  unfold NdB at *
  rw [List.map_append] at h
  exact (List.nodup_append.mp h).1
theorem putB_new {bk : List Tm} {p : List Int} {c : Int} (h : NdB (bk ++ [(p, c)])) : putB bk p c = bk ++ [(p, c)] := by
  unfold putB
  rw [if_neg]
  intro z
  obtain ⟨a, ha, e⟩ := List.any_eq_true.mp z
  unfold NdB at h
  rw [List.map_append] at h
  exact (List.nodup_append.mp h).2.2 a.1 (List.mem_map_of_mem ha) p (by simp) (of_decide_eq_true e)
theorem merge_nd : ∀ {b a : List Tm}, NdB (a ++ b) → mergeT (a.map enc) (b.map enc) = (a ++ b).map enc
  | [], a, _ => by rw [List.append_nil]; rfl
  | x :: b, a, h => by
    have e : a ++ x :: b = (a ++ [x]) ++ b := by simp
    rw [e] at h ⊢
    show mergeT (putK (a.map enc) (x.1.map Sum.inl) (V.int x.2)) (b.map enc) = _
    rw [enc_put, putB_new (c := x.2) (nd_app h)]
    exact merge_nd h
theorem nd_filter {bk : List Tm} {f : Tm → Bool} (h : NdB bk) : NdB (bk.filter f) := List.Sublist.nodup (List.Sublist.map _ List.filter_sublist) h
theorem kV_ints (p : List Int) : ((p.map Sum.inl : List Key)).map kV = p.map V.int := by
  rw [List.map_map]
  rfl
theorem nd_short {bk : List Tm} {M : Nat} (nd : NdB bk) (s : Sized 0 M bk) : bk.length ≤ 1 := by
  match bk, nd, s with
  | [], _, _ => exact Nat.zero_le _
  | [_], _, _ => exact Nat.le_refl _
  | a :: b :: r, nd, s =>
    have e1 : a.1 = [] := List.eq_nil_of_length_eq_zero (s a (List.mem_cons_self ..)).1
    have e2 : b.1 = [] := List.eq_nil_of_length_eq_zero (s b (List.mem_cons_of_mem _ (List.mem_cons_self ..))).1
    have n := (List.nodup_cons.mp nd).1
    exact absurd (show a.1 ∈ b.1 :: _ by rw [e1, e2]; exact List.mem_cons_self ..) n
theorem nd_keys {bk : List Tm} {n M : Nat} (nd : NdB bk) (s : Sized n M bk) : 2 ≤ (bk.map (·.1)).length → ∀ q ∈ bk.map (·.1), q ≠ [] := by
  intro h q hq e
  subst e
  obtain ⟨a, ha, e⟩ := List.mem_map.mp hq
  have := (s a ha).1
  rw [show a.1 = [] from e] at this
  subst this
  rw [List.length_map] at h
  have := nd_short nd s
  omega
/-! ### heaps -/
theorem Same.updN {H H' : Hp} {D : Addr} {o : HO} (s : Same H H') (h : H D = none) : Same H (upd H' D o) := fun c u e => by
  rw [upd_ne (ne_of_none e h)]
  exact s _ _ e
theorem unlock_same {H H' : Hp} {d : Addr} {od : Obj} {u : HO} (h : Same (upd H d (.frz od u)) H') (hd : H d = some u) : Same H (upd H' d u) := fun c o e => by
  by_cases z : c = d
  · subst z
    rw [upd_same, ← hd, e]
  · rw [upd_ne z]
    exact h _ _ (by rw [upd_ne z]; exact e)
theorem TermsAt.updX {H : Hp} {d : Addr} {o u : HO} {ts : List Addr} {terms : List Tm} (h : TermsAt H ts terms) (hd : H d = some u) (nt : ∀ xs, u ≠ .tup xs) : TermsAt (upd H d o) ts terms := h.keep fun b xs e => by
  rw [upd_ne]
  · exact e
  · intro z
    subst z
    rw [e] at hd
    exact nt xs (Option.some.inj hd).symm
theorem TermsAt.tail {H : Hp} {t : Addr} {ts : List Addr} {a : Tm} {terms : List Tm} (h : TermsAt H (t :: ts) (a :: terms)) : TermAt H t a ∧ TermsAt H ts terms := by
  refine ⟨?_, Nat.succ.inj h.1, fun i b e => ?_⟩
  · obtain ⟨u, e1, e2⟩ := h.2 0 a rfl
    cases (Option.some.inj e1)
    exact e2
  · obtain ⟨u, e1, e2⟩ := h.2 (i + 1) b e
    exact ⟨u, e1, e2⟩
theorem TermsAt.pairs {H : Hp} : ∀ {ts : List Addr} {terms : List Tm}, TermsAt H ts terms → ∃ its : List (List Key × Addr × V), Paired (fun t (x : List Key × Addr × V) => H t = some (.tup [.ref x.2.1, x.2.2]) ∧ H x.2.1 = some (.tup (x.1.map kV))) ts its ∧ its.map (fun x => (x.1, x.2.2)) = terms.map enc
  | [], [], _ => ⟨[], .nil, rfl⟩
  | [], _ :: _, h => absurd h.1 (by simp)
  | _ :: _, [], h => absurd h.1 (by simp)
  | t :: ts, a :: terms, h => by
    obtain ⟨⟨q, h1, h2⟩, ht⟩ := h.tail
    obtain ⟨its, p, e⟩ := ht.pairs
    refine ⟨(a.1.map Sum.inl, q, .int a.2) :: its, .cons ⟨h1, by rw [kV_ints]; exact h2⟩ p, ?_⟩
    rw [List.map_cons, e, List.map_cons]
    rfl
/-- a book at d -/
def BkAt (H : Hp) (d : Addr) (bk : List Tm) : Prop := H d = some (.dT (bk.map enc))
theorem take_filter {bk : List Tm} {i : Nat} {a : Tm} (h : bk[i]? = some a) (f : Tm → Bool) : (bk.take (i + 1)).filter f = (bk.take i).filter f ++ (if f a = true then [a] else []) := by
  rw [List.take_succ, h, List.filter_append]
  congr 1
  show List.filter f [a] = _
  rw [List.filter_cons]
  split <;> simp
abbrev nzB : Tm → Bool := fun a => decide (a.2 ≠ 0)
end Bw
set_option Elab.async false
set_option linter.all false
set_option maxRecDepth 100000
set_option maxHeartbeats 4000000
namespace Bw
open PySem PySem.Spec PyProof.Rows L2
section
variable {P : Program} {w : World} {K : PySem.W.Frag} {mg : Str → Option Value} {base : Heap}
abbrev s_law_book : Stmt := topS 51
abbrev n_law_book : List Str := ["_law_terms_here", "_law_found", "_law_powers_here", "_law_many"]
theorem sc_law_book : FnScope n_law_book ["_law_terms_here"] (defScope s_law_book) := ⟨rfl, rfl, rfl, by decide +kernel, rfl, by decide +kernel, by decide +kernel⟩
/-- what a book of a linear form is -/
structure BookOf (n M : Nat) (ℓ : (List Int → Int) → Int) (bk : List Tm) : Prop where
  nd : NdB bk
  sz : Sized n M bk
  nz : ∀ a ∈ bk, a.2 ≠ 0
  lf : ∀ φ, Lf bk φ = ℓ φ
def spBook : Sp := fun vs H Q _ => ∃ (R : Addr) (ts : List Addr) (terms : List Tm) (n m : Nat), vs = [.ref R] ∧ H R = some (.lst (ts.map V.ref)) ∧ TermsAt H ts terms ∧ terms.length ≤ 1000 ∧ Sized n m terms ∧
  ∀ (d : Addr) (bk : List Tm) (H' : Hp), Same H H' → H d = none → BkAt H' d bk → BookOf n (terms.length * m) (Lf terms) bk → bk.length ≤ terms.length → Q (.ref d) H'
theorem nz_comp {i k : Nat} {σ : L2.St} {H : Hp} {F : Addr} {bk : List Tm} {Q : VK} (h1 : σ[i]? = some (some (.ref F))) (h2 : ∀ v : V, ((wipe σ [k]).set k (some v))[i]? = some (some (.ref F)))
    (h3 : ∀ v : V, ((wipe σ [k]).set k (some v))[k]? = some (some v)) (h4 : ∀ v : V, wipe ((wipe σ [k]).set k (some v)) [k] = wipe σ [k]) (eF : BkAt H F bk) (nd : NdB bk) (hl : bk.length ≤ 1000)
    (q : ∀ (L : Addr) (ts : List Addr) (H' : Hp), Same H H' → H L = none → H' L = some (.lst (ts.map V.ref)) → TermsAt H' ts (bk.filter nzB) → Q (.ref L) H') :
    tLockE (tLc (iKeys (tVar i)) (gName k) (tTest (tOp rNe (tDGet (tVar i) (tVar k)) (tC (V.int 0)))) (tTup (tCons (tVar k) (tCons (tDGet (tVar i) (tVar k)) tNil))) [k]) σ H Q := by
  refine ⟨F, _, eF, trivial, fun od => ?_⟩
  refine ⟨_, h1, F, od, rfl, .inr ⟨_, upd_same, fun L eL => ?_⟩⟩
  have nLF : L ≠ F := Ne.symm (ne_of_none upd_same eL)
  have L0 : H L = none := by
    rw [upd_ne nLF] at eL
    exact eL
  refine lc_it walk_keysT (fun j H' => ∃ ts : List Addr, H' L = some (.lst (ts.map V.ref)) ∧ TermsAt H' ts ((bk.take j).filter nzB) ∧ Same (upd H F (.frz od (.dT (bk.map enc)))) H') ⟨[], upd_same, by rw [List.take_zero]; exact .nil, same_upd eL⟩ (fun j H' _ ⟨_, _, _, s⟩ => s _ _ upd_same) ?_ ?_
  · rintro j x H1 H1' hj ⟨ts, e1, hT1, s1⟩ ⟨rfl, key, v, b, ekv, rfl, eb⟩
    have hj : j < bk.length := by
      rw [List.length_map] at hj
      exact hj
    have ej := List.getElem?_eq_getElem hj
    rw [List.getElem?_map, ej] at ekv
    have ekv := Option.some.inj ekv
    have ek : key = (bk[j]).1.map Sum.inl := (congrArg Prod.fst ekv).symm
    subst ek
    have hm : (bk[j].1, bk[j].2) ∈ bk := List.getElem_mem hj
    have hv : valV (bk.map enc) (bk[j].1.map Sum.inl) = some (V.int bk[j].2) := by
      rw [enc_val, getB_mem nd hm]
      rfl
    have eF1 := s1 _ _ upd_same
    have dg : ∀ H2 : Hp, Same H1' H2 → DGet H2 F (.ref b) (some (V.int bk[j].2)) := fun H2 s2 => .inr ⟨_, _, b, .inr ⟨od, s2 _ _ eF1⟩, rfl, s2 _ _ eb, hv.symm⟩
    refine ⟨h4 _, ?_⟩
    refine ⟨_, h2 _, _, h3 _, F, _, rfl, dg _ (.refl _), rfl, _, rfl, ite2 (fun hz => ?_) (fun hz => ?_)⟩
    rotate_left
    · have tk := take_filter ej nzB
      have hz : bk[j].2 = 0 := Classical.byContradiction fun z => hz (by simp [z])
      refine ⟨ts, e1, ?_, s1⟩
      rw [tk, if_neg (by simp [nzB, hz]), List.append_nil]
      exact hT1
    · have tk := take_filter ej nzB
      have hz : bk[j].2 ≠ 0 := fun z => by simp [z] at hz
      refine ⟨_, h3 _, _, h2 _, _, h3 _, F, _, rfl, dg _ (.refl _), by show 2 ≤ sizeLine; decide, fun t et => ?_⟩
      have st := same_upd (o := .tup [.ref b, .int bk[j].2]) et
      have hln : ts.length ≤ 1000 := by
        have z := hT1.1
        have z2 := List.length_filter_le nzB (bk.take j)
        rw [List.length_take] at z2
        omega
      refine ⟨_, st _ _ e1, by rw [List.length_map]; exact small1000 hln, ts ++ [t], ?_, ?_, ?_⟩
      · rw [upd_same, List.map_append]
        rfl
      · rw [tk, if_pos (by simp [nzB, hz])]
        refine TermsAt.put (TermsAt.snoc (hT1.same st) ⟨b, upd_same, ?_⟩) (st _ _ e1)
        rw [kV_ints] at eb
        exact st _ _ eb
      · exact Same.updN (s1.trans st) eL
  · rintro H1 ⟨ts, e1, hT1, s1⟩
    have eF1 := s1 _ _ upd_same
    rw [List.length_map, List.take_length] at hT1
    refine ⟨eF1, q L ts _ (unlock_same s1 eF) L0 ?_ (hT1.updX eF1 (fun xs z => by cases z))⟩
    rw [upd_ne nLF]
    exact e1
theorem u1 {a c : Nat} (h : a + 64 < c) : a + 1 < c := by omega
theorem ok_book {f : Addr} {fd : FuncData} (F : Fun K "_law_book" "_law_book" s_law_book f fd) (T : Tx mg) : FnOk P w K mg base CX0 1 f fd ["_law_terms_here"] spBook := by
  refine F.ok sc_law_book (fun vs H Q E h => ?_) (fun cdv A outer s H vs Q E hr h => ?_)
  · obtain ⟨R, ts, terms, n, m, rfl, _⟩ := h
    rfl
  · obtain ⟨R, ts, terms, n, m, rfl, hR, hT, hlen, hsz, q⟩ := h
    have hu := hr.units
    refine ⟨_, (pss_cons (ps_set (i := 1) sc_law_book.nd rfl (.inr rfl) pe_dnewT)
  (pss_cons (ps_for PassesOwn.never rfl (p_list (K := K) (pv 0)) (g_tup (K := K) (n := 2) rfl (pgs_cons (pg_name (i := 2) sc_law_book.nd rfl (.inl rfl)) (pgs_cons (pg_name (i := 3) sc_law_book.nd rfl (.inl rfl)) pgs_nil)))
    (pss_one (ps_dput (u1 hu) (pv 1) (pv 2) (pe_op op_add (pe_dget2 (u1 hu) (pv 1) (pv 2) pe_int ⟨rfl, rfl, rfl, rfl⟩) (pv 3)) rfl)))
  (pss_one (ps_ret (pe_callTy (cr_dictPT (K := K) rfl hu) (by rfl) T.dict (by decide +kernel) (pa_cons (pe_lock (pe_lc (own := [("_law_powers_here", 2)]) (by rfl) sc_law_book.nd (pi_keys (pv 1)) (blkOk_by (own := [("_law_powers_here", 2)]) (N := n_law_book) (sc := defScope s_law_book) (by decide +kernel)) (fun _ _ _ _ _ => (pg_name (i := 2) sc_law_book.nd rfl (.inl rfl))) (fun _ _ _ _ _ => pts_one (pt_cmpR op_ne (pe_dget (u1 hu) (pv 1) (pv 2) (fun _ _ => rfl)) pe_int (nomark _))) (fun _ _ _ _ _ => (pe_tup (pa_cons (pv 2) (pa_cons (pe_dget (u1 hu) (pv 1) (pv 2) (fun _ _ => rfl)) pa_nil)))))) pa_nil)))))), ?_⟩
    intro D eD
    have sD := same_upd (o := .dT []) eD
    refine ⟨.ref R, rfl, R, rfl, ⟨_, SqL.of (sD _ _ hR)⟩, ?_⟩
    refine for_list (K := K) (a := R) (xs := ts.map V.ref) (fun i σ H' => ∃ (y2 y3 : Option V) (bk : List Tm), σ = [some (.ref R), some (.ref D), y2, y3] ∧ Same H H' ∧ BkAt H' D bk ∧ NdB bk ∧ Sized n (i * m) bk ∧ (∀ φ, Lf bk φ = Lf (terms.take i) φ) ∧ bk.length ≤ i)
      ⟨none, none, [], rfl, sD, upd_same, List.nodup_nil, .nil, fun φ => rfl, Nat.le_refl _⟩ (fun i σ H' _ ⟨_, _, _, _, s, _⟩ => SqL.of (s _ _ hR)) ?_ ?_
    · rintro i x σ H1 hx ⟨y2, y3, bk, rfl, s1, eB, nd, sz, lf, hl⟩
      obtain ⟨t, et, rfl⟩ : ∃ t, ts[i]? = some t ∧ x = .ref t := by
        rw [List.getElem?_map] at hx
        cases e : ts[i]? with
        | none =>
          rw [e] at hx
          cases hx
        | some t =>
          rw [e] at hx
          exact ⟨t, rfl, (Option.some.inj hx).symm⟩
      obtain ⟨a, ea, b, hb1, hb2⟩ := (hT.same s1).at et
      have hi := (List.getElem?_eq_some_iff.mp ea).1
      have ha := hsz a (List.mem_of_getElem? ea)
      have ek : H1 b = some (.tup ((a.1.map Sum.inl : List Key).map kV)) := by
        rw [kV_ints]
        exact hb2
      have dg : DGet H1 D (.ref b) ((getB bk a.1).map V.int) := by
        rw [← enc_val]
        exact DGet.t eB ek
      refine ⟨t, _, rfl, SqT.of hb1, rfl, _, _, rfl, _, _, rfl, rfl, ?_⟩
      refine ⟨.ref D, rfl, D, rfl, .inr ⟨_, .inl eB⟩, .ref b, rfl, _, dg, .int a.2, rfl, (getB bk a.1).getD 0, a.2, ?_, rfl, .ref D, rfl, .ref b, rfl, D, _, rfl, DPut.t eB ek (by rw [List.length_map]; exact small1000 (by omega)), ?_⟩
      · cases getB bk a.1 <;> rfl
      · refine ⟨_, _, addB bk a.1 a.2, rfl, Same.updN s1 eD, ?_, putB_keys nd, ?_, fun φ => ?_, ?_⟩
        · show upd _ _ _ _ = _
          rw [upd_same, enc_put]
          rfl
        · have z := sz.add ha.1 ha.2
          rw [← Nat.succ_mul] at z
          exact z
        · rw [Lf_addB nd, lf, List.take_succ, ea, Lf_append]
          show _ = _ + Lf [a] φ
          rw [Lf_cons, Lf_nil]
          omega
        · have := putB_len bk a.1 ((getB bk a.1).getD 0 + a.2)
          show (putB _ _ _).length ≤ _
          omega
    · rintro σ H1 ⟨y2, y3, bk, rfl, s1, eB, nd, sz, lf, hl⟩
      rw [List.length_map] at hl sz lf
      rw [hT.1] at hl sz lf
      rw [List.take_length] at lf
      refine nz_comp rfl (fun v => rfl) (fun v => rfl) (fun v => rfl) eB nd (by omega) fun L tl H2 s2 L0 eL hTL => ?_
      obtain ⟨its, pr, ei⟩ := hTL.pairs
      refine ⟨L, tl, its, rfl, SqL.of eL, pr, fun p ep => ?_⟩
      have sp := same_upd (o := .dT (mergeT [] (its.map fun x => (x.1, x.2.2)))) ep
      refine q p (bk.filter nzB) _ ((s1.trans s2).trans sp) ((s1.trans s2).free ep) ?_ ⟨nd_filter nd, fun a ha => sz a ((List.mem_filter.mp ha).1), fun a ha => ?_, fun φ => ?_⟩ ?_
      · show upd _ _ _ _ = _
        rw [upd_same, ei]
        exact congrArg (fun z => some (HO.dT z)) (merge_nd (a := []) (nd_filter nd))
      · exact of_decide_eq_true (List.mem_filter.mp ha).2
      · rw [Lf_filter]
        exact lf φ
      · have := List.length_filter_le nzB bk
        omega
end
end Bw
set_option Elab.async false
set_option linter.all false
set_option maxRecDepth 100000
set_option maxHeartbeats 4000000
namespace Bw
open PySem PySem.Spec PyProof.Rows L2
/-! ### the products of a book, falling -/
def fallB (bk : List Tm) (ks : List (List Int)) : List Tm := ks.map fun p => (p, (getB bk p).getD 0)
theorem fallB_perm {bk : List Tm} {ks : List (List Int)} (nd : NdB bk) (hp : ks.Perm (bk.map (·.1))) : (fallB bk ks).Perm bk := by
  have h : (fallB bk ks).Perm ((bk.map (·.1)).map fun p => (p, (getB bk p).getD 0)) := hp.map _
  rw [List.map_map] at h
  have e : bk.map ((fun p => (p, (getB bk p).getD 0)) ∘ (·.1)) = bk.map id := List.map_congr_left fun a ha => by
    show (a.1, (getB bk a.1).getD 0) = a
    rw [getB_mem nd (c := a.2) ha]
    rfl
  rw [e, List.map_id] at h
  exact h
theorem fallB_falls {bk : List Tm} {ks : List (List Int)} (nd : NdB bk) (hp : ks.Perm (bk.map (·.1))) (hw : ks.Pairwise fun x y => HT.lexLt x y = false) : Falls (fallB bk ks) := by
  have n : ks.Nodup := hp.nodup_iff.mpr nd
  unfold Falls fallB
  rw [List.pairwise_map]
  refine (hw.and n).imp fun {x y} h => ?_
  cases e : HT.lexLt y x with
  | true => rfl
  | false => exact absurd (lex_tot h.1 e) h.2
theorem fallB_cn {n M : Nat} {ℓ : (List Int → Int) → Int} {bk : List Tm} {ks : List (List Int)} (B : BookOf n M ℓ bk) (hp : ks.Perm (bk.map (·.1))) (hw : ks.Pairwise fun x y => HT.lexLt x y = false) : Cn ℓ (fallB bk ks) :=
  ⟨fallB_falls B.nd hp hw, fun a ha => B.nz a ((fallB_perm B.nd hp).mem_iff.mp ha), fun φ => by rw [Lf_perm (fallB_perm B.nd hp), B.lf]⟩
theorem fallB_cnF {n M : Nat} {ℓ : (List Int → Int) → Int} {bk : List Tm} {ks : List (List Int)} (nd : NdB bk) (lf : ∀ φ, Lf bk φ = ℓ φ) (hp : ks.Perm (bk.map (·.1))) (hw : ks.Pairwise fun x y => HT.lexLt x y = false) : Cn ℓ ((fallB bk ks).filter nzB) :=
  ⟨List.Pairwise.filter _ (fallB_falls nd hp hw), fun a ha => of_decide_eq_true (List.mem_filter.mp ha).2, fun φ => by rw [Lf_filter, Lf_perm (fallB_perm nd hp), lf]⟩
theorem fallB_take {bk : List Tm} {ks : List (List Int)} {i : Nat} {p : List Int} (h : ks[i]? = some p) : (fallB bk (ks.take (i + 1))) = fallB bk (ks.take i) ++ [(p, (getB bk p).getD 0)] := by
  unfold fallB
  rw [List.take_succ, h, List.map_append]
  rfl
theorem keys_of {H : Hp} : ∀ {bk : List Tm} {bs : List Addr}, IsKeys H (bk.map enc) bs → (∀ b ∈ bs, ∃ q : List Int, H b = some (.tup (q.map V.int))) ∧ bs.map (keyOf H) = bk.map (·.1)
  | [], _, .nil => ⟨fun b hb => by simp at hb, rfl⟩
  | a :: bk, _, .cons (b := b) h r => by
    obtain ⟨i1, i2⟩ := keys_of r
    have h' : H b = some (.tup (a.1.map V.int)) := by
      rw [← kV_ints]
      exact h
    refine ⟨fun c hc => ?_, ?_⟩
    · rcases List.mem_cons.mp hc with rfl | hc
      · exact ⟨_, h'⟩
      · exact i1 c hc
    · rw [List.map_cons, i2, keyOf_at h']
      rfl
section
variable {P : Program} {w : World} {K : PySem.W.Frag} {mg : Str → Option Value} {base : Heap}
end
end Bw
set_option Elab.async false
set_option linter.all false
set_option maxRecDepth 100000
set_option maxHeartbeats 4000000
namespace Bw
open PySem PySem.Spec PyProof.Rows L2
theorem ref_at {ts : List Addr} {i : Nat} {x : V} (h : (ts.map V.ref)[i]? = some x) : ∃ t, ts[i]? = some t ∧ x = .ref t := by
  rw [List.getElem?_map] at h
  cases e : ts[i]? with
  | none =>
    rw [e] at h
    cases h
  | some t =>
    rw [e] at h
    exact ⟨t, rfl, (Option.some.inj h).symm⟩
theorem SqS.same {K : PySem.W.Frag} {b : Bool} {H H' : Hp} {a : Addr} {xs : List V} (s : Same H H') (h : SqS K b H a xs) : SqS K b H' a xs := by
  cases b
  · rcases h with (h | ⟨o, h⟩) | h
    · exact .inl (.inl (s _ _ h))
    · exact .inl (.inr ⟨o, s _ _ h⟩)
    · exact .inr h
  · exact Same.seq s h
section
variable {P : Program} {w : World} {K : PySem.W.Frag} {mg : Str → Option Value} {base : Heap}
abbrev s_gathered : Stmt := topS 16
abbrev n_gathered : List Str := ["terms", "counts", "powers", "count", "key"]
theorem sc_gathered : FnScope n_gathered ["terms"] (defScope s_gathered) := ⟨rfl, rfl, rfl, by decide +kernel, rfl, by decide +kernel, by decide +kernel⟩
def spGath (K : PySem.W.Frag) : Sp := fun vs H Q _ => ∃ (R : Addr) (ts : List Addr) (terms : List Tm) (n m : Nat) (bb : Bool), vs = [.ref R] ∧ SqS K bb H R (ts.map V.ref) ∧ TermsAt H ts terms ∧ terms.length ≤ 1000 ∧ Sized n m terms ∧
  ∀ (p : Addr) (us : List Addr) (r : List Tm) (H' : Hp), Same H H' → H p = none → H' p = some (.tup (us.map V.ref)) → TermsAt H' us r → Cn (Lf terms) r → Sized n (terms.length * m) r → r.length ≤ terms.length → Q (.ref p) H'
theorem ok_gath {f : Addr} {fd : FuncData} (F : Fun K "gathered" "gathered" s_gathered f fd) (T : Tx mg) : FnOk P w K mg base CX0 1 f fd ["terms"] (spGath K) := by
  refine F.ok sc_gathered (fun vs H Q E h => ?_) (fun cdv A outer s H vs Q E hr h => ?_)
  · obtain ⟨R, ts, terms, n, m, bb, rfl, _⟩ := h
    rfl
  · obtain ⟨R, ts, terms, n, m, bb, rfl, hR, hT, hlen, hsz, q⟩ := h
    have hu := hr.units
    refine ⟨_, (pss_cons (ps_set (i := 1) sc_gathered.nd rfl (.inr rfl) pe_dnewT)
  (pss_cons (ps_for PassesOwn.never rfl (p_seq (K := K) (pv 0)) (g_tup (K := K) (n := 2) rfl (pgs_cons (pg_name (i := 2) sc_gathered.nd rfl (.inl rfl)) (pgs_cons (pg_name (i := 3) sc_gathered.nd rfl (.inl rfl)) pgs_nil)))
    (pss_cons (ps_set (i := 4) sc_gathered.nd rfl (.inl rfl) (pe_callTy (c_tup (K := K)) (by rfl) T.tuple (by decide +kernel) (pa_cons (pv 2) pa_nil)))
    (pss_one (ps_dput (u1 hu) (pv 1) (pv 4) (pe_op op_add (pe_dget2 (u1 hu) (pv 1) (pv 4) pe_int ⟨rfl, rfl, rfl, rfl⟩) (pv 3)) rfl))))
  (pss_one (ps_ret (pe_callTy (c_tup (K := K)) (by rfl) T.tuple (by decide +kernel) (pa_cons (pe_lc (own := [("powers", 2)]) (by rfl) sc_gathered.nd (p_list (K := K) (pe_callBK (cr_sortDT rfl) (by rfl) T.sorted (by decide +kernel) (pa_cons (pv 1) pa_nil) (pk_cons pe_bl pk_nil))) (blkOk_by (own := [("powers", 2)]) (N := n_gathered) (sc := defScope s_gathered) (by decide +kernel)) (fun _ _ _ _ _ => (pg_name (i := 2) sc_gathered.nd rfl (.inl rfl))) (fun _ _ _ _ _ => pts_one (pt_cmpR op_ne (pe_dget (u1 hu) (pv 1) (pv 2) (fun _ _ => rfl)) pe_int (nomark _))) (fun _ _ _ _ _ => (pe_tup (pa_cons (pv 2) (pa_cons (pe_dget (u1 hu) (pv 1) (pv 2) (fun _ _ => rfl)) pa_nil))))) pa_nil)))))), ?_⟩
    intro D eD
    have sD := same_upd (o := .dT []) eD
    refine ⟨.ref R, rfl, R, _, bb, rfl, hR.same sD, ?_⟩
    refine for_it (walk_seq (K := K) (b := bb) (a := R) (xs := ts.map V.ref)) (fun i σ H' => ∃ (y2 y3 y4 : Option V) (bk : List Tm), σ = [some (.ref R), some (.ref D), y2, y3, y4] ∧ Same H H' ∧ BkAt H' D bk ∧ NdB bk ∧ Sized n (i * m) bk ∧ (∀ φ, Lf bk φ = Lf (terms.take i) φ) ∧ bk.length ≤ i)
      ⟨none, none, none, [], rfl, sD, upd_same, List.nodup_nil, .nil, fun φ => rfl, Nat.le_refl _⟩ (fun i σ H' _ ⟨_, _, _, _, _, s, _⟩ => hR.same s) ?_ ?_
    · rintro i x σ H1' H1 _ ⟨y2, y3, y4, bk, rfl, s1, eB, nd, sz, lf, hl⟩ ⟨rfl, hx⟩
      obtain ⟨t, et, rfl⟩ := ref_at hx
      obtain ⟨a, ea, b, hb1, hb2⟩ := (hT.same s1).at et
      have hi := (List.getElem?_eq_some_iff.mp ea).1
      have ha := hsz a (List.mem_of_getElem? ea)
      have ek : H1 b = some (.tup ((a.1.map Sum.inl : List Key).map kV)) := by
        rw [kV_ints]
        exact hb2
      have dg : DGet H1 D (.ref b) ((getB bk a.1).map V.int) := by
        rw [← enc_val]
        exact DGet.t eB ek
      refine ⟨t, _, rfl, SqT.of hb1, rfl, _, _, rfl, _, _, rfl, rfl, ?_⟩
      refine ⟨.ref b, rfl, b, _, rfl, .inr ⟨SqT.of hb2, ?_⟩⟩
      refine ⟨.ref D, rfl, D, rfl, .inr ⟨_, .inl eB⟩, .ref b, rfl, _, dg, .int a.2, rfl, (getB bk a.1).getD 0, a.2, ?_, rfl, .ref D, rfl, .ref b, rfl, D, _, rfl, DPut.t eB ek (by rw [List.length_map]; exact small1000 (by omega)), ?_⟩
      · cases getB bk a.1 <;> rfl
      · refine ⟨_, _, _, addB bk a.1 a.2, rfl, Same.updN s1 eD, ?_, putB_keys nd, ?_, fun φ => ?_, ?_⟩
        · show upd _ _ _ _ = _
          rw [upd_same, enc_put]
          rfl
        · have z := sz.add ha.1 ha.2
          rw [← Nat.succ_mul] at z
          exact z
        · rw [Lf_addB nd, lf, List.take_succ, ea, Lf_append]
          show _ = _ + Lf [a] φ
          rw [Lf_cons, Lf_nil]
          omega
        · have := putB_len bk a.1 ((getB bk a.1).getD 0 + a.2)
          show (putB _ _ _).length ≤ _
          omega
    · rintro σ H1 ⟨y2, y3, y4, bk, rfl, s1, eB, nd, sz, lf, hl⟩
      rw [List.length_map] at hl sz lf
      rw [hT.1] at hl sz lf
      rw [List.take_length] at lf
      refine ⟨.ref D, rfl, D, _, bk.map (·.1), rfl, rfl, .inl eB, enc_keys bk, nd_keys nd sz, fun us p3 kt pm pw ep3 => ?_⟩
      have pw : (us.map (keyOf H1)).Pairwise fun x y => HT.lexLt x y = false := by
        rw [List.pairwise_map]
        exact pw
      have sp := same_upd (o := .lst (us.map V.ref)) ep3
      refine ⟨p3, rfl, ⟨_, SqL.of upd_same⟩, fun L eL => ?_⟩
      have e3 : (upd H1 p3 (.lst (us.map V.ref))) p3 = some (.lst (us.map V.ref)) := upd_same
      have lu : us.length = bk.length := by
        have z := pm.length_eq
        rw [List.length_map, List.length_map] at z
        exact z
      generalize (upd H1 p3 (.lst (us.map V.ref))) = H3 at *
      have sH : Same H H3 := s1.trans sp
      have eB3 := sp _ _ eB
      refine lc_list (K := K) (a := p3) (xs := us.map V.ref) (fun j H' => ∃ ts : List Addr, H' L = some (.lst (ts.map V.ref)) ∧ TermsAt H' ts ((fallB bk ((us.map (keyOf H1)).take j)).filter nzB) ∧ Same H3 H') ⟨[], upd_same, .nil, same_upd eL⟩ (fun j H' _ ⟨_, _, _, s⟩ => SqL.of (s _ _ e3)) ?_ ?_
      · rintro j x H4 hx ⟨ts, e4, hT4, s4⟩
        obtain ⟨b, eb, rfl⟩ := ref_at hx
        obtain ⟨q', hq'⟩ := kt b (List.mem_of_getElem? eb)
        have ek : (us.map (keyOf H1))[j]? = some q' := by
          rw [List.getElem?_map, eb]
          show some (keyOf H1 b) = _
          rw [keyOf_at hq']
        have hq4 := s4 _ _ (sp _ _ hq')
        obtain ⟨a, ha, e1⟩ := List.mem_map.mp (pm.mem_iff.mp (List.mem_of_getElem? ek))
        have gb : getB bk q' = some a.2 := getB_mem nd (by rw [← e1]; exact ha)
        have hv : valV (bk.map enc) (q'.map Sum.inl) = some (V.int a.2) := by
          rw [enc_val, gb]
          rfl
        have dg : DGet H4 D (.ref b) (some (.int a.2)) := .inr ⟨_, q'.map Sum.inl, b, .inl (s4 _ _ eB3), rfl, by rw [kV_ints]; exact hq4, hv.symm⟩
        have tk : (fallB bk ((us.map (keyOf H1)).take (j + 1))).filter nzB = (fallB bk ((us.map (keyOf H1)).take j)).filter nzB ++ (if a.2 ≠ 0 then [(q', a.2)] else []) := by
          rw [fallB_take ek, gb, List.filter_append]
          congr 1
          by_cases z : a.2 = 0 <;> simp [nzB, z]
        refine ⟨rfl, .ref D, rfl, .ref b, rfl, D, .int a.2, rfl, dg, rfl, _, rfl, ite2 (fun hz => ?_) (fun hz => ?_)⟩
        · have hz : a.2 ≠ 0 := fun z => by simp [z] at hz
          rw [tk, if_pos hz]
          refine ⟨.ref b, rfl, .ref D, rfl, .ref b, rfl, D, .int a.2, rfl, dg, by show 2 ≤ sizeLine; decide, fun t et => ?_⟩
          have st := same_upd (o := .tup [.ref b, .int a.2]) et
          have lt : ts.length ≤ 1000 := by
            have z := hT4.1
            have z2 := List.length_filter_le nzB (fallB bk ((us.map (keyOf H1)).take j))
            have z3 : (fallB bk ((us.map (keyOf H1)).take j)).length ≤ bk.length := by
              unfold fallB
              rw [List.length_map, List.length_take, List.length_map]
              omega
            omega
          refine ⟨_, st _ _ e4, by rw [List.length_map]; exact small1000 lt, ts ++ [t], ?_, ?_, Same.updN (s4.trans st) eL⟩
          · rw [upd_same, List.map_append]
            rfl
          · exact TermsAt.put (TermsAt.snoc (hT4.same st) ⟨b, upd_same, st _ _ hq4⟩) (st _ _ e4)
        · have hz : a.2 = 0 := Classical.byContradiction fun z => hz (by simp [z])
          rw [tk, if_neg (fun z => z hz), List.append_nil]
          exact ⟨ts, e4, hT4, s4⟩
      · rintro H4 ⟨ts, e4, hT4, s4⟩
        rw [List.length_map, ← List.length_map (f := keyOf H1), List.take_length] at hT4
        refine ⟨L, _, rfl, .inl ⟨SqL.of e4, fun p ep => ?_⟩⟩
        have st := same_upd (o := .tup (ts.map V.ref)) ep
        have pmB := fallB_perm nd pm
        have hle := List.length_filter_le nzB (fallB bk (us.map (keyOf H1)))
        refine q p ts _ _ ((sH.trans s4).trans st) ((sH.trans s4).free ep) upd_same (hT4.same st) (fallB_cnF (n := n) (M := 0) nd lf pm pw) (fun a ha => sz a (pmB.mem_iff.mp (List.mem_filter.mp ha).1)) ?_
        rw [pmB.length_eq] at hle
        omega
end
end Bw
set_option Elab.async false
set_option linter.all false
set_option maxRecDepth 100000
set_option maxHeartbeats 4000000
namespace Bw
open PySem PySem.Spec PyProof.Rows L2
/-! ### products multiplied -/
def addP (p q : List Int) : List Int := List.zipWith (· + ·) p q
theorem addP_take {p q : List Int} {i : Nat} {x y : Int} (hp : p[i]? = some x) (hq : q[i]? = some y) : addP (p.take (i + 1)) (q.take (i + 1)) = addP (p.take i) (q.take i) ++ [x + y] := by
  unfold addP
  have h1 := (List.getElem?_eq_some_iff.mp hp).1
  have h2 := (List.getElem?_eq_some_iff.mp hq).1
  rw [List.take_succ, List.take_succ, hp, hq, List.zipWith_append (by rw [List.length_take, List.length_take]; omega)]
  rfl
theorem addP_comm (p q : List Int) : addP p q = addP q p := List.zipWith_comm_of_comm (fun x y => Int.add_comm x y)
theorem addP_length {p q : List Int} {n : Nat} (hp : p.length = n) (hq : q.length = n) : (addP p q).length = n := by
  unfold addP
  rw [List.length_zipWith, hp, hq, Nat.min_self]
def mulA (a : Tm) (other : List Tm) : List Tm := other.map fun b => (addP a.1 b.1, a.2 * b.2)
def mulT : List Tm → List Tm → List Tm
  | [], _ => []
  | a :: one, other => mulA a other ++ mulT one other
theorem mulT_append (x y other : List Tm) : mulT (x ++ y) other = mulT x other ++ mulT y other := by
  induction x with
  | nil => rfl
  | cons a x ih =>
    show mulA a other ++ mulT (x ++ y) other = (mulA a other ++ mulT x other) ++ mulT y other
    rw [ih, List.append_assoc]
theorem mulT_len (x other : List Tm) : (mulT x other).length = x.length * other.length := by
  induction x with
  | nil =>
    rw [List.length_nil, Nat.zero_mul]
    rfl
  | cons a x ih =>
    show (mulA a other ++ mulT x other).length = _
    rw [List.length_append, ih, List.length_cons, Nat.succ_mul]
    unfold mulA
    rw [List.length_map]
    omega
theorem Lf_mulA (a : Tm) (other : List Tm) (φ : List Int → Int) : Lf (mulA a other) φ = a.2 * Lf other (fun q => φ (addP a.1 q)) := by
  unfold mulA
  induction other with
  | nil => exact (Int.mul_zero _).symm
  | cons b other ih =>
    rw [List.map_cons, Lf_cons, Lf_cons, ih, Int.mul_add, Int.mul_assoc]
/-- two linear forms multiplied -/
def lmul (ℓ ℓ' : (List Int → Int) → Int) : (List Int → Int) → Int := fun φ => ℓ fun p => ℓ' fun q => φ (addP p q)
theorem Lf_mulT (x other : List Tm) (φ : List Int → Int) : Lf (mulT x other) φ = lmul (Lf x) (Lf other) φ := by
  unfold lmul
  induction x with
  | nil => rfl
  | cons a x ih =>
    show Lf (mulA a other ++ mulT x other) φ = _
    rw [Lf_append, ih, Lf_mulA, Lf_cons]
theorem Lf_congr {r r' : List Tm} (h : ∀ φ, Lf r φ = Lf r' φ) : Lf r = Lf r' := funext h
theorem Lf_add (x : List Tm) (φ ψ : List Int → Int) : Lf x (fun p => φ p + ψ p) = Lf x φ + Lf x ψ := by
  induction x with
  | nil => rfl
  | cons a x ih =>
    rw [Lf_cons, Lf_cons, Lf_cons, ih, Int.mul_add]
    omega
theorem Lf_scale (x : List Tm) (c : Int) (φ : List Int → Int) : Lf x (fun p => c * φ p) = c * Lf x φ := by
  induction x with
  | nil => exact (Int.mul_zero _).symm
  | cons a x ih =>
    rw [Lf_cons, Lf_cons, ih, Int.mul_add]
    have : a.2 * (c * φ a.1) = c * (a.2 * φ a.1) := by rw [Int.mul_left_comm]
    rw [this]
theorem Lf_zero (x : List Tm) : Lf x (fun _ => 0) = 0 := by
  induction x with
  | nil => rfl
  | cons a x ih =>
    rw [Lf_cons, ih, Int.mul_zero]
    rfl
theorem lmul_comm (x y : List Tm) (φ : List Int → Int) : lmul (Lf x) (Lf y) φ = lmul (Lf y) (Lf x) φ := by
  unfold lmul
  induction x with
  | nil => exact (Lf_zero y).symm
  | cons a x ih =>
    rw [Lf_cons, ih]
    have e : (fun p => Lf (a :: x) fun q => φ (addP p q)) = fun p => a.2 * φ (addP a.1 p) + Lf x fun q => φ (addP p q) := by
      funext p
      rw [Lf_cons, addP_comm]
    rw [e, Lf_add, Lf_scale]
theorem Sized.mulA {n m k : Nat} {a : Tm} {other : List Tm} (h1 : a.1.length = n ∧ a.2.natAbs ≤ m) (h2 : Sized n k other) : Sized n (m * k) (mulA a other) := fun c hc => by
  obtain ⟨b, hb, rfl⟩ := List.mem_map.mp hc
  refine ⟨addP_length h1.1 (h2 b hb).1, ?_⟩
  show (a.2 * b.2).natAbs ≤ _
  rw [Int.natAbs_mul]
  exact Nat.mul_le_mul h1.2 (h2 b hb).2
theorem Sized.mulT {n m k : Nat} : ∀ {x : List Tm} {other : List Tm}, Sized n m x → Sized n k other → Sized n (m * k) (mulT x other)
  | [], _, _, _ => Sized.nil
  | a :: x, other, h1, h2 => fun c hc => by
    rcases List.mem_append.mp (show c ∈ Bw.mulA a other ++ Bw.mulT x other from hc) with hc | hc
    · exact Sized.mulA (h1 a (List.mem_cons_self ..)) h2 c hc
    · exact Sized.mulT (fun b hb => h1 b (List.mem_cons_of_mem _ hb)) h2 c hc
theorem mulT_take {x other : List Tm} {i : Nat} {a : Tm} (h : x[i]? = some a) : mulT (x.take (i + 1)) other = mulT (x.take i) other ++ mulA a other := by
  rw [List.take_succ, h, mulT_append]
  show _ ++ (mulA a other ++ []) = _
  rw [List.append_nil]
theorem mulA_take {a b : Tm} {other : List Tm} {j : Nat} (h : other[j]? = some b) : mulA a (other.take (j + 1)) = mulA a (other.take j) ++ [(addP a.1 b.1, a.2 * b.2)] := by
  unfold mulA
  rw [List.take_succ, h, List.map_append]
  rfl
theorem big_mul {i j : Int} {a b B : Nat} (ha : i.natAbs ≤ a) (hb : j.natAbs ≤ b) (h1 : a < 2 ^ 1000) (h2 : b < 2 ^ 1000) : CMulW i j := wide_mul (a := 1000) (b := 1000) (Nat.lt_of_le_of_lt ha h1) (Nat.lt_of_le_of_lt hb h2) (by decide) (by decide) (by decide)
section
variable {P : Program} {w : World} {K : PySem.W.Frag} {mg : Str → Option Value} {base : Heap}
def spAddP : Sp := fun vs H Q _ => ∃ (a b : Addr) (p q : List Int), vs = [.ref a, .ref b] ∧ H a = some (.tup (p.map V.int)) ∧ H b = some (.tup (q.map V.int)) ∧ p.length = q.length ∧ p.length ≤ 8 ∧
  ∀ (c : Addr) (H' : Hp), Same H H' → H c = none → H' c = some (.tup ((addP p q).map V.int)) → Q (.ref c) H'
abbrev s_added_powers : Stmt := topS 14
abbrev n_added_powers : List Str := ["one", "other", "a", "b"]
theorem sc_added_powers : FnScope n_added_powers ["one", "other"] (defScope s_added_powers) := ⟨rfl, rfl, rfl, by decide +kernel, rfl, by decide +kernel, by decide +kernel⟩
theorem ok_added_powers {f : Addr} {fd : FuncData} (F : Fun K "added_powers" "added_powers" s_added_powers f fd) (T : Tx mg) : FnOk P w K mg base CX0 1 f fd ["one", "other"] spAddP := by
  refine F.ok sc_added_powers (fun vs H Q E h => ?_) (fun cdv A outer s H vs Q E hr h => ?_)
  · obtain ⟨a, b, p, q, rfl, _⟩ := h
    rfl
  · obtain ⟨a, b, xp, xq, rfl, ha, hb, hl, h8, q⟩ := h
    refine ⟨_, (pss_one (ps_ret (pe_callTy (c_tup (K := K)) (by rfl) T.tuple (by decide +kernel) (pa_cons (pe_lc (own := [("a", 2), ("b", 3)]) (by rfl) sc_added_powers.nd (RZ.pi_zipA (by rfl) T.zip (pa_cons (pv 0) (pa_cons (pv 1) pa_nil))) (blkOk_by (own := [("a", 2), ("b", 3)]) (N := n_added_powers) (sc := defScope s_added_powers) (by decide +kernel)) (fun _ _ _ _ _ => (g_tup (K := K) (n := 2) rfl (pgs_cons (pg_name (i := 2) sc_added_powers.nd rfl (.inl rfl)) (pgs_cons (pg_name (i := 3) sc_added_powers.nd rfl (.inl rfl)) pgs_nil)))) (fun _ _ _ _ _ => pts_nil) (fun _ _ _ _ _ => (pe_op op_add (pv 2) (pv 3)))) pa_nil)))), ?_⟩
    refine ⟨.ref a, rfl, .ref b, rfl, a, b, _, _, rfl, .inr ⟨SqT.of ha, SqT.of hb, fun D eD => ?_⟩⟩
    refine it_zipT (by rw [List.length_map, List.length_map, hl]) (fun j H' => H' D = some (.lst ((addP (xp.take j) (xq.take j)).map V.int)) ∧ Same H H') ⟨upd_same, same_upd eD⟩ (fun j H' ⟨_, k⟩ => ⟨SqT.of (k _ _ ha), SqT.of (k _ _ hb)⟩) ?_ ?_
    · rintro j u v Tt H1 hu hv ⟨e1, k1⟩ nT
      obtain ⟨x, ex, rfl⟩ := int_at hu
      obtain ⟨y, ey, rfl⟩ := int_at hv
      have sT := same_upd (o := .tup [.int x, .int y]) nT
      refine ⟨Tt, _, rfl, SqT.of upd_same, rfl, _, _, rfl, _, _, rfl, rfl, rfl, .int x, rfl, .int y, rfl, x, y, rfl, rfl, ?_⟩
      refine ⟨_, sT _ _ e1, ?_, ?_, Same.updN (k1.trans sT) eD⟩
      · rw [List.length_map]
        unfold addP
        rw [List.length_zipWith, List.length_take, List.length_take]
        exact small1000 (by omega)
      · rw [upd_same, addP_take ex ey, List.map_append]
        rfl
    · rintro H1 ⟨e1, k1⟩
      rw [List.length_map, List.take_length, hl, List.take_length] at e1
      refine ⟨D, _, rfl, .inl ⟨SqL.of e1, fun c ec => ?_⟩⟩
      have sc := same_upd (o := .tup ((addP xp xq).map V.int)) ec
      exact q c _ (k1.trans sc) (k1.free ec) upd_same
abbrev s_multiplied : Stmt := topS 19
abbrev n_multiplied : List Str := ["one", "other", "powers", "count", "more", "many"]
theorem sc_multiplied : FnScope n_multiplied ["one", "other"] (defScope s_multiplied) := ⟨rfl, rfl, rfl, by decide +kernel, rfl, by decide +kernel, by decide +kernel⟩
def spMul : Sp := fun vs H Q _ => ∃ (a b : Addr) (ts us : List Addr) (x y : List Tm) (n m k : Nat), vs = [.ref a, .ref b] ∧ H a = some (.tup (ts.map V.ref)) ∧ TermsAt H ts x ∧ H b = some (.tup (us.map V.ref)) ∧ TermsAt H us y ∧ n ≤ 8 ∧ Sized n m x ∧ Sized n k y ∧ m < 2 ^ 1000 ∧ k < 2 ^ 1000 ∧ x.length * y.length ≤ 1000 ∧
  ∀ (L : Addr) (ls : List Addr) (H' : Hp), Same H H' → H L = none → H' L = some (.lst (ls.map V.ref)) → TermsAt H' ls (mulT x y) → Q (.ref L) H'
theorem ok_mul {f : Addr} {fd : FuncData} (F : Fun K "multiplied" "multiplied" s_multiplied f fd) (T : Tx mg) (c_added_powers : Cal P w K mg base CX0 1 "added_powers" ["one", "other"] spAddP) : FnOk P w K mg base CX0 2 f fd ["one", "other"] spMul := by
  refine F.ok sc_multiplied (fun vs H Q E h => ?_) (fun cdv A outer s H vs Q E hr h => ?_)
  · obtain ⟨a, b, ts, us, x, y, n, m, k, rfl, _⟩ := h
    rfl
  · obtain ⟨a, b, ts, us, x, y, n, m, k, rfl, ha, hx, hb, hy, n8, zx, zy, hm, hk, hxy, q⟩ := h
    refine ⟨_, (pss_one (ps_ret (pe_lc2 (own := [("powers", 2), ("count", 3), ("more", 4), ("many", 5)]) (vs1 := [4, 5]) (by rfl) sc_multiplied.nd (p_tup (K := K) (pv 0)) (blkOk_by (own := [("powers", 2), ("count", 3), ("more", 4), ("many", 5)]) (N := n_multiplied) (sc := defScope s_multiplied) (by decide +kernel)) (by decide)
      (fun _ _ _ _ _ => (g_tup (K := K) (n := 2) rfl (pgs_cons (pg_name (i := 2) sc_multiplied.nd rfl (.inl rfl)) (pgs_cons (pg_name (i := 3) sc_multiplied.nd rfl (.inl rfl)) pgs_nil)))) (fun _ _ _ _ _ => pts_nil)
      (fun _ _ _ _ _ => p_tup (K := K) (pv 1)) (fun _ _ _ _ _ => (g_tup (K := K) (n := 2) rfl (pgs_cons (pg_name (i := 4) sc_multiplied.nd rfl (.inl rfl)) (pgs_cons (pg_name (i := 5) sc_multiplied.nd rfl (.inl rfl)) pgs_nil)))) (fun _ _ _ _ _ => pts_nil)
      (fun _ _ _ _ _ => (pe_tup (pa_cons (pe_cal c_added_powers hr (by rfl) (pa_cons (pv 2) (pa_cons (pv 4) pa_nil))) (pa_cons (pe_op op_mulW (pv 3) (pv 5)) pa_nil))))))), ?_⟩
    refine ⟨.ref a, rfl, a, rfl, ⟨_, SqT.of ha⟩, fun L eL => ?_⟩
    refine it_walk (walk_tup (K := K) (a := a) (xs := ts.map V.ref)) (fun i H' => ∃ ls : List Addr, H' L = some (.lst (ls.map V.ref)) ∧ TermsAt H' ls (mulT (x.take i) y) ∧ Same H H') ⟨[], upd_same, .nil, same_upd eL⟩ (fun i H' _ ⟨_, _, _, s⟩ => SqT.of (s _ _ ha)) ?_ ?_
    · rintro i v H1 H1' hi ⟨ls, e1, hT1, s1⟩ ⟨rfl, ev⟩
      obtain ⟨t, et, rfl⟩ := ref_at ev
      obtain ⟨c, ec, p, hp1, hp2⟩ := hx.at et
      have hix := (List.getElem?_eq_some_iff.mp ec).1
      have zc := zx c (List.mem_of_getElem? ec)
      refine ⟨t, _, rfl, SqT.of (s1 _ _ hp1), rfl, _, _, rfl, _, _, rfl, rfl, rfl, ?_⟩
      refine ⟨.ref b, rfl, b, rfl, ⟨_, SqT.of (s1 _ _ hb)⟩, ?_⟩
      rw [mulT_take ec]
      refine it_walk (walk_tup (K := K) (a := b) (xs := us.map V.ref)) (fun j H' => ∃ ls : List Addr, H' L = some (.lst (ls.map V.ref)) ∧ TermsAt H' ls (mulT (x.take i) y ++ mulA c (y.take j)) ∧ Same H H') ⟨ls, e1, by show TermsAt _ _ (_ ++ []); rw [List.append_nil]; exact hT1, s1⟩ (fun j H' _ ⟨_, _, _, s⟩ => SqT.of (s _ _ hb)) ?_ ?_
      · rintro j v2 H2 H2' hj ⟨l2, e2, hT2, s2⟩ ⟨rfl, ev2⟩
        obtain ⟨t2, et2, rfl⟩ := ref_at ev2
        obtain ⟨d, ed, p2, hd1, hd2⟩ := (hy.same s2).at et2
        have hjy := (List.getElem?_eq_some_iff.mp ed).1
        have zd := zy d (List.mem_of_getElem? ed)
        refine ⟨t2, _, rfl, SqT.of hd1, rfl, _, _, rfl, _, _, rfl, rfl, rfl, ?_⟩
        refine ⟨.ref p, rfl, .ref p2, rfl, p, p2, c.1, d.1, rfl, s2 _ _ hp2, hd2, by rw [zc.1, zd.1], by rw [zc.1]; exact n8, fun r H3 s3 _ er => ?_⟩
        refine ⟨.int c.2, rfl, .int d.2, rfl, c.2, d.2, rfl, rfl, big_mul (B := 0) zc.2 zd.2 hm hk, by show 2 ≤ sizeLine; decide, fun t3 et3 => ?_⟩
        have st := same_upd (o := .tup [.ref r, .int (c.2 * d.2)]) et3
        refine ⟨_, st _ _ (s3 _ _ e2), ?_, l2 ++ [t3], ?_, ?_, Same.updN ((s2.trans s3).trans st) eL⟩
        · rw [List.length_map, hT2.1, List.length_append, mulT_len, List.length_take]
          unfold mulA
          rw [List.length_map, List.length_take]
          have z1 : min i x.length = i := by omega
          have z2 : min j y.length = j := by omega
          rw [z1, z2]
          refine small1000 ?_
          have z3 : (i + 1) * y.length ≤ x.length * y.length := Nat.mul_le_mul_right _ hix
          rw [Nat.succ_mul] at z3
          omega
        · rw [upd_same, List.map_append]
          rfl
        · rw [mulA_take ed, ← List.append_assoc]
          exact TermsAt.put (TermsAt.snoc ((hT2.same s3).same st) ⟨r, upd_same, st _ _ er⟩) (st _ _ (s3 _ _ e2))
      · rintro H2 ⟨l2, e2, hT2, s2⟩
        rw [List.length_map, hy.1, List.take_length] at hT2
        exact ⟨l2, e2, hT2, s2⟩
    · rintro H1 ⟨ls, e1, hT1, s1⟩
      rw [List.length_map, hx.1, List.take_length] at hT1
      exact q L ls _ s1 eL e1 hT1
end
end Bw
set_option Elab.async false
set_option linter.all false
set_option maxRecDepth 100000
set_option maxHeartbeats 4000000
namespace Bw
open PySem PySem.Spec PyProof.Rows L2
/-! ### sums divided: the order of powers -/
theorem lex_trans : ∀ {p q r : List Int}, HT.lexLt p q = true → HT.lexLt q r = true → HT.lexLt p r = true
  | [], [], _, h, _ => by cases h
  | [], _ :: _, [], _, h => by cases h
  | [], _ :: _, _ :: _, _, _ => rfl
  | _ :: _, [], _, h, _ => by cases h
  | _ :: _, _ :: _, [], _, h => by cases h
  | x :: p, y :: q, z :: r, h1, h2 => by
    rw [HT.lexLt_cons] at h1 h2 ⊢
    by_cases e1 : x = y
    · subst e1
      rw [if_pos rfl] at h1
      by_cases e2 : x = z
      · subst e2
        rw [if_pos rfl] at h2 ⊢
        exact lex_trans h1 h2
      · rw [if_neg e2] at h2 ⊢
        exact h2
    · rw [if_neg e1] at h1
      have a1 := of_decide_eq_true h1
      by_cases e2 : y = z
      · subst e2
        rw [if_neg e1]
        exact h1
      · rw [if_neg e2] at h2
        have a2 := of_decide_eq_true h2
        rw [if_neg (by omega)]
        exact decide_eq_true (by omega)
theorem lex_add : ∀ {p q r : List Int}, p.length = r.length → q.length = r.length → HT.lexLt (addP p r) (addP q r) = HT.lexLt p q
  | [], [], [], _, _ => rfl
  | x :: p, y :: q, z :: r, h1, h2 => by
    show HT.lexLt ((x + z) :: addP p r) ((y + z) :: addP q r) = HT.lexLt (x :: p) (y :: q)
    rw [HT.lexLt_cons, HT.lexLt_cons, lex_add (Nat.succ.inj h1) (Nat.succ.inj h2)]
    by_cases e : x = y
    · rw [if_pos e, if_pos (by omega)]
    · rw [if_neg e, if_neg (by omega)]
      exact decide_eq_decide.mpr (by omega)
  | [], _ :: _, [], _, h => by cases h
  | _ :: _, _, [], h, _ => by cases h
  | [], _, _ :: _, h, _ => by cases h
  | _ :: _, [], _ :: _, _, h => by cases h
def subP (p q : List Int) : List Int := List.zipWith (· - ·) p q
theorem subP_length {p q : List Int} {n : Nat} (hp : p.length = n) (hq : q.length = n) : (subP p q).length = n := by
  unfold subP
  rw [List.length_zipWith, hp, hq, Nat.min_self]
theorem subP_addP : ∀ {p q : List Int}, p.length = q.length → subP (addP p q) q = p
  | [], [], _ => rfl
  | x :: p, y :: q, h => by
    show (x + y - y) :: subP (addP p q) q = x :: p
    rw [subP_addP (Nat.succ.inj h)]
    congr 1
    omega
theorem addP_subP : ∀ {p q : List Int}, p.length = q.length → addP (subP p q) q = p
  | [], [], _ => rfl
  | x :: p, y :: q, h => by
    show (x - y + y) :: addP (subP p q) q = x :: p
    rw [addP_subP (Nat.succ.inj h)]
    congr 1
    omega
/-! ### the canonical list of a sum, reckoned -/
def ins (a : Tm) : List Tm → List Tm
  | [] => if a.2 = 0 then [] else [a]
  | b :: r => if a.1 = b.1 then (if a.2 + b.2 = 0 then r else (b.1, a.2 + b.2) :: r) else if HT.lexLt b.1 a.1 = true then (if a.2 = 0 then b :: r else a :: b :: r) else b :: ins a r
def norm (ts : List Tm) : List Tm := ts.foldr ins []
theorem ins_keys {a c : Tm} : ∀ {r : List Tm}, c ∈ ins a r → c.1 = a.1 ∨ c ∈ r
  | [], h => by
    unfold ins at h
    split at h
    · cases h
    · rw [List.mem_singleton.mp h]
      exact .inl rfl
  | b :: r, h => by
    unfold ins at h
    split at h
    · next e =>
      split at h
      · exact .inr (List.mem_cons_of_mem _ h)
      · rcases List.mem_cons.mp h with rfl | h
        · exact .inl e.symm
        · exact .inr (List.mem_cons_of_mem _ h)
    · split at h
      · split at h
        · exact .inr h
        · rcases List.mem_cons.mp h with rfl | h
          · exact .inl rfl
          · exact .inr h
      · rcases List.mem_cons.mp h with rfl | h
        · exact .inr (List.mem_cons_self ..)
        · rcases ins_keys h with e | h
          · exact .inl e
          · exact .inr (List.mem_cons_of_mem _ h)
structure Can (r : List Tm) : Prop where
  fall : Falls r
  nz : ∀ a ∈ r, a.2 ≠ 0
theorem Can.cn {r : List Tm} (h : Can r) : Cn (Lf r) r := ⟨h.fall, h.nz, fun _ => rfl⟩
theorem Cn.can {ℓ : (List Int → Int) → Int} {r : List Tm} (h : Cn ℓ r) : Can r := ⟨h.fall, h.nz⟩
theorem Can.nil : Can [] := ⟨List.Pairwise.nil, fun a h => by cases h⟩
theorem Can.tail {a : Tm} {r : List Tm} (h : Can (a :: r)) : Can r := ⟨(List.pairwise_cons.mp h.fall).2, fun b hb => h.nz b (List.mem_cons_of_mem _ hb)⟩
theorem ins_can {a : Tm} : ∀ {r : List Tm}, Can r → Can (ins a r)
  | [], _ => by
    unfold ins
    split
    · exact .nil
    · next e => exact ⟨List.pairwise_singleton .., fun b hb => by rw [List.mem_singleton.mp hb]; exact e⟩
  | b :: r, h => by
    have f := List.pairwise_cons.mp h.fall
    have t := h.tail
    unfold ins
    split
    · split
      · exact t
      · next e => exact ⟨List.pairwise_cons.mpr ⟨fun c hc => f.1 c hc, f.2⟩, fun c hc => by
          rcases List.mem_cons.mp hc with rfl | hc
          · exact e
          · exact t.nz c hc⟩
    · next ne =>
      split
      · next lt =>
        split
        · exact h
        · next e =>
          refine ⟨List.pairwise_cons.mpr ⟨fun c hc => ?_, h.fall⟩, fun c hc => ?_⟩
          · rcases List.mem_cons.mp hc with rfl | hc
            · exact lt
            · exact lex_trans (f.1 c hc) lt
          · rcases List.mem_cons.mp hc with rfl | hc
            · exact e
            · exact h.nz c hc
      · next lt =>
        have ih := ins_can (a := a) t
        have gt : HT.lexLt a.1 b.1 = true := by
          cases z : HT.lexLt a.1 b.1 with
          | true => rfl
          | false => exact absurd (lex_tot z (Bool.eq_false_iff.mpr lt)) ne
        refine ⟨List.pairwise_cons.mpr ⟨fun c hc => ?_, ih.fall⟩, fun c hc => ?_⟩
        · rcases ins_keys hc with e | hc
          · rw [e]
            exact gt
          · exact f.1 c hc
        · rcases List.mem_cons.mp hc with rfl | hc
          · exact h.nz _ (List.mem_cons_self ..)
          · exact ih.nz c hc
theorem Lf_ins (a : Tm) (φ : List Int → Int) : ∀ r : List Tm, Lf (ins a r) φ = a.2 * φ a.1 + Lf r φ
  | [] => by
    unfold ins
    split
    · next e =>
      rw [e, Int.zero_mul]
      rfl
    · rw [Lf_cons]
  | b :: r => by
    unfold ins
    split
    · next e =>
      have z : (a.2 + b.2) * φ b.1 = a.2 * φ a.1 + b.2 * φ b.1 := by rw [Int.add_mul, e]
      split
      · next e0 =>
        rw [e0, Int.zero_mul] at z
        rw [Lf_cons]
        omega
      · rw [Lf_cons, Lf_cons]
        show (a.2 + b.2) * φ b.1 + Lf r φ = _
        rw [z]
        omega
    · split
      · split
        · next e =>
          rw [e, Int.zero_mul]
          omega
        · rw [Lf_cons]
      · rw [Lf_cons, Lf_cons, Lf_ins a φ r]
        omega
theorem norm_can : ∀ ts : List Tm, Can (norm ts)
  | [] => .nil
  | a :: ts => ins_can (norm_can ts)
theorem Lf_norm (φ : List Int → Int) : ∀ ts : List Tm, Lf (norm ts) φ = Lf ts φ
  | [] => rfl
  | a :: ts => by
    show Lf (ins a (norm ts)) φ = _
    rw [Lf_ins, Lf_norm φ ts, Lf_cons]
theorem norm_cn (ts : List Tm) : Cn (Lf ts) (norm ts) := ⟨(norm_can ts).fall, (norm_can ts).nz, fun φ => Lf_norm φ ts⟩
theorem Cn.norm {ts r : List Tm} (h : Cn (Lf ts) r) : r = norm ts := h.uniq (norm_cn ts)
theorem Can.eq {r s : List Tm} (h : Can r) (k : Can s) (e : ∀ φ, Lf r φ = Lf s φ) : r = s := Cn.uniq (ℓ := Lf s) ⟨h.fall, h.nz, e⟩ k.cn
theorem norm_mem {ts : List Tm} {c : Tm} : c ∈ norm ts → ∃ a ∈ ts, a.1 = c.1 := by
  induction ts with
  | nil => exact fun h => by cases h
  | cons a ts ih =>
    intro h
    rcases ins_keys h with e | h
    · exact ⟨a, List.mem_cons_self .., e.symm⟩
    · obtain ⟨b, hb, e⟩ := ih h
      exact ⟨b, List.mem_cons_of_mem _ hb, e⟩
/-! ### products of sums: the outermost powers -/
def Wid (n : Nat) (r : List Tm) : Prop := ∀ a ∈ r, a.1.length = n
theorem Falls.ndB {r : List Tm} (h : Falls r) : NdB r := by
  unfold NdB List.Nodup
  rw [List.pairwise_map]
  exact h.imp fun {a b} z => Ne.symm (lex_ne z)
theorem Lf_single {r : List Tm} {a : Tm} {ψ : List Int → Int} (nd : NdB r) (ha : a ∈ r) (h : ∀ x ∈ r, x.1 ≠ a.1 → ψ x.1 = 0) : Lf r ψ = a.2 * ψ a.1 := by
  induction r with
  | nil => cases ha
  | cons b r ih =>
    have nd' := List.nodup_cons.mp nd
    rw [Lf_cons]
    rcases List.mem_cons.mp ha with rfl | ha
    · have z : Lf r ψ = 0 := by
        have key : ∀ s : List Tm, (∀ x ∈ s, ψ x.1 = 0) → Lf s ψ = 0 := fun s => by
          induction s with
          | nil => exact fun _ => rfl
          | cons c s ihs =>
            intro hs
            rw [Lf_cons, ihs fun x hx => hs x (List.mem_cons_of_mem _ hx), hs c (List.mem_cons_self ..), Int.mul_zero]
            rfl
        exact key r fun x hx => h x (List.mem_cons_of_mem _ hx) fun e => nd'.1 (List.mem_map.mpr ⟨x, hx, e⟩)
      rw [z]
      omega
    · have ne : b.1 ≠ a.1 := fun e => nd'.1 (List.mem_map.mpr ⟨a, ha, e.symm⟩)
      rw [h b (List.mem_cons_self ..) ne, ih nd'.2 ha fun x hx => h x (List.mem_cons_of_mem _ hx)]
      omega
theorem coef_pair {q o : List Tm} {a b : Tm} (nq : NdB q) (no : NdB o) (ha : a ∈ q) (hb : b ∈ o) (h : ∀ x ∈ q, ∀ y ∈ o, addP x.1 y.1 = addP a.1 b.1 → x.1 = a.1 ∧ y.1 = b.1) : Lf (mulT q o) (ind (addP a.1 b.1)) = a.2 * b.2 := by
  rw [Lf_mulT]
  unfold lmul
  have in0 : ∀ x ∈ q, x.1 ≠ a.1 → (Lf o fun y => ind (addP a.1 b.1) (addP x.1 y)) = 0 := fun x hx ne => by
    have key : ∀ s : List Tm, (∀ y ∈ s, addP x.1 y.1 ≠ addP a.1 b.1) → (Lf s fun y => ind (addP a.1 b.1) (addP x.1 y)) = 0 := fun s => by
      induction s with
      | nil => exact fun _ => rfl
      | cons c s ihs =>
        intro hs
        rw [Lf_cons, ihs fun y hy => hs y (List.mem_cons_of_mem _ hy)]
        unfold ind
        rw [if_neg (hs c (List.mem_cons_self ..)), Int.mul_zero]
        rfl
    exact key o fun y hy e => ne (h x hx y hy e).1
  rw [Lf_single nq ha in0, Lf_single no hb (fun y hy ne => by
    unfold ind
    exact if_neg fun e => ne (h a ha y hy e).2)]
  unfold ind
  rw [if_pos rfl, Int.mul_one]
theorem can_key {r : List Tm} (h : Can r) {p : List Int} (e : Lf r (ind p) ≠ 0) : (p, Lf r (ind p)) ∈ r := (h.cn.mem p _).mpr ⟨e, rfl⟩
/-- additive weighings of powers -/
def Addv (n : Nat) (w : List Int → Int) : Prop := ∀ p q : List Int, p.length = n → q.length = n → w (addP p q) = w p + w q
theorem least_of (w : List Int → Int) : ∀ {q : List Tm}, q ≠ [] → ∃ a ∈ q, ∀ x ∈ q, w a.1 < w x.1 ∨ (w a.1 = w x.1 ∧ (x.1 = a.1 ∨ HT.lexLt x.1 a.1 = true))
  | [], h => absurd rfl h
  | [a], _ => ⟨a, List.mem_cons_self .., fun x hx => by
      rw [List.mem_singleton.mp hx]
      exact .inr ⟨rfl, .inl rfl⟩⟩
  | a :: b :: q, _ => by
    obtain ⟨c, hc, h⟩ := least_of w (q := b :: q) (by simp)
    by_cases h1 : w c.1 < w a.1
    · refine ⟨c, List.mem_cons_of_mem _ hc, fun x hx => ?_⟩
      rcases List.mem_cons.mp hx with rfl | hx
      · exact .inl h1
      · exact h x hx
    · by_cases h2 : w a.1 < w c.1
      · refine ⟨a, List.mem_cons_self .., fun x hx => ?_⟩
        rcases List.mem_cons.mp hx with rfl | hx
        · exact .inr ⟨rfl, .inl rfl⟩
        · rcases h x hx with z | ⟨z, _⟩ <;> exact .inl (by omega)
      · have e : w a.1 = w c.1 := by omega
        cases l : HT.lexLt a.1 c.1 with
        | true =>
          refine ⟨c, List.mem_cons_of_mem _ hc, fun x hx => ?_⟩
          rcases List.mem_cons.mp hx with rfl | hx
          · exact .inr ⟨e.symm, .inr l⟩
          · exact h x hx
        | false =>
          refine ⟨a, List.mem_cons_self .., fun x hx => ?_⟩
          rcases List.mem_cons.mp hx with rfl | hx
          · exact .inr ⟨rfl, .inl rfl⟩
          · rcases h x hx with z | ⟨z, k⟩
            · exact .inl (by omega)
            · refine .inr ⟨by omega, ?_⟩
              cases l2 : HT.lexLt c.1 a.1 with
              | false =>
                have := lex_tot l l2
                rw [this]
                exact k
              | true =>
                rcases k with k | k
                · rw [k]
                  exact .inr l2
                · exact .inr (lex_trans k l2)
theorem add_inj {p q r : List Int} (h1 : p.length = r.length) (h2 : q.length = r.length) (e : addP p r = addP q r) : p = q := by
  rw [← subP_addP h1, ← subP_addP h2, e]
theorem pair_only {n : Nat} {w : List Int → Int} (hw : Addv n w) {q o : List Tm} {a b : Tm} (wq : Wid n q) (wo : Wid n o) (ha : a ∈ q) (hb : b ∈ o)
    (la : ∀ x ∈ q, w a.1 < w x.1 ∨ (w a.1 = w x.1 ∧ (x.1 = a.1 ∨ HT.lexLt x.1 a.1 = true))) (lb : ∀ x ∈ o, w b.1 < w x.1 ∨ (w b.1 = w x.1 ∧ (x.1 = b.1 ∨ HT.lexLt x.1 b.1 = true))) :
    ∀ x ∈ q, ∀ y ∈ o, addP x.1 y.1 = addP a.1 b.1 → x.1 = a.1 ∧ y.1 = b.1 := fun x hx y hy e => by
  have e2 := congrArg w e
  have lx := wq x hx
  have ly := wo y hy
  have l1 := wq a ha
  have l2 := wo b hb
  rw [hw _ _ lx ly, hw _ _ l1 l2] at e2
  rcases la x hx with z1 | ⟨z1, k1⟩
  · rcases lb y hy with z2 | ⟨z2, k2⟩ <;> omega
  · rcases lb y hy with z2 | ⟨z2, k2⟩
    · omega
    · rcases k1 with k1 | k1
      · refine ⟨k1, ?_⟩
        rw [k1, addP_comm a.1 y.1, addP_comm a.1 b.1] at e
        exact add_inj (ly.trans l1.symm) (l2.trans l1.symm) e
      · exfalso
        have s1 : HT.lexLt (addP x.1 y.1) (addP a.1 y.1) = true := by
          rw [lex_add (lx.trans ly.symm) (l1.trans ly.symm)]
          exact k1
        rcases k2 with k2 | k2
        · rw [← k2] at e
          rw [e, lex_irr] at s1
          cases s1
        · have s2 : HT.lexLt (addP a.1 y.1) (addP a.1 b.1) = true := by
            rw [addP_comm a.1 y.1, addP_comm a.1 b.1, lex_add (ly.trans l1.symm) (l2.trans l1.symm)]
            exact k2
          have s3 := lex_trans s1 s2
          rw [e, lex_irr] at s3
          cases s3
/-- where a product of sums is, the least of a weighing is the sum of both least -/
theorem least_key {n : Nat} {w : List Int → Int} (hw : Addv n w) {q o r : List Tm} (cq : Can q) (co : Can o) (cr : Can r) (wq : Wid n q) (wo : Wid n o) (e : ∀ φ, Lf r φ = Lf (mulT q o) φ) (q0 : q ≠ []) (o0 : o ≠ []) :
    ∃ c ∈ r, ∀ x ∈ q, ∀ y ∈ o, w c.1 ≤ w x.1 + w y.1 := by
  obtain ⟨a, ha, la⟩ := least_of w q0
  obtain ⟨b, hb, lb⟩ := least_of w o0
  have k := coef_pair cq.fall.ndB co.fall.ndB ha hb (pair_only hw wq wo ha hb la lb)
  rw [← e] at k
  have nz : Lf r (ind (addP a.1 b.1)) ≠ 0 := by
    rw [k]
    exact Int.mul_ne_zero (cq.nz a ha) (co.nz b hb)
  refine ⟨_, can_key cr nz, fun x hx y hy => ?_⟩
  show w (addP a.1 b.1) ≤ _
  rw [hw _ _ (wq a ha) (wo b hb)]
  rcases la x hx with z1 | ⟨z1, _⟩ <;> rcases lb y hy with z2 | ⟨z2, _⟩ <;> omega
theorem mulT_mem {q o : List Tm} {c : Tm} (h : c ∈ mulT q o) : ∃ x ∈ q, ∃ y ∈ o, c = (addP x.1 y.1, x.2 * y.2) := by
  induction q with
  | nil => cases h
  | cons a q ih =>
    rcases List.mem_append.mp (show c ∈ mulA a o ++ mulT q o from h) with h | h
    · obtain ⟨y, hy, rfl⟩ := List.mem_map.mp h
      exact ⟨a, List.mem_cons_self .., y, hy, rfl⟩
    · obtain ⟨x, hx, r⟩ := ih h
      exact ⟨x, List.mem_cons_of_mem _ hx, r⟩
theorem Wid.mulT {n : Nat} {q o : List Tm} (wq : Wid n q) (wo : Wid n o) : Wid n (mulT q o) := fun c hc => by
  obtain ⟨x, hx, y, hy, rfl⟩ := mulT_mem hc
  exact addP_length (wq x hx) (wo y hy)
theorem Wid.norm {n : Nat} {ts : List Tm} (h : Wid n ts) : Wid n (norm ts) := fun c hc => by
  obtain ⟨a, ha, e⟩ := norm_mem hc
  rw [← e]
  exact h a ha
/-- the first product of a product of sums -/
theorem head_mul {n : Nat} {a b : Tm} {q o : List Tm} (cq : Can (a :: q)) (co : Can (b :: o)) (wq : Wid n (a :: q)) (wo : Wid n (b :: o)) : ∃ r, norm (mulT (a :: q) (b :: o)) = (addP a.1 b.1, a.2 * b.2) :: r := by
  have fa := (List.pairwise_cons.mp cq.fall).1
  have fb := (List.pairwise_cons.mp co.fall).1
  have la : ∀ x ∈ a :: q, (0 : Int) < 0 ∨ ((0 : Int) = 0 ∧ (x.1 = a.1 ∨ HT.lexLt x.1 a.1 = true)) := fun x hx => .inr ⟨rfl, by
    rcases List.mem_cons.mp hx with rfl | hx
    · exact .inl rfl
    · exact .inr (fa x hx)⟩
  have lb : ∀ x ∈ b :: o, (0 : Int) < 0 ∨ ((0 : Int) = 0 ∧ (x.1 = b.1 ∨ HT.lexLt x.1 b.1 = true)) := fun x hx => .inr ⟨rfl, by
    rcases List.mem_cons.mp hx with rfl | hx
    · exact .inl rfl
    · exact .inr (fb x hx)⟩
  have ha := List.mem_cons_self (a := a) (l := q)
  have hb := List.mem_cons_self (a := b) (l := o)
  have k := coef_pair cq.fall.ndB co.fall.ndB ha hb (pair_only (w := fun _ => 0) (fun _ _ _ _ => rfl) wq wo ha hb la lb)
  have cr := norm_can (mulT (a :: q) (b :: o))
  rw [← Lf_norm] at k
  have m := can_key cr (p := addP a.1 b.1) (by rw [k]; exact Int.mul_ne_zero (cq.nz a ha) (co.nz b hb))
  rw [k] at m
  cases hr : norm (mulT (a :: q) (b :: o)) with
  | nil =>
    rw [hr] at m
    cases m
  | cons c r =>
    rw [hr] at m cr
    rcases List.mem_cons.mp m with rfl | m
    · exact ⟨r, rfl⟩
    · exfalso
      have lt := (List.pairwise_cons.mp cr.fall).1 _ m
      obtain ⟨d, hd, e⟩ := norm_mem (show c ∈ norm (mulT (a :: q) (b :: o)) by rw [hr]; exact List.mem_cons_self ..)
      obtain ⟨x, hx, y, hy, rfl⟩ := mulT_mem hd
      have lx := wq x hx
      have ly := wo y hy
      have l1 := wq a ha
      have l2 := wo b hb
      rw [← e] at lt
      rcases (la x hx).resolve_left (by omega) with ⟨_, k1 | k1⟩ <;> rcases (lb y hy).resolve_left (by omega) with ⟨_, k2 | k2⟩
      · rw [k1, k2, lex_irr] at lt
        cases lt
      · have s2 : HT.lexLt (addP a.1 y.1) (addP a.1 b.1) = true := by
          rw [addP_comm a.1 y.1, addP_comm a.1 b.1, lex_add (ly.trans l1.symm) (l2.trans l1.symm)]
          exact k2
        rw [k1] at lt
        have := lex_trans lt s2
        rw [lex_irr] at this
        cases this
      · have s1 : HT.lexLt (addP x.1 b.1) (addP a.1 b.1) = true := by
          rw [lex_add (lx.trans l2.symm) (l1.trans l2.symm)]
          exact k1
        rw [k2] at lt
        have := lex_trans lt s1
        rw [lex_irr] at this
        cases this
      · have s1 : HT.lexLt (addP x.1 y.1) (addP a.1 y.1) = true := by
          rw [lex_add (lx.trans ly.symm) (l1.trans ly.symm)]
          exact k1
        have s2 : HT.lexLt (addP a.1 y.1) (addP a.1 b.1) = true := by
          rw [addP_comm a.1 y.1, addP_comm a.1 b.1, lex_add (ly.trans l1.symm) (l2.trans l1.symm)]
          exact k2
        have := lex_trans lt (lex_trans s1 s2)
        rw [lex_irr] at this
        cases this
end Bw
set_option Elab.async false
set_option linter.all false
set_option maxRecDepth 100000
set_option maxHeartbeats 4000000
namespace Bw
open PySem PySem.Spec PyProof.Rows L2
/-! ### the quotient, reckoned -/
def negT (ts : List Tm) : List Tm := ts.map fun a => (a.1, -a.2)
def insideB : List Int → List Int → List Int → Bool
  | a :: l, b :: p, c :: h => decide (a ≤ b) && decide (b ≤ c) && insideB l p h
  | _, _, _ => true
/-- least and greatest power of each letter -/
def foldI (f : Int → Int → Int) : List Int → Int
  | [] => 0
  | [x] => x
  | x :: y :: xs => f x (foldI f (y :: xs))
def colP (r : List Tm) (j : Nat) : List Int := r.map fun a => a.1.getD j 0
def lowP (n : Nat) (r : List Tm) : List Int := (List.range n).map fun j => foldI min (colP r j)
def highP (n : Nat) (r : List Tm) : List Int := (List.range n).map fun j => foldI max (colP r j)
def quoF (other : List Tm) (lead : Tm) (low high : List Int) (most : Nat) : Nat → List Tm → List Tm → Option (List Tm)
  | _, [], found => some found
  | 0, _ :: _, _ => none
  | f + 1, t :: r, found =>
    if insideB low (subP t.1 lead.1) high = true ∧ found.length ≠ most ∧ t.2.fmod lead.2 = 0 then
      quoF other lead low high most f (norm (t :: r ++ negT (mulA (subP t.1 lead.1, t.2.fdiv lead.2) other))) (found ++ [(subP t.1 lead.1, t.2.fdiv lead.2)])
    else none
def quo (n : Nat) (one other : List Tm) (most : Nat) : Option (List Tm) := match other with
  | [] => none
  | b :: o => quoF (b :: o) b (subP (lowP n one) (lowP n (b :: o))) (subP (highP n one) (highP n (b :: o))) most (most + 1) one []
theorem Lf_negT (ts : List Tm) (φ : List Int → Int) : Lf (negT ts) φ = -(Lf ts φ) := Lf_neg ts φ
theorem foldI_min : ∀ {l : List Int}, l ≠ [] → foldI min l ∈ l ∧ ∀ y ∈ l, foldI min l ≤ y
  | [], h => absurd rfl h
  | [x], _ => ⟨List.mem_cons_self .., fun y hy => by rw [List.mem_singleton.mp hy]; exact Int.le_refl _⟩
  | x :: y :: xs, _ => by
    obtain ⟨h1, h2⟩ := foldI_min (l := y :: xs) (by simp)
    show min x _ ∈ _ ∧ ∀ z ∈ _, min x _ ≤ z
    refine ⟨?_, fun z hz => ?_⟩
    · rcases Int.le_total x (foldI min (y :: xs)) with h | h
      · rw [Int.min_eq_left h]
        exact List.mem_cons_self ..
      · rw [Int.min_eq_right h]
        exact List.mem_cons_of_mem _ h1
    · rcases List.mem_cons.mp hz with rfl | hz
      · exact Int.min_le_left ..
      · exact Int.le_trans (Int.min_le_right ..) (h2 z hz)
theorem foldI_max : ∀ {l : List Int}, l ≠ [] → foldI max l ∈ l ∧ ∀ y ∈ l, y ≤ foldI max l
  | [], h => absurd rfl h
  | [x], _ => ⟨List.mem_cons_self .., fun y hy => by rw [List.mem_singleton.mp hy]; exact Int.le_refl _⟩
  | x :: y :: xs, _ => by
    obtain ⟨h1, h2⟩ := foldI_max (l := y :: xs) (by simp)
    show max x _ ∈ _ ∧ ∀ z ∈ _, z ≤ max x _
    refine ⟨?_, fun z hz => ?_⟩
    · rcases Int.le_total x (foldI max (y :: xs)) with h | h
      · rw [Int.max_eq_right h]
        exact List.mem_cons_of_mem _ h1
      · rw [Int.max_eq_left h]
        exact List.mem_cons_self ..
    · rcases List.mem_cons.mp hz with rfl | hz
      · exact Int.le_max_left ..
      · exact Int.le_trans (h2 z hz) (Int.le_max_right ..)
theorem colP_ne {r : List Tm} {j : Nat} (h : r ≠ []) : colP r j ≠ [] := fun e => h (List.map_eq_nil_iff.mp e)
theorem col_low {r : List Tm} {j : Nat} (h : r ≠ []) : (∃ a ∈ r, foldI min (colP r j) = a.1.getD j 0) ∧ ∀ a ∈ r, foldI min (colP r j) ≤ a.1.getD j 0 := by
  obtain ⟨h1, h2⟩ := foldI_min (colP_ne (j := j) h)
  obtain ⟨a, ha, e⟩ := List.mem_map.mp h1
  exact ⟨⟨a, ha, e.symm⟩, fun b hb => h2 _ (List.mem_map.mpr ⟨b, hb, rfl⟩)⟩
theorem col_high {r : List Tm} {j : Nat} (h : r ≠ []) : (∃ a ∈ r, foldI max (colP r j) = a.1.getD j 0) ∧ ∀ a ∈ r, a.1.getD j 0 ≤ foldI max (colP r j) := by
  obtain ⟨h1, h2⟩ := foldI_max (colP_ne (j := j) h)
  obtain ⟨a, ha, e⟩ := List.mem_map.mp h1
  exact ⟨⟨a, ha, e.symm⟩, fun b hb => h2 _ (List.mem_map.mpr ⟨b, hb, rfl⟩)⟩
theorem addP_getD : ∀ {p q : List Int} {j : Nat}, p.length = q.length → (addP p q).getD j 0 = p.getD j 0 + q.getD j 0
  | [], [], _, _ => rfl
  | x :: p, y :: q, 0, _ => rfl
  | x :: p, y :: q, j + 1, h => addP_getD (p := p) (q := q) (j := j) (Nat.succ.inj h)
theorem subP_getD : ∀ {p q : List Int} {j : Nat}, p.length = q.length → (subP p q).getD j 0 = p.getD j 0 - q.getD j 0
  | [], [], _, _ => rfl
  | x :: p, y :: q, 0, _ => rfl
  | x :: p, y :: q, j + 1, h => subP_getD (p := p) (q := q) (j := j) (Nat.succ.inj h)
theorem insideB_of : ∀ {l p h : List Int}, (∀ j, j < p.length → l.getD j 0 ≤ p.getD j 0 ∧ p.getD j 0 ≤ h.getD j 0) → insideB l p h = true
  | [], _, _, _ => by unfold insideB; rfl
  | _ :: _, [], _, _ => by unfold insideB; rfl
  | _ :: _, _ :: _, [], _ => by unfold insideB; rfl
  | a :: l, b :: p, c :: h, k => by
    have k0 : a ≤ b ∧ b ≤ c := k 0 (Nat.zero_lt_succ _)
    unfold insideB
    rw [decide_eq_true k0.1, decide_eq_true k0.2, insideB_of (l := l) (p := p) (h := h) fun j hj => k (j + 1) (Nat.succ_lt_succ hj)]
    rfl
theorem lowP_len (n : Nat) (r : List Tm) : (lowP n r).length = n := by unfold lowP; rw [List.length_map, List.length_range]
theorem highP_len (n : Nat) (r : List Tm) : (highP n r).length = n := by unfold highP; rw [List.length_map, List.length_range]
theorem map_range_getD {f : Nat → Int} {n j : Nat} (h : j < n) : ((List.range n).map f).getD j 0 = f j := by
  rw [List.getD_eq_getElem?_getD, List.getElem?_map, List.getElem?_range h]
  rfl
theorem coord_add (n j : Nat) : Addv n (fun p => p.getD j 0) := fun p q h1 h2 => addP_getD (h1.trans h2.symm)
theorem coord_neg (n j : Nat) : Addv n (fun p => -(p.getD j 0)) := fun p q h1 h2 => by
  show -((addP p q).getD j 0) = -(p.getD j 0) + -(q.getD j 0)
  rw [addP_getD (h1.trans h2.symm)]
  omega
/-- what goes into a product lies inside -/
theorem inside_of {n : Nat} {q o one : List Tm} (cq : Can q) (co : Can o) (c1 : Can one) (wq : Wid n q) (wo : Wid n o) (e : ∀ φ, Lf one φ = Lf (mulT q o) φ) (o0 : o ≠ []) {x : Tm} (hx : x ∈ q) :
    insideB (subP (lowP n one) (lowP n o)) x.1 (subP (highP n one) (highP n o)) = true := by
  have q0 : q ≠ [] := fun z => by rw [z] at hx; cases hx
  refine insideB_of fun j hj => ?_
  rw [wq x hx] at hj
  rw [subP_getD (by rw [lowP_len, lowP_len]), subP_getD (by rw [highP_len, highP_len])]
  unfold lowP highP
  rw [map_range_getD hj, map_range_getD hj, map_range_getD hj, map_range_getD hj]
  obtain ⟨c, hc, k⟩ := least_key (coord_add n j) cq co c1 wq wo e q0 o0
  obtain ⟨d, hd, k'⟩ := least_key (coord_neg n j) cq co c1 wq wo e q0 o0
  have n1 : one ≠ [] := fun z => by rw [z] at hc; cases hc
  obtain ⟨⟨y, hy, ey⟩, _⟩ := col_low (j := j) o0
  obtain ⟨⟨z, hz, ez⟩, _⟩ := col_high (j := j) o0
  have l1 := (col_low (j := j) n1).2 c hc
  have h1 := (col_high (j := j) n1).2 d hd
  have k1 := k x hx y hy
  have k2 := k' x hx z hz
  have k1 : c.1.getD j 0 ≤ x.1.getD j 0 + y.1.getD j 0 := k1
  have k2 : -(d.1.getD j 0) ≤ -(x.1.getD j 0) + -(z.1.getD j 0) := k2
  omega
theorem Lf_cons_mul (a : Tm) (q o : List Tm) (φ : List Int → Int) : Lf (mulT (a :: q) o) φ = Lf (mulA a o) φ + Lf (mulT q o) φ := Lf_append ..
theorem Wid.cons {n : Nat} {a : Tm} {r : List Tm} (h : Wid n (a :: r)) : Wid n r := fun b hb => h b (List.mem_cons_of_mem _ hb)
theorem quoF_done {n : Nat} {b : Tm} {o : List Tm} {low high : List Int} {most : Nat} (co : Can (b :: o)) (wo : Wid n (b :: o)) : ∀ (q found : List Tm) (f : Nat), Can q → Wid n q → (∀ x ∈ q, insideB low x.1 high = true) → found.length + q.length ≤ most → q.length < f + 1 →
    quoF (b :: o) b low high most f (norm (mulT q (b :: o))) found = some (found ++ q)
  | [], found, f, _, _, _, _, _ => by
    rw [show norm (mulT [] (b :: o)) = [] from rfl, List.append_nil]
    unfold quoF
    cases f <;> rfl
  | a :: q, found, 0, _, _, _, _, hf => absurd hf (by simp)
  | a :: q, found, f + 1, cq, wq, hi, hm, hf => by
    obtain ⟨r, er⟩ := head_mul cq co wq wo
    have wa := wq a (List.mem_cons_self ..)
    have wb := wo b (List.mem_cons_self ..)
    have b0 := co.nz b (List.mem_cons_self ..)
    have nx : norm ((addP a.1 b.1, a.2 * b.2) :: r ++ negT (mulA (a.1, a.2) (b :: o))) = norm (mulT q (b :: o)) := by
      refine (norm_can _).eq (norm_can _) fun φ => ?_
      rw [Lf_norm, Lf_norm, Lf_append, Lf_negT, ← er, Lf_norm, Lf_cons_mul]
      show Lf (mulA a (b :: o)) φ + _ + -(Lf (mulA a (b :: o)) φ) = _
      omega
    rw [er]
    unfold quoF
    dsimp only
    rw [subP_addP (wa.trans wb.symm)]
    have hd : (a.2 * b.2).fdiv b.2 = a.2 := Int.mul_fdiv_cancel _ b0
    have hmod : (a.2 * b.2).fmod b.2 = 0 := Int.mul_fmod_left ..
    rw [List.length_cons] at hm hf
    rw [if_pos ⟨hi a (List.mem_cons_self ..), by omega, hmod⟩, hd, nx]
    rw [quoF_done co wo q (found ++ [(a.1, a.2)]) f cq.tail wq.cons (fun x hx => hi x (List.mem_cons_of_mem _ hx)) (by rw [List.length_append]; show found.length + 1 + q.length ≤ most; omega) (by omega), List.append_assoc]
    rfl
/-- what is a product of q by the other one has q as its quotient -/
theorem quo_of {n : Nat} {q o one : List Tm} {most : Nat} (cq : Can q) (co : Can o) (c1 : Can one) (wq : Wid n q) (wo : Wid n o) (e : ∀ φ, Lf one φ = Lf (mulT q o) φ) (o0 : o ≠ []) (hl : q.length ≤ most) : quo n one o most = some q := by
  cases o with
  | nil => exact absurd rfl o0
  | cons b o =>
    have e1 : one = norm (mulT q (b :: o)) := c1.eq (norm_can _) fun φ => by rw [e, Lf_norm]
    have k := quoF_done (low := subP (lowP n one) (lowP n (b :: o))) (high := subP (highP n one) (highP n (b :: o))) (most := most) co wo q [] (most + 1) cq wq (fun x hx => inside_of cq co c1 wq wo e (by simp) hx) (by rw [List.length_nil]; omega) (by omega)
    rw [← e1] at k
    unfold quo
    exact k
theorem fdiv_of {a b : Int} (h : a.fmod b = 0) : a.fdiv b * b = a := by
  have := Int.mul_fdiv_add_fmod a b
  rw [h, Int.mul_comm] at this
  omega
/-- what is told as a quotient is one -/
theorem quoF_sound {b : Tm} {o : List Tm} {low high : List Int} {most : Nat} (b0 : b.2 ≠ 0) : ∀ (f : Nat) (rest found res : List Tm), found.length ≤ most → quoF (b :: o) b low high most f rest found = some res →
    res.length ≤ most ∧ ∀ φ, Lf (mulT res (b :: o)) φ = Lf (mulT found (b :: o)) φ + Lf rest φ
  | f, [], found, res, hm, h => by
    have h : some found = some res := by
      cases f <;> exact h
    cases h
    exact ⟨hm, fun φ => by rw [Lf_nil]; omega⟩
  | 0, _ :: _, found, res, _, h => by cases h
  | f + 1, t :: r, found, res, hm, h => by
    unfold quoF at h
    split at h
    · next c =>
      obtain ⟨c1, c2, c3⟩ := c
      obtain ⟨k1, k2⟩ := quoF_sound b0 f _ _ res (by rw [List.length_append]; show found.length + 1 ≤ most; omega) h
      refine ⟨k1, fun φ => ?_⟩
      rw [k2, Lf_norm, Lf_append, Lf_negT, mulT_append, Lf_append]
      show _ + Lf (mulA _ _ ++ []) φ + _ = _
      rw [List.append_nil]
      omega
    · cases h
theorem quo_sound {n : Nat} {o one res : List Tm} {most : Nat} (co : Can o) (h : quo n one o most = some res) : res.length ≤ most ∧ ∀ φ, Lf (mulT res o) φ = Lf one φ := by
  cases o with
  | nil => cases h
  | cons b o =>
    obtain ⟨k1, k2⟩ := quoF_sound (co.nz b (List.mem_cons_self ..)) _ _ _ _ (Nat.zero_le _) h
    exact ⟨k1, fun φ => by rw [k2]; show Lf [] φ + _ = _; rw [Lf_nil]; omega⟩
end Bw
set_option Elab.async false
set_option linter.all false
set_option maxRecDepth 100000
set_option maxHeartbeats 4000000
namespace Bw
open PySem PySem.Spec PyProof.Rows L2
/-! ### least and greatest powers -/
theorem mapR_succ (f : Nat → Int) (i : Nat) : ((List.range (i + 1)).map f).map V.int = ((List.range i).map f).map V.int ++ [V.int (f i)] := by
  rw [List.range_succ, List.map_append, List.map_append]
  rfl
section
variable {P : Program} {w : World} {K : PySem.W.Frag} {mg : Str → Option Value} {base : Heap}
def spSubP : Sp := fun vs H Q _ => ∃ (a b : Addr) (p q : List Int), vs = [.ref a, .ref b] ∧ H a = some (.tup (p.map V.int)) ∧ H b = some (.tup (q.map V.int)) ∧ p.length = q.length ∧ p.length ≤ 8 ∧
  ∀ (c : Addr) (H' : Hp), Same H H' → H c = none → H' c = some (.tup ((subP p q).map V.int)) → Q (.ref c) H'
theorem subP_take {p q : List Int} {i : Nat} {x y : Int} (hp : p[i]? = some x) (hq : q[i]? = some y) : subP (p.take (i + 1)) (q.take (i + 1)) = subP (p.take i) (q.take i) ++ [x - y] := by
  unfold subP
  have h1 := (List.getElem?_eq_some_iff.mp hp).1
  have h2 := (List.getElem?_eq_some_iff.mp hq).1
  rw [List.take_succ, List.take_succ, hp, hq, List.zipWith_append (by rw [List.length_take, List.length_take]; omega)]
  rfl
abbrev s_lessened_powers : Stmt := topS 15
abbrev n_lessened_powers : List Str := ["one", "other", "a", "b"]
theorem sc_lessened_powers : FnScope n_lessened_powers ["one", "other"] (defScope s_lessened_powers) := ⟨rfl, rfl, rfl, by decide +kernel, rfl, by decide +kernel, by decide +kernel⟩
theorem ok_lessened_powers {f : Addr} {fd : FuncData} (F : Fun K "lessened_powers" "lessened_powers" s_lessened_powers f fd) (T : Tx mg) : FnOk P w K mg base CX0 1 f fd ["one", "other"] spSubP := by
  refine F.ok sc_lessened_powers (fun vs H Q E h => ?_) (fun cdv A outer s H vs Q E hr h => ?_)
  · obtain ⟨a, b, p, q, rfl, _⟩ := h
    rfl
  · obtain ⟨a, b, xp, xq, rfl, ha, hb, hl, h8, q⟩ := h
    refine ⟨_, (pss_one (ps_ret (pe_callTy (c_tup (K := K)) (by rfl) T.tuple (by decide +kernel) (pa_cons (pe_lc (own := [("a", 2), ("b", 3)]) (by rfl) sc_lessened_powers.nd (RZ.pi_zipA (by rfl) T.zip (pa_cons (pv 0) (pa_cons (pv 1) pa_nil))) (blkOk_by (own := [("a", 2), ("b", 3)]) (N := n_lessened_powers) (sc := defScope s_lessened_powers) (by decide +kernel)) (fun _ _ _ _ _ => (g_tup (K := K) (n := 2) rfl (pgs_cons (pg_name (i := 2) sc_lessened_powers.nd rfl (.inl rfl)) (pgs_cons (pg_name (i := 3) sc_lessened_powers.nd rfl (.inl rfl)) pgs_nil)))) (fun _ _ _ _ _ => pts_nil) (fun _ _ _ _ _ => (pe_op op_sub (pv 2) (pv 3)))) pa_nil)))), ?_⟩
    refine ⟨.ref a, rfl, .ref b, rfl, a, b, _, _, rfl, .inr ⟨SqT.of ha, SqT.of hb, fun D eD => ?_⟩⟩
    refine it_zipT (by rw [List.length_map, List.length_map, hl]) (fun j H' => H' D = some (.lst ((subP (xp.take j) (xq.take j)).map V.int)) ∧ Same H H') ⟨upd_same, same_upd eD⟩ (fun j H' ⟨_, k⟩ => ⟨SqT.of (k _ _ ha), SqT.of (k _ _ hb)⟩) ?_ ?_
    · rintro j u v Tt H1 hu hv ⟨e1, k1⟩ nT
      obtain ⟨x, ex, rfl⟩ := int_at hu
      obtain ⟨y, ey, rfl⟩ := int_at hv
      have sT := same_upd (o := .tup [.int x, .int y]) nT
      refine ⟨Tt, _, rfl, SqT.of upd_same, rfl, _, _, rfl, _, _, rfl, rfl, rfl, .int x, rfl, .int y, rfl, x, y, rfl, rfl, ?_⟩
      refine ⟨_, sT _ _ e1, ?_, ?_, Same.updN (k1.trans sT) eD⟩
      · rw [List.length_map]
        unfold subP
        rw [List.length_zipWith, List.length_take, List.length_take]
        exact small1000 (by omega)
      · rw [upd_same, subP_take ex ey, List.map_append]
        rfl
    · rintro H1 ⟨e1, k1⟩
      rw [List.length_map, List.take_length, hl, List.take_length] at e1
      refine ⟨D, _, rfl, .inl ⟨SqL.of e1, fun c ec => ?_⟩⟩
      have sc := same_upd (o := .tup ((subP xp xq).map V.int)) ec
      exact q c _ (k1.trans sc) (k1.free ec) upd_same
def spLowP (g : Int → Int → Int) : Sp := fun vs H Q _ => ∃ (a : Addr) (ts : List Addr) (r : List Tm) (n : Nat), vs = [.ref a] ∧ H a = some (.tup (ts.map V.ref)) ∧ TermsAt H ts r ∧ Wid n r ∧ r ≠ [] ∧ n ≤ 8 ∧ r.length ≤ 1000 ∧
  ∀ (p : Addr) (H' : Hp), Same H H' → H p = none → H' p = some (.tup (((List.range n).map fun j => foldI g (colP r j)).map V.int)) → Q (.ref p) H'
theorem row_cols {n : Nat} {r : List Tm} {i : Nat} (wr : Wid n r) (hi : i < n) : Col i (r.map fun a => a.1.map V.int) (r.map fun a => V.int (a.1.getD i 0)) := by
  refine ⟨by rw [List.length_map, List.length_map], fun m xs e => ?_⟩
  rw [List.getElem?_map] at e
  obtain ⟨a, ea, rfl⟩ := Option.map_eq_some_iff.mp e
  have la := wr a (List.mem_of_getElem? ea)
  rw [List.getElem?_map (l := r), ea, List.getElem?_map, List.getElem?_eq_getElem (show i < a.1.length by omega)]
  show some (V.int _) = some (V.int (a.1.getD i 0))
  rw [List.getD_eq_getElem?_getD, List.getElem?_eq_getElem (show i < a.1.length by omega)]
  rfl
abbrev s_lowest_powers : Stmt := topS 17
abbrev n_lowest_powers : List Str := ["products", "rows", "powers", "count", "column"]
theorem sc_lowest_powers : FnScope n_lowest_powers ["products"] (defScope s_lowest_powers) := ⟨rfl, rfl, rfl, by decide +kernel, rfl, by decide +kernel, by decide +kernel⟩
theorem ok_lowest_powers {f : Addr} {fd : FuncData} (F : Fun K "lowest_powers" "lowest_powers" s_lowest_powers f fd) (T : Tx mg) : FnOk P w K mg base CX0 1 f fd ["products"] (spLowP min) := by
  refine F.ok sc_lowest_powers (fun vs H Q E h => ?_) (fun cdv A outer s H vs Q E hr h => ?_)
  · obtain ⟨a, ts, r, n, rfl, _⟩ := h
    rfl
  · obtain ⟨a, ts, r, n, rfl, ha, hT, wr, r0, n8, hl, q⟩ := h
    refine ⟨_, (pss_cons (ps_setLc (i := 1) (own := [("powers", 2), ("count", 3)]) (by rfl) sc_lowest_powers.nd rfl rfl (sw_true rfl rfl rfl (by decide +kernel)) (p_tup (K := K) (pv 0)) (blkOk_by (own := [("powers", 2), ("count", 3)]) (N := n_lowest_powers) (sc := defScope s_lowest_powers) (by decide +kernel)) (fun _ _ _ _ _ => (g_tup (K := K) (n := 2) rfl (pgs_cons (pg_name (i := 2) sc_lowest_powers.nd rfl (.inl rfl)) (pgs_cons (pg_name (i := 3) sc_lowest_powers.nd rfl (.inl rfl)) pgs_nil)))) (fun _ _ _ _ _ => pts_nil) (fun _ _ _ _ _ => (pv 2)))
  (pss_one (ps_ret (pe_callTy (c_tup (K := K)) (by rfl) T.tuple (by decide +kernel) (pa_cons (pe_lc (own := [("column", 4)]) (by rfl) sc_lowest_powers.nd (p_zipS (K := K) (by rfl) T.zip (pv 1)) (blkOk_by (own := [("column", 4)]) (N := n_lowest_powers) (sc := defScope s_lowest_powers) (by decide +kernel)) (fun _ _ _ _ _ => (pg_name (i := 4) sc_lowest_powers.nd rfl (.inl rfl))) (fun _ _ _ _ _ => pts_nil) (fun _ _ _ _ _ => (pe_callB (c_minT (K := K) rfl) (by rfl) T.min (by decide +kernel) (pa_cons (pv 4) pa_nil)))) pa_nil))))), ?_⟩
    refine ⟨.ref a, rfl, a, rfl, ⟨_, SqT.of ha⟩, fun D eD => ?_⟩
    refine lc_tup (K := K) (a := a) (xs := ts.map V.ref) (fun i H' => ∃ qs : List Addr, qs.length = i ∧ H' D = some (.lst (qs.map V.ref)) ∧ Same H H' ∧ ∀ (j : Nat) (q : Addr), qs[j]? = some q → ∃ b, r[j]? = some b ∧ H' q = some (.tup (b.1.map V.int))) ⟨[], rfl, upd_same, same_upd eD, fun j q e => by simp at e⟩ (fun i H' _ ⟨_, _, _, s, _⟩ => SqT.of (s _ _ ha)) ?_ ?_
    · rintro i x H1 hx ⟨qs, lq, e1, s1, h1⟩
      obtain ⟨t, et, rfl⟩ := ref_at hx
      obtain ⟨b, eb, q1, hb1, hb2⟩ := (hT.same s1).at et
      have hi := (List.getElem?_eq_some_iff.mp eb).1
      refine ⟨t, _, rfl, SqT.of hb1, rfl, _, _, rfl, _, _, rfl, rfl, rfl, .ref q1, rfl, _, e1, by rw [List.length_map]; exact small1000 (by omega), qs ++ [q1], by rw [List.length_append, lq]; rfl, by rw [upd_same, List.map_append]; rfl, Same.updN s1 eD, fun j q2 e => ?_⟩
      have keep : ∀ {c : Addr} {xs : List V}, H1 c = some (.tup xs) → upd H1 D (.lst (qs.map V.ref ++ [.ref q1])) c = some (.tup xs) := fun {c xs} hc => by
        rw [upd_ne (ne_of hc e1 (fun z => by cases z))]
        exact hc
      by_cases z : j < qs.length
      · rw [List.getElem?_append_left z] at e
        obtain ⟨b', k1, k2⟩ := h1 j q2 e
        exact ⟨b', k1, keep k2⟩
      · rw [List.getElem?_append_right (by omega)] at e
        have z2 : j - qs.length = 0 := by
          have := (List.getElem?_eq_some_iff.mp e).1
          simp at this
          omega
        rw [z2] at e
        cases (Option.some.inj e)
        have : j = i := by omega
        rw [this]
        exact ⟨b, eb, keep hb2⟩
    · rintro H1 ⟨qs, lq, e1, s1, h1⟩
      rw [List.length_map, hT.1] at lq
      have eR : r.length = qs.length := lq.symm
      refine ⟨.ref D, rfl, D, qs.map (fun q => ((q, true) : Zl)), r.map (fun a => a.1.map V.int), rfl, .inr (SqL.of (by rw [List.map_map]; exact e1)), fun e => r0 (List.eq_nil_of_length_eq_zero (by rw [eR, List.map_eq_nil_iff.mp e]; rfl)), by rw [List.length_map]; omega, ⟨by rw [List.length_map, List.length_map, eR], fun m l e => ?_⟩, fun D2 eD2 => ?_⟩
      · rw [List.getElem?_map] at e
        obtain ⟨q1, eq, rfl⟩ := Option.map_eq_some_iff.mp e
        obtain ⟨b, eb, hb⟩ := h1 m q1 eq
        exact ⟨_, by rw [List.getElem?_map, eb]; rfl, SqT.of hb⟩
      have hS : ∀ H', Same H1 H' → Srcs K H' (qs.map (fun q => ((q, true) : Zl))) (r.map (fun a => a.1.map V.int)) := fun H' s => ⟨by rw [List.length_map, List.length_map, eR], fun m l e => by
        rw [List.getElem?_map] at e
        obtain ⟨q1, eq, rfl⟩ := Option.map_eq_some_iff.mp e
        obtain ⟨b, eb, hb⟩ := h1 m q1 eq
        exact ⟨_, by rw [List.getElem?_map, eb]; rfl, SqT.of (s _ _ hb)⟩⟩
      refine it_walk (walk_zipN (K := K) (n := n) (cols := fun i => r.map fun a => V.int (a.1.getD i 0)) (fun i hi => row_cols wr hi) ?_) (fun i H' => H' D2 = some (.lst (((List.range i).map fun j => foldI min (colP r j)).map V.int)) ∧ Same H1 H') ⟨upd_same, same_upd eD2⟩ (fun i H' _ ⟨_, s⟩ => hS H' s) ?_ ?_
      · cases r with
        | nil => exact absurd rfl r0
        | cons b r =>
          refine ⟨_, List.mem_map.mpr ⟨b, List.mem_cons_self .., rfl⟩, ?_⟩
          rw [List.getElem?_map, List.getElem?_eq_none (by rw [wr b (List.mem_cons_self ..)]; exact Nat.le_refl _)]
          rfl
      · rintro i x H2 H2' hi ⟨e2, s2⟩ ⟨U, rfl, nU, rfl⟩
        have sU := same_upd (o := .tup (r.map fun a => V.int (a.1.getD i 0))) nU
        refine ⟨rfl, .ref U, rfl, U, colP r i, rfl, SqT.of (by rw [upd_same]; unfold colP; rw [List.map_map]; rfl), by unfold colP; rw [List.length_map]; exact List.length_pos_iff.mpr r0, fun m hm hx => ?_⟩
        have em : m = foldI min (colP r i) := Int.le_antisymm (hx _ (foldI_min (colP_ne r0)).1) ((foldI_min (colP_ne r0)).2 m hm)
        refine ⟨_, sU _ _ e2, by rw [List.length_map, List.length_map, List.length_range]; exact small1000 (by omega), ?_, Same.updN (s2.trans sU) eD2⟩
        rw [upd_same, mapR_succ, em]
      · rintro H2 ⟨e2, s2⟩
        refine ⟨D2, _, rfl, .inl ⟨SqL.of e2, fun p ep => ?_⟩⟩
        have sp := same_upd (o := .tup (((List.range n).map fun j => foldI min (colP r j)).map V.int)) ep
        exact q p _ ((s1.trans s2).trans sp) ((s1.trans s2).free ep) upd_same
abbrev s_highest_powers : Stmt := topS 18
abbrev n_highest_powers : List Str := ["products", "rows", "powers", "count", "column"]
theorem sc_highest_powers : FnScope n_highest_powers ["products"] (defScope s_highest_powers) := ⟨rfl, rfl, rfl, by decide +kernel, rfl, by decide +kernel, by decide +kernel⟩
theorem ok_highest_powers {f : Addr} {fd : FuncData} (F : Fun K "highest_powers" "highest_powers" s_highest_powers f fd) (T : Tx mg) : FnOk P w K mg base CX0 1 f fd ["products"] (spLowP max) := by
  refine F.ok sc_highest_powers (fun vs H Q E h => ?_) (fun cdv A outer s H vs Q E hr h => ?_)
  · obtain ⟨a, ts, r, n, rfl, _⟩ := h
    rfl
  · obtain ⟨a, ts, r, n, rfl, ha, hT, wr, r0, n8, hl, q⟩ := h
    refine ⟨_, (pss_cons (ps_setLc (i := 1) (own := [("powers", 2), ("count", 3)]) (by rfl) sc_highest_powers.nd rfl rfl (sw_true rfl rfl rfl (by decide +kernel)) (p_tup (K := K) (pv 0)) (blkOk_by (own := [("powers", 2), ("count", 3)]) (N := n_highest_powers) (sc := defScope s_highest_powers) (by decide +kernel)) (fun _ _ _ _ _ => (g_tup (K := K) (n := 2) rfl (pgs_cons (pg_name (i := 2) sc_highest_powers.nd rfl (.inl rfl)) (pgs_cons (pg_name (i := 3) sc_highest_powers.nd rfl (.inl rfl)) pgs_nil)))) (fun _ _ _ _ _ => pts_nil) (fun _ _ _ _ _ => (pv 2)))
  (pss_one (ps_ret (pe_callTy (c_tup (K := K)) (by rfl) T.tuple (by decide +kernel) (pa_cons (pe_lc (own := [("column", 4)]) (by rfl) sc_highest_powers.nd (p_zipS (K := K) (by rfl) T.zip (pv 1)) (blkOk_by (own := [("column", 4)]) (N := n_highest_powers) (sc := defScope s_highest_powers) (by decide +kernel)) (fun _ _ _ _ _ => (pg_name (i := 4) sc_highest_powers.nd rfl (.inl rfl))) (fun _ _ _ _ _ => pts_nil) (fun _ _ _ _ _ => (pe_callB (c_maxT (K := K) rfl) (by rfl) T.max (by decide +kernel) (pa_cons (pv 4) pa_nil)))) pa_nil))))), ?_⟩
    refine ⟨.ref a, rfl, a, rfl, ⟨_, SqT.of ha⟩, fun D eD => ?_⟩
    refine lc_tup (K := K) (a := a) (xs := ts.map V.ref) (fun i H' => ∃ qs : List Addr, qs.length = i ∧ H' D = some (.lst (qs.map V.ref)) ∧ Same H H' ∧ ∀ (j : Nat) (q : Addr), qs[j]? = some q → ∃ b, r[j]? = some b ∧ H' q = some (.tup (b.1.map V.int))) ⟨[], rfl, upd_same, same_upd eD, fun j q e => by simp at e⟩ (fun i H' _ ⟨_, _, _, s, _⟩ => SqT.of (s _ _ ha)) ?_ ?_
    · rintro i x H1 hx ⟨qs, lq, e1, s1, h1⟩
      obtain ⟨t, et, rfl⟩ := ref_at hx
      obtain ⟨b, eb, q1, hb1, hb2⟩ := (hT.same s1).at et
      have hi := (List.getElem?_eq_some_iff.mp eb).1
      refine ⟨t, _, rfl, SqT.of hb1, rfl, _, _, rfl, _, _, rfl, rfl, rfl, .ref q1, rfl, _, e1, by rw [List.length_map]; exact small1000 (by omega), qs ++ [q1], by rw [List.length_append, lq]; rfl, by rw [upd_same, List.map_append]; rfl, Same.updN s1 eD, fun j q2 e => ?_⟩
      have keep : ∀ {c : Addr} {xs : List V}, H1 c = some (.tup xs) → upd H1 D (.lst (qs.map V.ref ++ [.ref q1])) c = some (.tup xs) := fun {c xs} hc => by
        rw [upd_ne (ne_of hc e1 (fun z => by cases z))]
        exact hc
      by_cases z : j < qs.length
      · rw [List.getElem?_append_left z] at e
        obtain ⟨b', k1, k2⟩ := h1 j q2 e
        exact ⟨b', k1, keep k2⟩
      · rw [List.getElem?_append_right (by omega)] at e
        have z2 : j - qs.length = 0 := by
          have := (List.getElem?_eq_some_iff.mp e).1
          simp at this
          omega
        rw [z2] at e
        cases (Option.some.inj e)
        have : j = i := by omega
        rw [this]
        exact ⟨b, eb, keep hb2⟩
    · rintro H1 ⟨qs, lq, e1, s1, h1⟩
      rw [List.length_map, hT.1] at lq
      have eR : r.length = qs.length := lq.symm
      refine ⟨.ref D, rfl, D, qs.map (fun q => ((q, true) : Zl)), r.map (fun a => a.1.map V.int), rfl, .inr (SqL.of (by rw [List.map_map]; exact e1)), fun e => r0 (List.eq_nil_of_length_eq_zero (by rw [eR, List.map_eq_nil_iff.mp e]; rfl)), by rw [List.length_map]; omega, ⟨by rw [List.length_map, List.length_map, eR], fun m l e => ?_⟩, fun D2 eD2 => ?_⟩
      · rw [List.getElem?_map] at e
        obtain ⟨q1, eq, rfl⟩ := Option.map_eq_some_iff.mp e
        obtain ⟨b, eb, hb⟩ := h1 m q1 eq
        exact ⟨_, by rw [List.getElem?_map, eb]; rfl, SqT.of hb⟩
      have hS : ∀ H', Same H1 H' → Srcs K H' (qs.map (fun q => ((q, true) : Zl))) (r.map (fun a => a.1.map V.int)) := fun H' s => ⟨by rw [List.length_map, List.length_map, eR], fun m l e => by
        rw [List.getElem?_map] at e
        obtain ⟨q1, eq, rfl⟩ := Option.map_eq_some_iff.mp e
        obtain ⟨b, eb, hb⟩ := h1 m q1 eq
        exact ⟨_, by rw [List.getElem?_map, eb]; rfl, SqT.of (s _ _ hb)⟩⟩
      refine it_walk (walk_zipN (K := K) (n := n) (cols := fun i => r.map fun a => V.int (a.1.getD i 0)) (fun i hi => row_cols wr hi) ?_) (fun i H' => H' D2 = some (.lst (((List.range i).map fun j => foldI max (colP r j)).map V.int)) ∧ Same H1 H') ⟨upd_same, same_upd eD2⟩ (fun i H' _ ⟨_, s⟩ => hS H' s) ?_ ?_
      · cases r with
        | nil => exact absurd rfl r0
        | cons b r =>
          refine ⟨_, List.mem_map.mpr ⟨b, List.mem_cons_self .., rfl⟩, ?_⟩
          rw [List.getElem?_map, List.getElem?_eq_none (by rw [wr b (List.mem_cons_self ..)]; exact Nat.le_refl _)]
          rfl
      · rintro i x H2 H2' hi ⟨e2, s2⟩ ⟨U, rfl, nU, rfl⟩
        have sU := same_upd (o := .tup (r.map fun a => V.int (a.1.getD i 0))) nU
        refine ⟨rfl, .ref U, rfl, U, colP r i, rfl, SqT.of (by rw [upd_same]; unfold colP; rw [List.map_map]; rfl), by unfold colP; rw [List.length_map]; exact List.length_pos_iff.mpr r0, fun m hm hx => ?_⟩
        have em : m = foldI max (colP r i) := Int.le_antisymm ((foldI_max (colP_ne r0)).2 m hm) (hx _ (foldI_max (colP_ne r0)).1)
        refine ⟨_, sU _ _ e2, by rw [List.length_map, List.length_map, List.length_range]; exact small1000 (by omega), ?_, Same.updN (s2.trans sU) eD2⟩
        rw [upd_same, mapR_succ, em]
      · rintro H2 ⟨e2, s2⟩
        refine ⟨D2, _, rfl, .inl ⟨SqL.of e2, fun p ep => ?_⟩⟩
        have sp := same_upd (o := .tup (((List.range n).map fun j => foldI max (colP r j)).map V.int)) ep
        exact q p _ ((s1.trans s2).trans sp) ((s1.trans s2).free ep) upd_same
end
end Bw
set_option Elab.async false
set_option linter.all false
set_option maxRecDepth 100000
namespace Bw
open PySem PySem.Spec PyProof.Rows L2
/-! ### name *= e, name //= e of great ints -/
section
variable {X : Cx}
theorem iop_mulW : OpR X (inplaceOp .Mult) (rI CMulW fun i j => .int (i * j)) := opI fun _ _ _ _ _ _ _ hc q => imul_int q hc.ok
theorem iop_fdivW : OpR X (inplaceOp .FloorDiv) (rI CDivW fun i j => .int (i / j)) := opI fun i j _ _ _ _ _ hc q => by
  have h1 : (0 : Int) < j := hc.1
  exact ifloordiv_int (by omega) (by rw [Int.fdiv_eq_ediv_of_nonneg i (by omega)]; exact q) (.inl (PyProof.noPylong_of_log2 hc.2))
theorem ip_mulW : PIp X .Mult (rI CMulW fun i j => .int (i * j)) := fun pins s σ H x y v u Q I a b q => iop_mulW pins s σ H x y v u Q I a b q
theorem ip_fdivW : PIp X .FloorDiv (rI CDivW fun i j => .int (i / j)) := fun pins s σ H x y v u Q I a b q => iop_fdivW pins s σ H x y v u Q I a b q
end
end Bw
set_option Elab.async false
set_option linter.all false
set_option maxRecDepth 100000
set_option maxHeartbeats 4000000
namespace Bw
open PySem PySem.Spec PyProof.Rows L2
theorem abs_nat (i : Int) : (if i < 0 then -i else i) = (i.natAbs : Int) := by
  split <;> omega
/-- in lowest terms -/
structure Low (t u t' u' : Int) : Prop where
  eq : t' * u = t * u'
  pos : 0 < u'
  cop : Nat.gcd t'.natAbs u'.natAbs = 1
theorem cop_root {t u r N : Nat} (h : Nat.gcd (Nat.gcd r t) u = 1) (d : u ∣ r ^ N) : Nat.gcd t u = 1 := by
  have h1 : Nat.gcd t u ∣ r ^ N := Nat.dvd_trans (Nat.gcd_dvd_right t u) d
  have h2 : Nat.Coprime (Nat.gcd t u) r := by
    have e : Nat.gcd (Nat.gcd t u) r = Nat.gcd (Nat.gcd r t) u := by rw [Nat.gcd_comm (Nat.gcd t u) r, Nat.gcd_assoc]
    exact e.trans h
  exact Nat.Coprime.eq_one_of_dvd (Nat.Coprime.pow_right N h2) h1
theorem low_uniq {t u a b c d : Int} (u0 : u ≠ 0) (h : Low t u a b) (k : Low t u c d) : a = c ∧ b = d := by
  have e : a * d = c * b := by
    have h1 := h.eq
    have k1 := k.eq
    have : (a * d) * u = (c * b) * u := by
      calc (a * d) * u = (a * u) * d := by rw [Int.mul_right_comm]
        _ = t * b * d := by rw [h1]
        _ = t * d * b := by rw [Int.mul_right_comm]
        _ = (c * u) * b := by rw [k1]
        _ = (c * b) * u := by rw [Int.mul_right_comm]
    exact Int.eq_of_mul_eq_mul_right u0 this
  have hb := h.pos
  have hd := k.pos
  have en : a.natAbs * d.natAbs = c.natAbs * b.natAbs := by rw [← Int.natAbs_mul, ← Int.natAbs_mul, e]
  have h1 : b.natAbs ∣ d.natAbs := Nat.Coprime.dvd_of_dvd_mul_left (show Nat.Coprime b.natAbs a.natAbs by rw [Nat.coprime_comm]; exact h.cop) (by rw [en]; exact Nat.dvd_mul_left ..)
  have h2 : d.natAbs ∣ b.natAbs := Nat.Coprime.dvd_of_dvd_mul_left (show Nat.Coprime d.natAbs c.natAbs by rw [Nat.coprime_comm]; exact k.cop) (by rw [← en]; exact Nat.dvd_mul_left ..)
  have h3 := Nat.dvd_antisymm h1 h2
  have bd : b = d := by omega
  refine ⟨?_, bd⟩
  rw [bd] at e
  exact Int.eq_of_mul_eq_mul_right (by omega) e
section
variable {P : Program} {w : World} {K : PySem.W.Frag} {mg : Str → Option Value} {base : Heap}
abbrev s_common : Stmt := topS 10
abbrev n_common : List Str := ["one", "other"]
theorem sc_common : FnScope n_common ["one", "other"] (defScope s_common) := ⟨rfl, rfl, rfl, by decide +kernel, rfl, by decide +kernel, by decide +kernel⟩
def spCom : Sp := fun vs H Q _ => ∃ (a b : Int), vs = [.int a, .int b] ∧ Q (.int (Nat.gcd a.natAbs b.natAbs : Nat)) H
theorem ok_common {f : Addr} {fd : FuncData} {k : Nat} (F : Fun K "common" "common" s_common f fd) (T : Tx mg) : FnOk P w K mg base CX0 (k + 1) f fd ["one", "other"] spCom := by
  refine F.ok sc_common (fun vs H Q E h => ?_) (fun cdv A outer s H vs Q E hr h => ?_)
  · obtain ⟨a, b, rfl, _⟩ := h
    rfl
  · obtain ⟨a, b, rfl, q⟩ := h
    refine ⟨_, (pss_cons (ps_set (i := 0) sc_common.nd rfl (.inl rfl) (pe_callB call_abs (by rfl) T.abs (by decide +kernel) (pa_cons (pv 0) pa_nil)))
  (pss_cons (ps_set (i := 1) sc_common.nd rfl (.inl rfl) (pe_callB call_abs (by rfl) T.abs (by decide +kernel) (pa_cons (pv 1) pa_nil)))
  (pss_cons (ps_while PassesOwn.never (pt_cmpR op_ne (pv 1) pe_int (nomark _))
    (pss_one (ps_par (i := 0) (j := 1) (by rfl) sc_common.nd rfl rfl (by decide) rfl rfl (pa_cons (pv 1) (pa_cons (pe_op op_mod (pv 0) (pv 1)) pa_nil)) (by rfl))))
  (pss_one (ps_ret (pv 0)))))), ?_⟩
    refine ⟨_, rfl, _, rfl, ?_⟩
    rw [abs_nat]
    refine ⟨_, rfl, _, rfl, ?_⟩
    rw [abs_nat]
    generalize a.natAbs = a at q
    generalize b.natAbs = b at q
    refine while_by (fun σ H' => ∃ x y : Nat, σ = [some (.int x), some (.int y)] ∧ Nat.gcd x y = Nat.gcd a b ∧ H' = H) (fun σ _ => match σ with | [_, some (.int y)] => y.toNat | _ => 0) ⟨a, b, rfl, rfl, rfl⟩ ?_ ?_
    · rintro σ H' ⟨x, y, rfl, hg, rfl⟩
      refine ⟨.int y, rfl, rfl, _, rfl, ?_⟩
      by_cases hy : y = 0
      · subst hy
        refine iteF ⟨_, rfl, ?_⟩
        rw [Nat.gcd_zero_right] at hg
        rw [hg]
        exact q
      · rw [decide_eq_false (fun z => hy (by injection z with z; omega))]
        refine iteT ⟨_, rfl, _, rfl, _, rfl, _, _, rfl, rfl, (by show (0 : Int) < (y : Int); omega), _, _, rfl, ?_, ?_⟩
        · refine ⟨y, x % y, rfl, ?_, rfl⟩
          rw [← hg, Nat.gcd_comm y (x % y), ← Nat.gcd_rec y x, Nat.gcd_comm]
        · show ((x : Int) % (y : Int)).toNat < ((y : Int)).toNat
          have h1 := Int.emod_lt_of_pos (x : Int) (show (0 : Int) < (y : Int) by omega)
          have h2 := Int.emod_nonneg (x : Int) (show (y : Int) ≠ 0 by omega)
          omega
    · intro σ H' Q Q' mono h
      obtain ⟨v, e, h1, b', h2, h3⟩ := h
      exact ⟨v, e, h1, b', h2, mono _ _ h3⟩
/-! ### powers -/
abbrev s_power_of : Stmt := topS 11
abbrev n_power_of : List Str := ["base", "many", "result"]
theorem sc_power_of : FnScope n_power_of ["base", "many"] (defScope s_power_of) := ⟨rfl, rfl, rfl, by decide +kernel, rfl, by decide +kernel, by decide +kernel⟩
def spPow : Sp := fun vs H Q _ => ∃ (b : Int) (m : Nat), vs = [.int b, .int m] ∧ b.natAbs ≤ 16 ∧ m ≤ 8 ∧ Q (.int (b ^ m)) H
theorem pow_lt {b : Int} {e : Nat} (h : b.natAbs ≤ 16) (k : e ≤ 8) : (b ^ e).natAbs < 2 ^ 33 := by
  rw [Int.natAbs_pow]
  have h1 : b.natAbs ^ e ≤ 16 ^ e := Nat.pow_le_pow_left h e
  have h2 : (16 : Nat) ^ e ≤ 16 ^ 8 := Nat.pow_le_pow_right (by decide) k
  exact Nat.lt_of_le_of_lt (Nat.le_trans h1 h2) (by decide)
theorem ok_power {f : Addr} {fd : FuncData} (F : Fun K "power_of" "power_of" s_power_of f fd) (T : Tx mg) : FnOk P w K mg base CX0 1 f fd ["base", "many"] spPow := by
  refine F.ok sc_power_of (fun vs H Q E h => ?_) (fun cdv A outer s H vs Q E hr h => ?_)
  · obtain ⟨b, m, rfl, _⟩ := h
    rfl
  · obtain ⟨b, m, rfl, hb, hm, q⟩ := h
    refine ⟨_, (pss_cons (ps_set (i := 2) sc_power_of.nd rfl (.inl rfl) pe_int)
  (pss_cons (ps_while PassesOwn.never (pt_cmpR op_gt (pv 1) pe_int (nomark _))
    (pss_cons (ps_if (pt_cmpR op_eq (pe_op op_mod (pv 1) pe_int) pe_int (nomark _))
      (pss_one (ps_aug (i := 2) sc_power_of.nd rfl (.inl rfl) (pv 0) ip_mulW))
      pss_nil)
    (pss_cons (ps_aug (i := 1) sc_power_of.nd rfl (.inl rfl) pe_int ip_fdivW)
    (pss_one (ps_if (pt_cmpR op_gt (pv 1) pe_int (nomark _))
      (pss_one (ps_aug (i := 0) sc_power_of.nd rfl (.inl rfl) (pv 0) ip_mulW))
      pss_nil)))))
  (pss_one (ps_ret (pv 2))))), ?_⟩
    refine while_by (fun σ H' => ∃ e n r : Nat, σ = [some (.int (b ^ e)), some (.int n), some (.int (b ^ r))] ∧ r + n * e = m ∧ 1 ≤ e ∧ H' = H) (fun σ _ => match σ with | [_, some (.int y), _] => y.toNat | _ => 0) ⟨1, m, 0, by rw [Int.pow_one, Int.pow_zero]; rfl, by omega, by decide, rfl⟩ ?_ ?_
    · rintro σ H' ⟨e, n, r, rfl, hs, he, rfl⟩
      refine ⟨.int n, rfl, _, _, rfl, rfl, _, rfl, ite2 (fun z => ?_) (fun z => ?_)⟩
      · have n0 : 0 < n := by
          have := of_decide_eq_true z
          omega
        have en : e ≤ n * e := Nat.le_mul_of_pos_left e n0
        have hdiv : (r + (n % 2) * e) + (n / 2) * (2 * e) = m := by
          rw [← hs]
          have : n * e = (n % 2) * e + (n / 2) * (2 * e) := by
            have h1 : n = n % 2 + 2 * (n / 2) := (Nat.mod_add_div n 2).symm
            calc n * e = (n % 2 + 2 * (n / 2)) * e := by rw [← h1]
              _ = (n % 2) * e + (n / 2) * (2 * e) := by rw [Nat.add_mul, Nat.mul_comm 2 (n / 2), Nat.mul_assoc]
          omega
        have half : (n : Int) / 2 = ((n / 2 : Nat) : Int) := rfl
        have cdiv : CDivW (n : Int) 2 := ⟨by decide, by decide⟩
        have le : n / 2 < n := Nat.div_lt_self n0 (by decide)
        have sq : 0 < n / 2 → CMulW (b ^ e) (b ^ e) ∧ b ^ e * b ^ e = b ^ (2 * e) := fun h => by
          have h2 : 2 * e ≤ (n / 2) * (2 * e) := Nat.le_mul_of_pos_left _ h
          have h3 := pow_lt (e := e) hb (by omega)
          exact ⟨wide_mul h3 h3 (by decide) (by decide) (by decide), by rw [← Int.pow_add]; congr 1; omega⟩
        refine ⟨.int n, rfl, _, _, rfl, rfl, by show (0 : Int) < 2; decide, rfl, _, rfl, ite2 (fun z1 => ?_) (fun z1 => ?_)⟩
        · have n1 : n % 2 = 1 := by
            have := V.int.inj (of_decide_eq_true z1)
            omega
          rw [n1, Nat.one_mul] at hdiv
          have h3 := pow_lt (e := e) hb (by omega)
          have h4 := pow_lt (e := r) hb (by omega)
          refine ⟨_, rfl, _, rfl, _, _, rfl, rfl, wide_mul h4 h3 (by decide) (by decide) (by decide), ?_⟩
          refine ⟨_, rfl, _, _, rfl, rfl, cdiv, ?_⟩
          dsimp only
          rw [half, ← Int.pow_add]
          refine ⟨_, rfl, _, _, rfl, rfl, _, rfl, ite2 (fun z2 => ?_) (fun z2 => ?_)⟩
          · have h0 : 0 < n / 2 := by
              have := of_decide_eq_true z2
              omega
            refine ⟨_, rfl, _, rfl, _, _, rfl, rfl, (sq h0).1, ?_⟩
            dsimp only
            rw [(sq h0).2]
            exact ⟨⟨2 * e, n / 2, r + e, rfl, hdiv, by omega, rfl⟩, le⟩
          · have h0 : n / 2 = 0 := Classical.byContradiction fun h => z2 (decide_eq_true (by omega))
            rw [h0] at hdiv
            refine ⟨⟨e, n / 2, r + e, rfl, ?_, he, rfl⟩, le⟩
            rw [h0]
            omega
        · have n1 : n % 2 = 0 := Classical.byContradiction fun h => z1 (decide_eq_true (congrArg V.int (by omega)))
          rw [n1, Nat.zero_mul, Nat.add_zero] at hdiv
          refine ⟨_, rfl, _, _, rfl, rfl, cdiv, ?_⟩
          dsimp only
          rw [half]
          refine ⟨_, rfl, _, _, rfl, rfl, _, rfl, ite2 (fun z2 => ?_) (fun z2 => ?_)⟩
          · have h0 : 0 < n / 2 := by
              have := of_decide_eq_true z2
              omega
            refine ⟨_, rfl, _, rfl, _, _, rfl, rfl, (sq h0).1, ?_⟩
            dsimp only
            rw [(sq h0).2]
            exact ⟨⟨2 * e, n / 2, r, rfl, hdiv, by omega, rfl⟩, le⟩
          · have h0 : n / 2 = 0 := Classical.byContradiction fun h => z2 (decide_eq_true (by omega))
            rw [h0] at hdiv
            refine ⟨⟨e, n / 2, r, rfl, ?_, he, rfl⟩, le⟩
            rw [h0]
            omega
      · have n0 : n = 0 := Classical.byContradiction fun h => z (decide_eq_true (by omega))
        subst n0
        refine ⟨_, rfl, ?_⟩
        have : r = m := by omega
        rw [this]
        exact q
    · rintro σ H' Q1 Q2 hq ⟨v, e, a1, a2, e1, e2, k, t, q1⟩
      exact ⟨v, e, a1, a2, e1, e2, k, t, hq _ _ q1⟩
/-! ### lowest terms -/
abbrev s_lowest_terms : Stmt := topS 12
abbrev n_lowest_terms : List Str := ["top", "under", "root", "shared"]
theorem sc_lowest_terms : FnScope n_lowest_terms ["top", "under", "root"] (defScope s_lowest_terms) := ⟨rfl, rfl, rfl, by decide +kernel, rfl, by decide +kernel, by decide +kernel⟩
def spLow : Sp := fun vs H Q _ => ∃ (t u r : Int) (N : Nat), vs = [.int t, .int u, .int r] ∧ u ≠ 0 ∧ r ≠ 0 ∧ r.natAbs < 2 ^ 1000 ∧ u.natAbs ∣ r.natAbs ^ N ∧ ∀ (p : Addr) (H' : Hp) (t' u' : Int), Same H H' → H p = none → H' p = some (.tup [.int t', .int u']) → Low t u t' u' → Q (.ref p) H'
theorem ok_lowest {f : Addr} {fd : FuncData} (F : Fun K "lowest_terms" "lowest_terms" s_lowest_terms f fd) (T : Tx mg) (c_common : Cal P w K mg base CX0 1 "common" ["one", "other"] spCom) : FnOk P w K mg base CX0 2 f fd ["top", "under", "root"] spLow := by
  refine F.ok sc_lowest_terms (fun vs H Q E h => ?_) (fun cdv A outer s H vs Q E hr h => ?_)
  · obtain ⟨t, u, r, N, rfl, _⟩ := h
    rfl
  · obtain ⟨t, u, r, N, rfl, u0, r0, rb, hN, q⟩ := h
    refine ⟨_, (pss_cons (ps_if (pt_cmpR op_eq (pv 0) pe_int (nomark _))
    (pss_one (ps_ret (pe_tup (pa_cons pe_int (pa_cons pe_int pa_nil)))))
    pss_nil)
  (pss_cons (ps_set (i := 3) sc_lowest_terms.nd rfl (.inl rfl) (pe_cal c_common hr (by rfl) (pa_cons (pe_cal c_common hr (by rfl) (pa_cons (pv 2) (pa_cons (pv 0) pa_nil))) (pa_cons (pv 1) pa_nil))))
  (pss_cons (ps_while PassesOwn.never (pt_cmpR op_ne (pv 3) pe_int (nomark _))
    (pss_cons (ps_aug (i := 0) sc_lowest_terms.nd rfl (.inl rfl) (pv 3) ip_fdivW)
    (pss_cons (ps_aug (i := 1) sc_lowest_terms.nd rfl (.inl rfl) (pv 3) ip_fdivW)
    (pss_one (ps_set (i := 3) sc_lowest_terms.nd rfl (.inl rfl) (pe_cal c_common hr (by rfl) (pa_cons (pe_cal c_common hr (by rfl) (pa_cons (pv 2) (pa_cons (pv 0) pa_nil))) (pa_cons (pv 1) pa_nil))))))))
  (pss_cons (ps_if (pt_cmpR op_lt (pv 1) pe_int (nomark _))
    (pss_one (ps_ret (pe_tup (pa_cons (pe_un un_neg (pv 0)) (pa_cons (pe_un un_neg (pv 1)) pa_nil)))))
    pss_nil)
  (pss_one (ps_ret (pe_tup (pa_cons (pv 0) (pa_cons (pv 1) pa_nil))))))))), ?_⟩
    refine ⟨.int t, rfl, rfl, _, rfl, ite2 (fun z => ?_) (fun z => ?_)⟩
    · have t0 : t = 0 := V.int.inj (of_decide_eq_true z)
      subst t0
      refine ⟨by show 2 ≤ sizeLine; decide, fun p ep => ?_⟩
      exact q p _ 0 1 (same_upd ep) ep upd_same ⟨by omega, by decide, by decide⟩
    have t0 : t ≠ 0 := fun h => z (decide_eq_true (congrArg V.int h))
    have gg : ∀ x y : Int, (((Nat.gcd r.natAbs x.natAbs : Nat) : Int)).natAbs = Nat.gcd r.natAbs x.natAbs := fun x y => rfl
    refine ⟨.int r, rfl, .int t, rfl, _, _, rfl, .int u, rfl, _, _, rfl, ?_⟩
    refine while_by (fun σ H' => ∃ x y : Int, σ = [some (.int x), some (.int y), some (.int r), some (.int (Nat.gcd (Nat.gcd r.natAbs x.natAbs) y.natAbs : Nat))] ∧ x * u = t * y ∧ x ≠ 0 ∧ y ≠ 0 ∧ y.natAbs ∣ r.natAbs ^ N ∧ H' = H) (fun σ _ => match σ with | [some (.int x), _, _, _] => x.natAbs | _ => 0) ⟨t, u, rfl, rfl, t0, u0, hN, rfl⟩ ?_ ?_
    · rintro σ H' ⟨x, y, rfl, hc, x0, y0, hd, rfl⟩
      generalize eg : Nat.gcd (Nat.gcd r.natAbs x.natAbs) y.natAbs = g
      have gx : g ∣ x.natAbs := by
        rw [← eg]
        exact Nat.dvd_trans (Nat.gcd_dvd_left ..) (Nat.gcd_dvd_right ..)
      have gy : g ∣ y.natAbs := by
        rw [← eg]
        exact Nat.gcd_dvd_right ..
      have gr : g ∣ r.natAbs := by
        rw [← eg]
        exact Nat.dvd_trans (Nat.gcd_dvd_left ..) (Nat.gcd_dvd_left ..)
      have g0 : 0 < g := Nat.pos_of_dvd_of_pos gx (by omega)
      refine ⟨.int g, rfl, rfl, _, rfl, ?_⟩
      by_cases g1 : g = 1
      · subst g1
        refine iteF ?_
        have cop : Nat.gcd x.natAbs y.natAbs = 1 := cop_root eg hd
        refine ⟨.int y, rfl, _, _, rfl, rfl, _, rfl, ite2 (fun z => ?_) (fun z => ?_)⟩
        · have z := of_decide_eq_true z
          refine ⟨.int x, rfl, _, rfl, .int y, rfl, _, rfl, by show 2 ≤ sizeLine; decide, fun p ep => ?_⟩
          refine q p _ (-x) (-y) (same_upd ep) ep upd_same ⟨?_, by omega, by rw [Int.natAbs_neg, Int.natAbs_neg]; exact cop⟩
          rw [Int.neg_mul, Int.mul_neg, hc]
        · have z : ¬ y < 0 := fun h => z (decide_eq_true h)
          refine ⟨.int x, rfl, .int y, rfl, by show 2 ≤ sizeLine; decide, fun p ep => ?_⟩
          exact q p _ x y (same_upd ep) ep upd_same ⟨hc, by omega, cop⟩
      · rw [decide_eq_false (fun z : V.int (g : Int) = V.int 1 => g1 (by injection z with z; omega))]
        have cd : ∀ i : Int, CDivW i (g : Int) := fun i => wide_div (by omega) (Nat.lt_of_le_of_lt (Nat.le_of_dvd (by omega) gr) rb) (by decide) (by decide)
        obtain ⟨x', ex⟩ : (g : Int) ∣ x := Int.ofNat_dvd_left.mpr gx
        obtain ⟨y', ey⟩ : (g : Int) ∣ y := Int.ofNat_dvd_left.mpr gy
        have dx : x / (g : Int) = x' := by rw [ex]; exact Int.mul_ediv_cancel_left _ (by omega)
        have dy : y / (g : Int) = y' := by rw [ey]; exact Int.mul_ediv_cancel_left _ (by omega)
        refine iteT ⟨_, rfl, _, rfl, _, _, rfl, rfl, cd _, ?_⟩
        refine ⟨_, rfl, _, rfl, _, _, rfl, rfl, cd _, ?_⟩
        dsimp only
        rw [dx, dy]
        refine ⟨.int r, rfl, .int x', rfl, _, _, rfl, .int y', rfl, _, _, rfl, ?_⟩
        have x'0 : x' ≠ 0 := fun h => x0 (by rw [ex, h, Int.mul_zero])
        have y'0 : y' ≠ 0 := fun h => y0 (by rw [ey, h, Int.mul_zero])
        refine ⟨⟨x', y', rfl, ?_, x'0, y'0, ?_, rfl⟩, ?_⟩
        · have : (g : Int) * (x' * u) = (g : Int) * (t * y') := by
            rw [← Int.mul_assoc, ← ex, hc, ey, Int.mul_left_comm]
          exact Int.eq_of_mul_eq_mul_left (by omega) this
        · refine Nat.dvd_trans ?_ hd
          rw [ey, Int.natAbs_mul]
          exact Nat.dvd_mul_left ..
        · show x'.natAbs < x.natAbs
          rw [ex, Int.natAbs_mul]
          have : 0 < x'.natAbs := by omega
          have g2 : 2 ≤ g := by omega
          show x'.natAbs < g * x'.natAbs
          exact Nat.lt_of_lt_of_le (by omega) (Nat.mul_le_mul_right _ g2)
    · rintro σ H' Q1 Q2 hq ⟨v, e, e2, k, t, q1⟩
      exact ⟨v, e, e2, k, t, hq _ _ q1⟩
end
end Bw
set_option Elab.async false
set_option linter.all false
set_option maxRecDepth 100000
set_option maxHeartbeats 4000000
namespace Bw
open PySem PySem.Spec PyProof.Rows L2
theorem op_fdivNW {X : Cx} : OpR X (binaryOp .FloorDiv) (rI (fun _ j => j ≠ 0 ∧ j.natAbs.log2 < 9000) fun i j => .int (i.fdiv j)) := opI fun _ _ _ _ _ _ _ hc q => floordiv_int hc.1 q (.inl (PyProof.noPylong_of_log2 hc.2))
theorem gcd_fmod (x y : Int) : Nat.gcd y.natAbs (x.fmod y).natAbs = Nat.gcd x.natAbs y.natAbs := by
  have e := Int.mul_fdiv_add_fmod x y
  apply Nat.dvd_antisymm
  · have h1 : ((Nat.gcd y.natAbs (x.fmod y).natAbs : Nat) : Int) ∣ y := Int.ofNat_dvd_left.mpr (Nat.gcd_dvd_left ..)
    have h2 : ((Nat.gcd y.natAbs (x.fmod y).natAbs : Nat) : Int) ∣ x.fmod y := Int.ofNat_dvd_left.mpr (Nat.gcd_dvd_right ..)
    have h3 : ((Nat.gcd y.natAbs (x.fmod y).natAbs : Nat) : Int) ∣ x := by
      have h4 := Int.dvd_add (Int.dvd_trans h1 (Int.dvd_mul_right y (x.fdiv y))) h2
      rw [e] at h4
      exact h4
    exact Nat.dvd_gcd (Int.ofNat_dvd_left.mp h3) (Nat.gcd_dvd_left ..)
  · have h1 : ((Nat.gcd x.natAbs y.natAbs : Nat) : Int) ∣ x := Int.ofNat_dvd_left.mpr (Nat.gcd_dvd_left ..)
    have h2 : ((Nat.gcd x.natAbs y.natAbs : Nat) : Int) ∣ y := Int.ofNat_dvd_left.mpr (Nat.gcd_dvd_right ..)
    have h3 : ((Nat.gcd x.natAbs y.natAbs : Nat) : Int) ∣ x.fmod y := by
      have e2 : x.fmod y = x - y * x.fdiv y := by omega
      rw [e2]
      exact Int.dvd_sub h1 (Int.dvd_trans h2 (Int.dvd_mul_right ..))
    exact Nat.dvd_gcd (Nat.gcd_dvd_right ..) (Int.ofNat_dvd_left.mp h3)
theorem fmod_lt {x y : Int} (h : y ≠ 0) : (x.fmod y).natAbs < y.natAbs := by
  have h1 := Int.emod_nonneg x h
  have h2 := Int.emod_lt x h
  rw [Int.fmod_eq_emod]
  split
  · omega
  · next c =>
    have c1 : ¬ 0 ≤ y := fun z => c (.inl z)
    have c2 : x % y ≠ 0 := fun z => c (.inr (Int.dvd_of_emod_eq_zero z))
    omega
theorem Low.le {t u t' u' : Int} (u0 : u ≠ 0) (h : Low t u t' u') : t'.natAbs ≤ t.natAbs ∧ u'.natAbs ≤ u.natAbs := by
  have e : t'.natAbs * u.natAbs = t.natAbs * u'.natAbs := by rw [← Int.natAbs_mul, ← Int.natAbs_mul, h.eq]
  have hp := h.pos
  have h2 : u'.natAbs ∣ u.natAbs := Nat.Coprime.dvd_of_dvd_mul_left (show Nat.Coprime u'.natAbs t'.natAbs by rw [Nat.coprime_comm]; exact h.cop) (by rw [e]; exact Nat.dvd_mul_left ..)
  have l2 := Nat.le_of_dvd (by omega) h2
  refine ⟨?_, l2⟩
  by_cases z : t = 0
  · subst z
    have : t'.natAbs * u.natAbs = 0 := by rw [e]; exact Nat.zero_mul _
    rcases Nat.mul_eq_zero.mp this with h | h
    · omega
    · omega
  · have h1 : t'.natAbs ∣ t.natAbs := Nat.Coprime.dvd_of_dvd_mul_right (show Nat.Coprime t'.natAbs u'.natAbs from h.cop) (by rw [← e]; exact Nat.dvd_mul_right ..)
    exact Nat.le_of_dvd (by omega) h1
/-- a part at a place -/
def PartAt (H : Hp) (a : Addr) (t u : Int) : Prop := H a = some (.tup [.int t, .int u])
section
variable {P : Program} {w : World} {K : PySem.W.Frag} {mg : Str → Option Value} {base : Heap}
abbrev s_law_gcd : Stmt := topS 43
abbrev n_law_gcd : List Str := ["_law_one", "_law_other"]
theorem sc_law_gcd : FnScope n_law_gcd ["_law_one", "_law_other"] (defScope s_law_gcd) := ⟨rfl, rfl, rfl, by decide +kernel, rfl, by decide +kernel, by decide +kernel⟩
theorem ok_lgcd {f : Addr} {fd : FuncData} {k : Nat} (F : Fun K "_law_gcd" "_law_gcd" s_law_gcd f fd) (T : Tx mg) : FnOk P w K mg base CX0 (k + 1) f fd ["_law_one", "_law_other"] spCom := by
  refine F.ok sc_law_gcd (fun vs H Q E h => ?_) (fun cdv A outer s H vs Q E hr h => ?_)
  · obtain ⟨a, b, rfl, _⟩ := h
    rfl
  · obtain ⟨a, b, rfl, q⟩ := h
    refine ⟨_, (pss_cons (ps_while PassesOwn.never (pt_truth (pv 1) (by intro _; rfl))
    (pss_one (ps_par (i := 0) (j := 1) (by rfl) sc_law_gcd.nd rfl rfl (by decide) rfl rfl (pa_cons (pv 1) (pa_cons (pe_op op_modN (pv 0) (pv 1)) pa_nil)) (by rfl))))
  (pss_one (ps_ret (pe_callB call_abs (by rfl) T.abs (by decide +kernel) (pa_cons (pv 0) pa_nil))))), ?_⟩
    refine while_by (fun σ H' => ∃ x y : Int, σ = [some (.int x), some (.int y)] ∧ Nat.gcd x.natAbs y.natAbs = Nat.gcd a.natAbs b.natAbs ∧ H' = H) (fun σ _ => match σ with | [_, some (.int y)] => y.natAbs | _ => 0) ⟨a, b, rfl, rfl, rfl⟩ ?_ ?_
    · rintro σ H' ⟨x, y, rfl, hg, rfl⟩
      refine ⟨.int y, rfl, (y != 0), rfl, ?_⟩
      by_cases hy : y = 0
      · subst hy
        refine iteF ⟨_, rfl, _, rfl, ?_⟩
        rw [abs_nat]
        rw [show ((0 : Int)).natAbs = 0 from rfl, Nat.gcd_zero_right] at hg
        rw [hg]
        exact q
      · have e : (y != 0) = true := by simp [hy]
        rw [e]
        refine iteT ⟨_, rfl, _, rfl, _, rfl, _, _, rfl, rfl, hy, _, _, rfl, ?_, ?_⟩
        · exact ⟨y, x.fmod y, rfl, (gcd_fmod x y).trans hg, rfl⟩
        · exact fmod_lt hy
    · rintro σ H' Q1 Q2 hq ⟨v, e, b', h1, h2⟩
      exact ⟨v, e, b', h1, hq _ _ h2⟩
abbrev s_law_low : Stmt := topS 44
abbrev n_law_low : List Str := ["_law_top", "_law_under", "_law_by"]
theorem sc_law_low : FnScope n_law_low ["_law_top", "_law_under"] (defScope s_law_low) := ⟨rfl, rfl, rfl, by decide +kernel, rfl, by decide +kernel, by decide +kernel⟩
def spLLow : Sp := fun vs H Q _ => ∃ (t u : Int), vs = [.int t, .int u] ∧ u ≠ 0 ∧ u.natAbs < 2 ^ 8000 ∧ ∀ (p : Addr) (H' : Hp) (t' u' : Int), Same H H' → H p = none → PartAt H' p t' u' → Low t u t' u' → Q (.ref p) H'
theorem low_of {t u by' : Int} {g : Nat} (u0 : u ≠ 0) (eg : Nat.gcd t.natAbs u.natAbs = g) (hb : by' = (g : Int) ∧ 0 < u ∨ by' = -(g : Int) ∧ u < 0) : by' ≠ 0 ∧ Low t u (t.fdiv by') (u.fdiv by') := by
  have gu : g ∣ u.natAbs := eg ▸ Nat.gcd_dvd_right ..
  have gt : g ∣ t.natAbs := eg ▸ Nat.gcd_dvd_left ..
  have g0 : 0 < g := Nat.pos_of_dvd_of_pos gu (by omega)
  have b0 : by' ≠ 0 := by omega
  have bn : by'.natAbs = g := by omega
  obtain ⟨x, ex⟩ : by' ∣ t := Int.natAbs_dvd_natAbs.mp (by rw [bn]; exact gt)
  obtain ⟨y, ey⟩ : by' ∣ u := Int.natAbs_dvd_natAbs.mp (by rw [bn]; exact gu)
  have dx : t.fdiv by' = x := by rw [ex, Int.mul_comm]; exact Int.mul_fdiv_cancel _ b0
  have dy : u.fdiv by' = y := by rw [ey, Int.mul_comm]; exact Int.mul_fdiv_cancel _ b0
  rw [dx, dy]
  refine ⟨b0, ?_, ?_, ?_⟩
  · rw [ex, ey, Int.mul_left_comm, Int.mul_assoc]
  · rcases hb with ⟨h1, h2⟩ | ⟨h1, h2⟩
    · have hb0 : 0 < by' := by omega
      rw [ey] at h2
      exact Int.pos_of_mul_pos_left (by rw [Int.mul_comm]; exact h2) (by omega)
    · have hb0 : by' < 0 := by omega
      rw [ey] at h2
      refine Classical.byContradiction fun z => ?_
      have := Int.mul_nonneg_of_nonpos_of_nonpos (show by' ≤ 0 by omega) (show y ≤ 0 by omega)
      omega
  · rw [ex, ey, Int.natAbs_mul, Int.natAbs_mul, bn, Nat.gcd_mul_left] at eg
    have e2 : g * Nat.gcd x.natAbs y.natAbs = g * 1 := by rw [eg, Nat.mul_one]
    exact Nat.eq_of_mul_eq_mul_left g0 e2
theorem ok_llow {f : Addr} {fd : FuncData} (F : Fun K "_law_low" "_law_low" s_law_low f fd) (T : Tx mg) (c_law_gcd : Cal P w K mg base CX0 1 "_law_gcd" ["_law_one", "_law_other"] spCom) : FnOk P w K mg base CX0 2 f fd ["_law_top", "_law_under"] spLLow := by
  refine F.ok sc_law_low (fun vs H Q E h => ?_) (fun cdv A outer s H vs Q E hr h => ?_)
  · obtain ⟨t, u, rfl, _⟩ := h
    rfl
  · obtain ⟨t, u, rfl, u0, ub, q⟩ := h
    refine ⟨_, (pss_cons (ps_set (i := 2) sc_law_low.nd rfl (.inl rfl) (pe_cal c_law_gcd hr (by rfl) (pa_cons (pv 0) (pa_cons (pv 1) pa_nil))))
  (pss_cons (ps_if (pt_cmpR op_lt (pv 1) pe_int (nomark _))
    (pss_one (ps_set (i := 2) sc_law_low.nd rfl (.inl rfl) (pe_op op_sub pe_int (pv 2))))
    pss_nil)
  (pss_one (ps_ret (pe_tup (pa_cons (pe_op op_fdivNW (pv 0) (pv 2)) (pa_cons (pe_op op_fdivNW (pv 1) (pv 2)) pa_nil))))))), ?_⟩
    refine ⟨.int t, rfl, .int u, rfl, _, _, rfl, ?_⟩
    generalize eg : Nat.gcd t.natAbs u.natAbs = g
    have gl : g ≤ u.natAbs := Nat.le_of_dvd (by omega) (eg ▸ Nat.gcd_dvd_right ..)
    have lg : ∀ b : Int, b.natAbs = g → b.natAbs.log2 < 9000 := fun b h => by
      rw [h]
      exact Nat.lt_of_lt_of_le (PySem.Flt.log2_lt_of (by decide) (Nat.lt_of_le_of_lt gl ub)) (by decide)
    refine ⟨.int u, rfl, _, _, rfl, rfl, _, rfl, ite2 (fun z => ?_) (fun z => ?_)⟩
    · have z := of_decide_eq_true z
      have e0 : (0 : Int) - (g : Int) = -(g : Int) := by omega
      refine ⟨_, rfl, _, _, rfl, rfl, ?_⟩
      dsimp only
      rw [e0]
      obtain ⟨b0, L⟩ := low_of u0 eg (.inr ⟨rfl, z⟩)
      have hl := lg (-(g : Int)) (by omega)
      refine ⟨_, rfl, _, rfl, _, _, rfl, rfl, ⟨b0, hl⟩, _, rfl, _, rfl, _, _, rfl, rfl, ⟨b0, hl⟩, by show 2 ≤ sizeLine; decide, fun p ep => ?_⟩
      exact q p _ _ _ (same_upd ep) ep upd_same L
    · have z : ¬ u < 0 := fun h => z (decide_eq_true h)
      obtain ⟨b0, L⟩ := low_of u0 eg (.inl ⟨rfl, by omega⟩)
      have hl := lg (g : Int) rfl
      refine ⟨_, rfl, _, rfl, _, _, rfl, rfl, ⟨b0, hl⟩, _, rfl, _, rfl, _, _, rfl, rfl, ⟨b0, hl⟩, by show 2 ≤ sizeLine; decide, fun p ep => ?_⟩
      exact q p _ _ _ (same_upd ep) ep upd_same L
theorem PartAt.sq {H : Hp} {a : Addr} {t u : Int} (h : PartAt H a t u) : SqT K H a [.int t, .int u] := SqT.of h
abbrev s_law_mul : Stmt := topS 46
abbrev n_law_mul : List Str := ["_law_one", "_law_other"]
theorem sc_law_mul : FnScope n_law_mul ["_law_one", "_law_other"] (defScope s_law_mul) := ⟨rfl, rfl, rfl, by decide +kernel, rfl, by decide +kernel, by decide +kernel⟩
/-- two parts, below bounds -/
def spPP (g : Int → Int → Int → Int → Int) : Sp := fun vs H Q _ => ∃ (a b : Addr) (t u x y : Int), vs = [.ref a, .ref b] ∧ PartAt H a t u ∧ PartAt H b x y ∧ u ≠ 0 ∧ y ≠ 0 ∧ t.natAbs < 2 ^ 3900 ∧ u.natAbs < 2 ^ 3900 ∧ x.natAbs < 2 ^ 3900 ∧ y.natAbs < 2 ^ 3900 ∧
  ∀ (p : Addr) (H' : Hp) (t' u' : Int), Same H H' → H p = none → PartAt H' p t' u' → Low (g t u x y) (u * y) t' u' → Q (.ref p) H'
theorem ok_lmulP {f : Addr} {fd : FuncData} (F : Fun K "_law_mul" "_law_mul" s_law_mul f fd) (T : Tx mg) (c_law_low : Cal P w K mg base CX0 2 "_law_low" ["_law_top", "_law_under"] spLLow) : FnOk P w K mg base CX0 3 f fd ["_law_one", "_law_other"] (spPP fun t _ x _ => t * x) := by
  refine F.ok sc_law_mul (fun vs H Q E h => ?_) (fun cdv A outer s H vs Q E hr h => ?_)
  · obtain ⟨a, b, t, u, x, y, rfl, _⟩ := h
    rfl
  · obtain ⟨a, b, t, u, x, y, rfl, hA, hB, u0, y0, bt, bu, bx, yb, q⟩ := h
    refine ⟨_, (pss_one (ps_ret (pe_cal c_law_low hr (by rfl) (pa_cons (pe_op op_mulW (pe_ix (i_tup (K := K)) (pv 0) pe_int (fun _ _ => rfl)) (pe_ix (i_tup (K := K)) (pv 1) pe_int (fun _ _ => rfl))) (pa_cons (pe_op op_mulW (pe_ix (i_tup (K := K)) (pv 0) pe_int (fun _ _ => rfl)) (pe_ix (i_tup (K := K)) (pv 1) pe_int (fun _ _ => rfl))) pa_nil))))), ?_⟩
    refine ⟨.ref a, rfl, a, _, 0, .int t, rfl, rfl, hA.sq, rfl, .ref b, rfl, b, _, 0, .int x, rfl, rfl, hB.sq, rfl, _, _, rfl, rfl, wide_mul bt bx (by decide) (by decide) (by decide), ?_⟩
    refine ⟨.ref a, rfl, a, _, 1, .int u, rfl, rfl, hA.sq, rfl, .ref b, rfl, b, _, 1, .int y, rfl, rfl, hB.sq, rfl, _, _, rfl, rfl, wide_mul bu yb (by decide) (by decide) (by decide), ?_⟩
    exact ⟨_, _, rfl, Int.mul_ne_zero u0 y0, Nat.lt_of_lt_of_le (wide_lt bu yb) (Nat.pow_le_pow_right (by decide) (by decide)), q⟩
abbrev s_law_add : Stmt := topS 45
abbrev n_law_add : List Str := ["_law_one", "_law_other"]
theorem sc_law_add : FnScope n_law_add ["_law_one", "_law_other"] (defScope s_law_add) := ⟨rfl, rfl, rfl, by decide +kernel, rfl, by decide +kernel, by decide +kernel⟩
theorem ok_ladd {f : Addr} {fd : FuncData} (F : Fun K "_law_add" "_law_add" s_law_add f fd) (T : Tx mg) (c_law_low : Cal P w K mg base CX0 2 "_law_low" ["_law_top", "_law_under"] spLLow) : FnOk P w K mg base CX0 3 f fd ["_law_one", "_law_other"] (spPP fun t u x y => t * y + x * u) := by
  refine F.ok sc_law_add (fun vs H Q E h => ?_) (fun cdv A outer s H vs Q E hr h => ?_)
  · obtain ⟨a, b, t, u, x, y, rfl, _⟩ := h
    rfl
  · obtain ⟨a, b, t, u, x, y, rfl, hA, hB, u0, y0, bt, bu, bx, yb, q⟩ := h
    refine ⟨_, (pss_one (ps_ret (pe_cal c_law_low hr (by rfl) (pa_cons (pe_op op_add (pe_op op_mulW (pe_ix (i_tup (K := K)) (pv 0) pe_int (fun _ _ => rfl)) (pe_ix (i_tup (K := K)) (pv 1) pe_int (fun _ _ => rfl))) (pe_op op_mulW (pe_ix (i_tup (K := K)) (pv 1) pe_int (fun _ _ => rfl)) (pe_ix (i_tup (K := K)) (pv 0) pe_int (fun _ _ => rfl)))) (pa_cons (pe_op op_mulW (pe_ix (i_tup (K := K)) (pv 0) pe_int (fun _ _ => rfl)) (pe_ix (i_tup (K := K)) (pv 1) pe_int (fun _ _ => rfl))) pa_nil))))), ?_⟩
    refine ⟨.ref a, rfl, a, _, 0, .int t, rfl, rfl, hA.sq, rfl, .ref b, rfl, b, _, 1, .int y, rfl, rfl, hB.sq, rfl, _, _, rfl, rfl, wide_mul bt yb (by decide) (by decide) (by decide), ?_⟩
    refine ⟨.ref b, rfl, b, _, 0, .int x, rfl, rfl, hB.sq, rfl, .ref a, rfl, a, _, 1, .int u, rfl, rfl, hA.sq, rfl, _, _, rfl, rfl, wide_mul bx bu (by decide) (by decide) (by decide), _, _, rfl, rfl, ?_⟩
    refine ⟨.ref a, rfl, a, _, 1, .int u, rfl, rfl, hA.sq, rfl, .ref b, rfl, b, _, 1, .int y, rfl, rfl, hB.sq, rfl, _, _, rfl, rfl, wide_mul bu yb (by decide) (by decide) (by decide), ?_⟩
    exact ⟨_, _, rfl, Int.mul_ne_zero u0 y0, Nat.lt_of_lt_of_le (wide_lt bu yb) (Nat.pow_le_pow_right (by decide) (by decide)), q⟩
abbrev s_law_pow : Stmt := topS 47
abbrev n_law_pow : List Str := ["_law_one", "_law_many", "_law_top", "_law_under", "_law_turn"]
theorem sc_law_pow : FnScope n_law_pow ["_law_one", "_law_many"] (defScope s_law_pow) := ⟨rfl, rfl, rfl, by decide +kernel, rfl, by decide +kernel, by decide +kernel⟩
/-- what a part's power is: x by y -/
def PowOf (t u m x y : Int) : Prop := 0 < y ∧ (0 ≤ m → x = t ^ m.toNat ∧ y = u ^ m.toNat) ∧ (m < 0 → Low (u ^ (-m).toNat) (t ^ (-m).toNat) x y)
def spLPow : Sp := fun vs H Q _ => ∃ (a : Addr) (t u m : Int), vs = [.ref a, .int m] ∧ PartAt H a t u ∧ t.natAbs ≤ 16 ∧ u.natAbs ≤ 16 ∧ 0 < u ∧ m.natAbs ≤ 8 ∧ (m < 0 → t ≠ 0) ∧
  ∀ (p : Addr) (H' : Hp) (x y : Int), Same H H' → H p = none → PartAt H' p x y → PowOf t u m x y → Q (.ref p) H'
theorem ok_lpow {f : Addr} {fd : FuncData} (F : Fun K "_law_pow" "_law_pow" s_law_pow f fd) (T : Tx mg) (c_law_low : Cal P w K mg base CX0 2 "_law_low" ["_law_top", "_law_under"] spLLow) : FnOk P w K mg base CX0 3 f fd ["_law_one", "_law_many"] spLPow := by
  refine F.ok sc_law_pow (fun vs H Q E h => ?_) (fun cdv A outer s H vs Q E hr h => ?_)
  · obtain ⟨a, t, u, m, rfl, _⟩ := h
    rfl
  · obtain ⟨a, t, u, m, rfl, hA, bt, bu, u0, bm, t0, q⟩ := h
    refine ⟨_, (pss_cons (ps_asg (pe_tup (pa_cons pe_int (pa_cons pe_int pa_nil))) (g_tup (K := K) (n := 2) rfl (pgs_cons (pg_name (i := 2) sc_law_pow.nd rfl (.inl rfl)) (pgs_cons (pg_name (i := 3) sc_law_pow.nd rfl (.inl rfl)) pgs_nil))))
  (pss_cons (ps_for PassesOwn.never rfl (pi_range1 (by rfl) T.range (pa_cons (pe_callB call_abs (by rfl) T.abs (by decide +kernel) (pa_cons (pv 1) pa_nil)) pa_nil)) (pg_name (i := 4) sc_law_pow.nd rfl (.inl rfl))
    (pss_one (ps_par (i := 2) (j := 3) (by rfl) sc_law_pow.nd rfl rfl (by decide) rfl rfl (pa_cons (pe_op op_mulW (pv 2) (pe_ix (i_tup (K := K)) (pv 0) pe_int (fun _ _ => rfl))) (pa_cons (pe_op op_mulW (pv 3) (pe_ix (i_tup (K := K)) (pv 0) pe_int (fun _ _ => rfl))) pa_nil)) (by rfl))))
  (pss_one (ps_ret (pe_ifExp (pt_cmpR op_ge (pv 1) pe_int (nomark _)) (pe_tup (pa_cons (pv 2) (pa_cons (pv 3) pa_nil))) (pe_cal c_law_low hr (by rfl) (pa_cons (pv 3) (pa_cons (pv 2) pa_nil)))))))), ?_⟩
    refine ⟨by show 2 ≤ sizeLine; decide, fun w0 ew => ?_⟩
    refine ⟨w0, _, rfl, SqT.of upd_same, rfl, _, _, rfl, _, _, rfl, rfl, ?_⟩
    have sw := same_upd (o := .tup [V.int 1, .int 1]) ew
    have hA0 := hA
    replace hA := sw _ _ hA
    refine ⟨.int m, rfl, m, rfl, ?_⟩
    rw [abs_nat]
    refine ⟨m.natAbs, rfl, by omega, by omega, ?_⟩
    have pb : ∀ (b : Int) (e : Nat), b.natAbs ≤ 16 → e ≤ 8 → (b ^ e).natAbs < 2 ^ 33 := fun b e h k => pow_lt h k
    refine for_range (fun i σ H' => ∃ y4 : Option V, σ = [some (.ref a), some (.int m), some (.int (t ^ i)), some (.int (u ^ i)), y4] ∧ H' = upd H w0 (.tup [V.int 1, .int 1])) ⟨_, by rw [Int.pow_zero, Int.pow_zero]; rfl, rfl⟩ ?_ ?_
    · rintro i σ H1 hi ⟨y4, rfl, rfl⟩
      have hi : i < m.natAbs := hi
      refine ⟨.int (t ^ i), rfl, .ref a, rfl, a, _, 0, .int t, rfl, rfl, PartAt.sq hA, rfl, _, _, rfl, rfl, wide_mul (b := 8) (pb _ _ bt (by omega)) (Nat.lt_of_le_of_lt bt (by decide)) (by decide) (by decide) (by decide), ?_⟩
      refine ⟨.int (u ^ i), rfl, .ref a, rfl, a, _, 1, .int u, rfl, rfl, PartAt.sq hA, rfl, _, _, rfl, rfl, wide_mul (b := 8) (pb _ _ bu (by omega)) (Nat.lt_of_le_of_lt bu (by decide)) (by decide) (by decide) (by decide), _, _, rfl, ?_⟩
      exact ⟨_, by rw [Int.pow_succ, Int.pow_succ]; rfl, rfl⟩
    · rintro σ H1 ⟨y4, rfl, rfl⟩
      have upos : ∀ k : Nat, 0 < u ^ k := fun k => Int.pow_pos u0
      refine ⟨.int m, rfl, _, _, rfl, rfl, _, rfl, ite2 (fun z => ?_) (fun z => ?_)⟩
      · have z : 0 ≤ m := of_decide_eq_true z
        refine ⟨_, rfl, _, rfl, by show 2 ≤ sizeLine; decide, fun p ep => ?_⟩
        have en : m.natAbs = m.toNat := by omega
        exact q p _ _ _ (sw.trans (same_upd ep)) (sw.free ep) upd_same ⟨upos _, fun _ => by rw [en]; exact ⟨rfl, rfl⟩, fun h => absurd z (by omega)⟩
      · have z : m < 0 := Int.not_le.mp fun h => z (decide_eq_true h)
        have en : m.natAbs = (-m).toNat := by omega
        refine ⟨_, rfl, _, rfl, _, _, rfl, Int.pow_ne_zero (t0 z), Nat.lt_of_lt_of_le (pb _ _ bt (by omega)) (Nat.pow_le_pow_right (by decide) (by decide)), fun p H2 x y s2 p0 hp L => ?_⟩
        exact q p H2 x y (sw.trans s2) (sw.free p0) hp ⟨L.pos, fun h => absurd z (by omega), fun _ => by rw [← en]; exact L⟩
end
end Bw
set_option Elab.async false
set_option linter.all false
set_option maxRecDepth 100000
set_option maxHeartbeats 8000000
namespace Bw
open PySem PySem.Spec PyProof.Rows L2
/-! ### worths: tops over unders to powers -/
abbrev gI (l : List Int) (j : Nat) : Int := l.getD j 0
abbrev gP (ts : List (Int × Int)) (j : Nat) : Int × Int := ts.getD j (0, 1)
def fN (l m p : List Int) (ts : List (Int × Int)) (j : Nat) : Int := (gP ts j).1 ^ (gI p j - gI l j).toNat * (gP ts j).2 ^ (gI m j - gI p j).toNat
def fD (l m : List Int) (ts : List (Int × Int)) (j : Nat) : Int := (gP ts j).1 ^ (-(gI l j)).toNat * (gP ts j).2 ^ (gI m j).toNat
def numN (l m : List Int) (ts : List (Int × Int)) (p : List Int) : Nat → Int
  | 0 => 1
  | j + 1 => numN l m ts p j * fN l m p ts j
def denN (l m : List Int) (ts : List (Int × Int)) : Nat → Int
  | 0 => 1
  | j + 1 => denN l m ts j * fD l m ts j
structure Wt (n : Nat) (l m : List Int) (ts : List (Int × Int)) : Prop where
  lt : ts.length = n
  n8 : n ≤ 8
  bl : ∀ j, j < n → -4 ≤ gI l j ∧ gI l j ≤ 0
  bm : ∀ j, j < n → 0 ≤ gI m j ∧ gI m j ≤ 4
  part : ∀ j, j < n → (gP ts j).1.natAbs ≤ 16 ∧ (gP ts j).2.natAbs ≤ 16 ∧ 0 < (gP ts j).2 ∧ (gI l j < 0 → (gP ts j).1 ≠ 0)
def Adm (n : Nat) (l m p : List Int) : Prop := p.length = n ∧ ∀ j, j < n → gI l j ≤ gI p j ∧ gI p j ≤ gI m j
theorem fD_ne {n : Nat} {l m : List Int} {ts : List (Int × Int)} (W : Wt n l m ts) {j : Nat} (hj : j < n) : fD l m ts j ≠ 0 := by
  obtain ⟨_, _, u0, t0⟩ := W.part j hj
  have bl := W.bl j hj
  unfold fD
  refine Int.mul_ne_zero ?_ (Int.pow_ne_zero (by omega))
  by_cases z : gI l j = 0
  · rw [z]
    exact (by decide : (1 : Int) ≠ 0) ∘ fun h => by
      have e : (gP ts j).1 ^ (-(0 : Int)).toNat = 1 := Int.pow_zero _
      rw [← h, e]
  · exact Int.pow_ne_zero (t0 (by omega))
theorem denN_ne {n : Nat} {l m : List Int} {ts : List (Int × Int)} (W : Wt n l m ts) : ∀ j, j ≤ n → denN l m ts j ≠ 0
  | 0, _ => Int.one_ne_zero
  | j + 1, h => Int.mul_ne_zero (denN_ne W j (by omega)) (fD_ne W h)
/-- a power of a part, by what the other reckoning has -/
theorem pow_cross {t u m x y l h : Int} (P : PowOf t u m x y) (l0 : l ≤ 0) (h0 : 0 ≤ h) (hl : l ≤ m) (hh : m ≤ h) (t0 : m < 0 → t ≠ 0) : x * (t ^ (-l).toNat * u ^ h.toNat) = t ^ (m - l).toNat * u ^ (h - m).toNat * y := by
  obtain ⟨_, P1, P2⟩ := P
  by_cases z : 0 ≤ m
  · obtain ⟨rfl, rfl⟩ := P1 z
    have e1 : (m - l).toNat = m.toNat + (-l).toNat := by omega
    have e2 : h.toNat = (h - m).toNat + m.toNat := by omega
    rw [e1, e2, Int.pow_add, Int.pow_add]
    simp only [Int.mul_assoc]
  · have L := P2 (by omega)
    have e := L.eq
    have e1 : (-l).toNat = (-m).toNat + (m - l).toNat := by omega
    have e2 : (h - m).toNat = (-m).toNat + h.toNat := by omega
    rw [e1, e2, Int.pow_add, Int.pow_add]
    calc x * (t ^ (-m).toNat * t ^ (m - l).toNat * u ^ h.toNat) = (x * t ^ (-m).toNat) * (t ^ (m - l).toNat * u ^ h.toNat) := by simp only [Int.mul_assoc]
      _ = (u ^ (-m).toNat * y) * (t ^ (m - l).toNat * u ^ h.toNat) := by rw [e]
      _ = t ^ (m - l).toNat * (u ^ (-m).toNat * u ^ h.toNat) * y := by
        simp only [Int.mul_comm, Int.mul_left_comm, Int.mul_assoc]
theorem powOf_le {t u m x y : Int} (P : PowOf t u m x y) (bt : t.natAbs ≤ 16) (bu : u.natAbs ≤ 16) (bm : m.natAbs ≤ 4) (t0 : m < 0 → t ≠ 0) : x.natAbs < 2 ^ 17 ∧ y.natAbs < 2 ^ 17 := by
  have pb : ∀ (b : Int) (e : Nat), b.natAbs ≤ 16 → e ≤ 4 → (b ^ e).natAbs < 2 ^ 17 := fun b e h k => by
    rw [Int.natAbs_pow]
    have h1 : b.natAbs ^ e ≤ 16 ^ e := Nat.pow_le_pow_left h e
    have h2 : (16 : Nat) ^ e ≤ 16 ^ 4 := Nat.pow_le_pow_right (by decide) k
    exact Nat.lt_of_le_of_lt (Nat.le_trans h1 h2) (by decide)
  obtain ⟨_, P1, P2⟩ := P
  by_cases z : 0 ≤ m
  · obtain ⟨rfl, rfl⟩ := P1 z
    exact ⟨pb _ _ bt (by omega), pb _ _ bu (by omega)⟩
  · obtain ⟨k1, k2⟩ := (P2 (by omega)).le (Int.pow_ne_zero (t0 (by omega)))
    exact ⟨Nat.lt_of_le_of_lt k1 (pb _ _ bu (by omega)), Nat.lt_of_le_of_lt k2 (pb _ _ bt (by omega))⟩
/-- one more factor -/
theorem step_mul {a b x y a' b' D N d k c : Int} (h1 : a * D = c * N * b) (h2 : x * d = k * y) (L : Low (a * x) (b * y) a' b') (b0 : b ≠ 0) (y0 : y ≠ 0) : a' * (D * d) = c * (N * k) * b' := by
  have e := L.eq
  have : (a' * (D * d)) * (b * y) = (c * (N * k) * b') * (b * y) := by
    calc (a' * (D * d)) * (b * y) = (a' * (b * y)) * (D * d) := by simp only [Int.mul_comm, Int.mul_left_comm, Int.mul_assoc]
      _ = (a * x * b') * (D * d) := by rw [e]
      _ = (a * D) * (x * d) * b' := by simp only [Int.mul_comm, Int.mul_left_comm, Int.mul_assoc]
      _ = (c * N * b) * (k * y) * b' := by rw [h1, h2]
      _ = (c * (N * k) * b') * (b * y) := by simp only [Int.mul_comm, Int.mul_left_comm, Int.mul_assoc]
  exact Int.eq_of_mul_eq_mul_right (Int.mul_ne_zero b0 y0) this
/-- one more summand -/
theorem step_add {f g x y f' g' D S N : Int} (h1 : f * D = S * g) (h2 : x * D = N * y) (L : Low (f * y + x * g) (g * y) f' g') (g0 : g ≠ 0) (y0 : y ≠ 0) : f' * D = (S + N) * g' := by
  have e := L.eq
  have : (f' * D) * (g * y) = ((S + N) * g') * (g * y) := by
    calc (f' * D) * (g * y) = (f' * (g * y)) * D := by simp only [Int.mul_comm, Int.mul_left_comm, Int.mul_assoc]
      _ = ((f * y + x * g) * g') * D := by rw [e]
      _ = ((f * D) * y + (x * D) * g) * g' := by
        simp only [Int.add_mul, Int.mul_add]
        simp only [Int.mul_comm, Int.mul_left_comm, Int.mul_assoc]
      _ = ((S * g) * y + (N * y) * g) * g' := by rw [h1, h2]
      _ = ((S + N) * g') * (g * y) := by
        simp only [Int.add_mul, Int.mul_add]
        simp only [Int.mul_comm, Int.mul_left_comm, Int.mul_assoc]
  exact Int.eq_of_mul_eq_mul_right (Int.mul_ne_zero g0 y0) this
def PartsAt (H : Hp) (rs : List Addr) (ts : List (Int × Int)) : Prop := rs.length = ts.length ∧ ∀ (j : Nat) (t : Int × Int), ts[j]? = some t → ∃ r, rs[j]? = some r ∧ PartAt H r t.1 t.2
theorem PartsAt.same {H H' : Hp} {rs : List Addr} {ts : List (Int × Int)} (s : Same H H') (h : PartsAt H rs ts) : PartsAt H' rs ts := ⟨h.1, fun j t e => by
  obtain ⟨r, h1, h2⟩ := h.2 j t e
  exact ⟨r, h1, s _ _ h2⟩⟩
theorem PartsAt.at {H : Hp} {rs : List Addr} {ts : List (Int × Int)} (h : PartsAt H rs ts) {j : Nat} {r : Addr} (e : rs[j]? = some r) : ∃ t, ts[j]? = some t ∧ PartAt H r t.1 t.2 := by
  have hj := (List.getElem?_eq_some_iff.mp e).1
  rw [h.1] at hj
  obtain ⟨r', e', h'⟩ := h.2 j _ (List.getElem?_eq_getElem hj)
  cases (Option.some.inj (e.symm.trans e'))
  exact ⟨_, List.getElem?_eq_getElem hj, h'⟩
theorem gP_of {ts : List (Int × Int)} {j : Nat} {t : Int × Int} (h : ts[j]? = some t) : gP ts j = t := by
  unfold gP
  rw [List.getD_eq_getElem?_getD, h]
  rfl
theorem gI_of {l : List Int} {j : Nat} {x : Int} (h : l[j]? = some x) : gI l j = x := by
  unfold gI
  rw [List.getD_eq_getElem?_getD, h]
  rfl
section
variable {P : Program} {w : World} {K : PySem.W.Frag} {mg : Str → Option Value} {base : Heap}
abbrev s_law_worth : Stmt := topS 52
abbrev n_law_worth : List Str := ["_law_book_here", "_law_parts", "_law_found", "_law_powers_here", "_law_here", "_law_one", "_law_by"]
theorem sc_law_worth : FnScope n_law_worth ["_law_book_here", "_law_parts"] (defScope s_law_worth) := ⟨rfl, rfl, rfl, by decide +kernel, rfl, by decide +kernel, by decide +kernel⟩
def spLWorth : Sp := fun vs H Q _ => ∃ (d c : Addr) (bk : List Tm) (rs : List Addr) (ts : List (Int × Int)) (n : Nat) (l m : List Int), vs = [.ref d, .ref c] ∧ BkAt H d bk ∧ NdB bk ∧ H c = some (.lst (rs.map V.ref)) ∧ PartsAt H rs ts ∧ Wt n l m ts ∧ (∀ a ∈ bk, Adm n l m a.1 ∧ a.2.natAbs < 2 ^ 110) ∧ bk.length ≤ 12 ∧
  ∀ (p : Addr) (H' : Hp) (t u : Int), Same H H' → PartAt H' p t u → Low (Lf bk fun p => numN l m ts p n) (denN l m ts n) t u → Q (.ref p) H'
theorem ok_lworth {f : Addr} {fd : FuncData} (F : Fun K "_law_worth" "_law_worth" s_law_worth f fd) (T : Tx mg) (c_law_mul : Cal P w K mg base CX0 3 "_law_mul" ["_law_one", "_law_other"] (spPP fun t _ x _ => t * x)) (c_law_add : Cal P w K mg base CX0 3 "_law_add" ["_law_one", "_law_other"] (spPP fun t u x y => t * y + x * u)) (c_law_pow : Cal P w K mg base CX0 3 "_law_pow" ["_law_one", "_law_many"] spLPow) : FnOk P w K mg base CX0 4 f fd ["_law_book_here", "_law_parts"] spLWorth := by
  refine F.ok sc_law_worth (fun vs H Q E h => ?_) (fun cdv A outer s H vs Q E hr h => ?_)
  · obtain ⟨d, c, bk, rs, ts, n, l, m, rfl, _⟩ := h
    rfl
  · obtain ⟨d, c, bk, rs, ts, n, l, m, rfl, eB, nd, hC, hP, W, hA, hlen, q⟩ := h
    have hu := hr.units
    refine ⟨_, (pss_cons (ps_set (i := 2) sc_law_worth.nd rfl (.inl rfl) (pe_tup (pa_cons pe_int (pa_cons pe_int pa_nil))))
  (pss_cons (ps_lock (ps_for PassesOwn.never rfl (pi_keys (pv 0)) (pg_name (i := 3) sc_law_worth.nd rfl (.inl rfl))
    (pss_cons (ps_set (i := 4) sc_law_worth.nd rfl (.inl rfl) (pe_tup (pa_cons (pe_dget (u1 hu) (pv 0) (pv 3) (fun _ _ => rfl)) (pa_cons pe_int pa_nil))))
    (pss_cons (ps_for PassesOwn.never rfl (p_zipM (K := K) (by rfl) T.zip (pa_cons (pv 1) (pa_cons (pv 3) pa_nil))) (g_tup (K := K) (n := 2) rfl (pgs_cons (pg_name (i := 5) sc_law_worth.nd rfl (.inl rfl)) (pgs_cons (pg_name (i := 6) sc_law_worth.nd rfl (.inl rfl)) pgs_nil)))
      (pss_one (ps_set (i := 4) sc_law_worth.nd rfl (.inl rfl) (pe_cal c_law_mul hr (by rfl) (pa_cons (pv 4) (pa_cons (pe_cal c_law_pow hr (by rfl) (pa_cons (pv 5) (pa_cons (pv 6) pa_nil))) pa_nil))))))
    (pss_one (ps_set (i := 2) sc_law_worth.nd rfl (.inl rfl) (pe_cal c_law_add hr (by rfl) (pa_cons (pv 2) (pa_cons (pv 4) pa_nil)))))))))
  (pss_one (ps_ret (pv 2))))), ?_⟩
    refine ⟨by show 2 ≤ sizeLine; decide, fun w0 ew => ?_⟩
    have sw := same_upd (o := .tup [V.int 0, .int 1]) ew
    have hw : PartAt (upd H w0 (.tup [V.int 0, .int 1])) w0 0 1 := upd_same
    generalize upd H w0 (.tup [V.int 0, .int 1]) = H0 at sw hw
    have eB0 := sw _ _ eB
    refine ⟨d, _, eB0, trivial, fun od => ?_⟩
    refine ⟨.ref d, rfl, d, od, rfl, .inr ⟨_, upd_same, ?_⟩⟩
    have sL : Same H0 H0 := .refl _
    have hw2 : PartAt (upd H0 d (.frz od (.dT (bk.map enc)))) w0 0 1 := by
      show upd _ _ _ _ = _
      rw [upd_ne (ne_of hw eB0 (by intro z; cases z))]
      exact hw
    have hP2 : PartsAt (upd H0 d (.frz od (.dT (bk.map enc)))) rs ts := ⟨hP.1, fun j t e => by
      obtain ⟨r, h1, h2⟩ := hP.2 j t e
      refine ⟨r, h1, ?_⟩
      have h3 := sw _ _ h2
      show upd _ _ _ _ = _
      rw [upd_ne (ne_of h3 eB0 (by intro z; cases z))]
      exact h3⟩
    have hC2 : (upd H0 d (.frz od (.dT (bk.map enc)))) c = some (.lst (rs.map V.ref)) := by
      have h3 := sw _ _ hC
      rw [upd_ne (ne_of h3 eB0 (by intro z; cases z))]
      exact h3
    have xd : (upd H0 d (.frz od (.dT (bk.map enc)))) d = some (.frz od (.dT (bk.map enc))) := upd_same
    generalize hHx : upd H0 d (.frz od (.dT (bk.map enc))) = Hx at hw2 hP2 hC2 xd
    refine for_it walk_keysT (fun i σ H' => ∃ (y3 y4 y5 y6 : Option V) (w : Addr) (t u : Int), σ = [some (.ref d), some (.ref c), some (.ref w), y3, y4, y5, y6] ∧ Same Hx H' ∧ PartAt H' w t u ∧ t * denN l m ts n = (Lf (bk.take i) fun p => numN l m ts p n) * u ∧ 0 < u ∧ t.natAbs < 2 ^ (300 * i + 1) ∧ u.natAbs < 2 ^ (170 * i + 1) ∧ Nat.gcd t.natAbs u.natAbs = 1)
      ⟨none, none, none, none, w0, 0, 1, rfl, .refl _, hw2, by rw [Int.zero_mul]; exact (Int.zero_mul _).symm, by decide, by decide, by decide, by decide⟩ (fun i σ H' _ ⟨_, _, _, _, _, _, _, _, s, _⟩ => s _ _ xd) ?_ ?_
    · rintro i v σ H1 H1' hi ⟨y3, y4, y5, y6, w, ft, fu, rfl, s1, hF, eF, fu0, bt, bu, _⟩ ⟨rfl, key, vv, b, ekv, rfl, eb⟩
      obtain ⟨a, ea, rfl⟩ : ∃ a, bk[i]? = some a ∧ key = a.1.map Sum.inl := by
        rw [List.getElem?_map] at ekv
        cases e : bk[i]? with
        | none =>
          rw [e] at ekv
          cases ekv
        | some a =>
          rw [e] at ekv
          exact ⟨a, rfl, (congrArg Prod.fst (Option.some.inj ekv)).symm⟩
      have ebi : H1' b = some (.tup (a.1.map V.int)) := by
        rw [← kV_ints]
        exact eb
      have hix := (List.getElem?_eq_some_iff.mp ea).1
      obtain ⟨ad, ac⟩ := hA a (List.mem_of_getElem? ea)
      obtain ⟨la, pa⟩ := ad
      have hv : valV (bk.map enc) (a.1.map Sum.inl) = some (V.int a.2) := by
        rw [enc_val, getB_mem nd (c := a.2) (List.mem_of_getElem? ea)]
        rfl
      have dg : DGet H1' d (.ref b) (some (.int a.2)) := .inr ⟨_, a.1.map Sum.inl, b, .inr ⟨od, s1 _ _ xd⟩, rfl, eb, hv.symm⟩
      refine ⟨.ref d, rfl, .ref b, rfl, d, _, rfl, dg, by show 2 ≤ sizeLine; decide, fun h0 eh => ?_⟩
      have sh := same_upd (o := .tup [V.int a.2, .int 1]) eh
      have hh : PartAt (upd H1' h0 (.tup [V.int a.2, .int 1])) h0 a.2 1 := upd_same
      have hC3 := sh _ _ (s1 _ _ hC2)
      have hP3 := (hP2.same s1).same sh
      have eb3 := sh _ _ ebi
      have s3 := s1.trans sh
      have hF3 : PartAt _ w ft fu := sh _ _ hF
      generalize upd H1' h0 (.tup [V.int a.2, .int 1]) = H2 at sh hh hC3 hP3 eb3 s3 hF3
      refine ⟨.ref c, rfl, .ref b, rfl, c, b, _, _, rfl, .inr ⟨SqL.of hC3, SqT.of eb3, ?_⟩⟩
      have lm' : n = min (rs.map V.ref).length (a.1.map V.int).length := by rw [List.length_map, List.length_map, la, hP.1, W.lt, Nat.min_self]
      refine for_it (walk_zipG (xs := rs.map V.ref) (ys := a.1.map V.int) lm') (fun j σ H' => ∃ (y5 y6 : Option V) (h : Addr) (x y : Int), σ = [some (.ref d), some (.ref c), some (.ref w), some (.ref b), some (.ref h), y5, y6] ∧ Same H2 H' ∧ PartAt H' h x y ∧ x * denN l m ts j = a.2 * numN l m ts a.1 j * y ∧ 0 < y ∧ x.natAbs < 2 ^ (110 + 20 * j) ∧ y.natAbs < 2 ^ (1 + 20 * j))
        ⟨_, _, h0, a.2, 1, rfl, .refl _, hh, by show a.2 * 1 = a.2 * 1 * 1; omega, by decide, ac, by decide⟩ (fun j σ H' _ ⟨_, _, _, _, _, _, s, _⟩ => ⟨SqL.of (s _ _ hC3), SqT.of (s _ _ eb3)⟩) ?_ ?_
      · rintro j v2 σ H4 H4' hj ⟨y5, y6, h, x, y, rfl, s4, hh4, e4, y0, bx, yb⟩ ⟨U, xv, yv, rfl, nU, rfl, hx, hy⟩
        have hj : j < n := hj
        obtain ⟨r, er, rfl⟩ := ref_at hx
        obtain ⟨pw, epw, rfl⟩ := int_at hy
        have sU := same_upd (o := .tup [V.ref r, .int pw]) nU
        obtain ⟨t, et, hr4⟩ := (hP3.same (s4.trans sU)).at er
        have gp := gI_of epw
        have gt := gP_of et
        obtain ⟨pt1, pt2, pt3, pt4⟩ := W.part j hj
        obtain ⟨pa1, pa2⟩ := pa j hj
        have bl := W.bl j hj
        have bm := W.bm j hj
        rw [gt] at pt1 pt2 pt3 pt4
        rw [gp] at pa1 pa2
        have t0 : pw < 0 → t.1 ≠ 0 := fun h => pt4 (by omega)
        refine ⟨U, _, rfl, SqT.of upd_same, rfl, _, _, rfl, _, _, rfl, rfl, ?_⟩
        refine ⟨.ref h, rfl, .ref r, rfl, .int pw, rfl, r, t.1, t.2, pw, rfl, hr4, pt1, pt2, pt3, by omega, t0, fun q1 H5 xx yy s5 q0 hq1 PO => ?_⟩
        obtain ⟨bx2, by2⟩ := powOf_le PO pt1 pt2 (by omega) t0
        have yy0 := PO.1
        refine ⟨h, q1, x, y, xx, yy, rfl, s5 _ _ (sU _ _ hh4), hq1, by omega, by omega, ?_, ?_, Nat.lt_of_lt_of_le bx2 (Nat.pow_le_pow_right (by decide) (by decide)), Nat.lt_of_lt_of_le by2 (Nat.pow_le_pow_right (by decide) (by decide)), fun q2 H6 x' y' s6 q20 hq2 L => ?_⟩
        · exact Nat.lt_of_lt_of_le bx (Nat.pow_le_pow_right (by decide) (by have := W.n8; omega))
        · exact Nat.lt_of_lt_of_le yb (Nat.pow_le_pow_right (by decide) (by have := W.n8; omega))
        obtain ⟨l1, l2⟩ := L.le (Int.mul_ne_zero (by omega) (by omega))
        refine ⟨_, _, q2, x', y', rfl, ((s4.trans sU).trans s5).trans s6, hq2, ?_, L.pos, ?_, ?_⟩
        · refine step_mul e4 ?_ L (by omega) (by omega)
          unfold fD fN
          rw [gt, gp]
          exact pow_cross PO bl.2 bm.1 pa1 pa2 t0
        · refine Nat.lt_of_le_of_lt l1 (Nat.lt_of_lt_of_le (wide_lt bx bx2) (Nat.pow_le_pow_right (by decide) (by omega)))
        · refine Nat.lt_of_le_of_lt l2 (Nat.lt_of_lt_of_le (wide_lt yb by2) (Nat.pow_le_pow_right (by decide) (by omega)))
      · rintro σ H4 ⟨y5, y6, h, x, y, rfl, s4, hh4, e4, y0, bx, yb⟩
        have n8 := W.n8
        have bx' : x.natAbs < 2 ^ 270 := Nat.lt_of_lt_of_le bx (Nat.pow_le_pow_right (by decide) (by omega))
        have yb' : y.natAbs < 2 ^ 161 := Nat.lt_of_lt_of_le yb (Nat.pow_le_pow_right (by decide) (by omega))
        have up : ∀ {z : Int} {k : Nat}, z.natAbs < 2 ^ k → k ≤ 3900 → z.natAbs < 2 ^ 3900 := fun h k => Nat.lt_of_lt_of_le h (Nat.pow_le_pow_right (by decide) k)
        refine ⟨.ref w, rfl, .ref h, rfl, w, h, ft, fu, x, y, rfl, s4 _ _ hF3, hh4, by omega, by omega, up bt (by omega), up bu (by omega), up bx' (by decide), up yb' (by decide), fun q2 H6 x' y' s6 q20 hq2 L => ?_⟩
        obtain ⟨l1, l2⟩ := L.le (Int.mul_ne_zero (by omega) (by omega))
        refine ⟨_, _, _, _, q2, x', y', rfl, (s3.trans s4).trans s6, hq2, ?_, L.pos, ?_, ?_, L.cop⟩
        · rw [List.take_succ, ea, Lf_append]
          show _ = (_ + Lf [a] _) * _
          rw [Lf_cons, Lf_nil, Int.add_zero]
          exact step_add eF e4 L (by omega) (by omega)
        · have k1 := wide_lt bt yb'
          have k2 := wide_lt bx' bu
          have k3 : (2 : Nat) ^ (300 * i + 1 + 161) ≤ 2 ^ (300 * (i + 1)) := Nat.pow_le_pow_right (by decide) (by omega)
          have k4 : (2 : Nat) ^ (270 + (170 * i + 1)) ≤ 2 ^ (300 * (i + 1)) := Nat.pow_le_pow_right (by decide) (by omega)
          have k5 : (2 : Nat) ^ (300 * (i + 1) + 1) = 2 ^ (300 * (i + 1)) * 2 := Nat.pow_succ ..
          have k6 := Int.natAbs_add_le (ft * y) (x * fu)
          have l1 : x'.natAbs ≤ (ft * y + x * fu).natAbs := l1
          rw [k5]
          omega
        · refine Nat.lt_of_le_of_lt l2 (Nat.lt_of_lt_of_le (wide_lt bu yb') (Nat.pow_le_pow_right (by decide) (by omega)))
    · rintro σ H1 ⟨y3, y4, y5, y6, w, ft, fu, rfl, s1, hF, eF, fu0, bt, bu, cop⟩
      rw [List.length_map, List.take_length] at eF
      refine ⟨s1 _ _ xd, ?_⟩
      refine ⟨_, rfl, q w _ ft fu (sw.trans (unlock_same (by rw [hHx]; exact s1) eB0)) ?_ ⟨eF, fu0, cop⟩⟩
      show upd _ _ _ _ = _
      rw [upd_ne (ne_of hF (s1 _ _ xd) (by intro z; cases z))]
      exact hF
end
end Bw
set_option Elab.async false
set_option linter.all false
set_option maxRecDepth 100000
set_option maxHeartbeats 8000000
namespace Bw
open PySem PySem.Spec PyProof.Rows L2
def lz (n : Nat) (r : List Tm) : List Int := (lowP n r).map fun x => if x < 0 then x else 0
def hz (n : Nat) (r : List Tm) : List Int := (highP n r).map fun x => if x > 0 then x else 0
theorem lz_at {n : Nat} {r : List Tm} {j : Nat} (h : j < n) : gI (lz n r) j = if foldI min (colP r j) < 0 then foldI min (colP r j) else 0 := by
  refine gI_of ?_
  unfold lz lowP
  rw [List.getElem?_map, List.getElem?_map, List.getElem?_range h]
  rfl
theorem hz_at {n : Nat} {r : List Tm} {j : Nat} (h : j < n) : gI (hz n r) j = if foldI max (colP r j) > 0 then foldI max (colP r j) else 0 := by
  refine gI_of ?_
  unfold hz highP
  rw [List.getElem?_map, List.getElem?_map, List.getElem?_range h]
  rfl
theorem adm_of {n : Nat} {r : List Tm} (wr : Wid n r) {a : Tm} (ha : a ∈ r) : Adm n (lz n r) (hz n r) a.1 := by
  refine ⟨wr a ha, fun j hj => ?_⟩
  have m : gI a.1 j ∈ colP r j := List.mem_map.mpr ⟨a, ha, rfl⟩
  have ne : colP r j ≠ [] := fun h => by rw [h] at m; cases m
  have h1 := (foldI_min ne).2 _ m
  have h2 := (foldI_max ne).2 _ m
  rw [lz_at hj, hz_at hj]
  split <;> split <;> omega
def rN (l : List Int) (ts : List (Int × Int)) (j : Nat) : Int := (if gI l j < 0 then (gP ts j).1 else 1) * (gP ts j).2
def rootN (l : List Int) (ts : List (Int × Int)) : Nat → Int
  | 0 => 1
  | j + 1 => rootN l ts j * rN l ts j
theorem rN_ne {n : Nat} {l m : List Int} {ts : List (Int × Int)} (W : Wt n l m ts) {j : Nat} (hj : j < n) : rN l ts j ≠ 0 := by
  obtain ⟨_, _, u0, t0⟩ := W.part j hj
  unfold rN
  refine Int.mul_ne_zero ?_ (by omega)
  split
  · next c => exact t0 c
  · decide
theorem rootN_ne {n : Nat} {l m : List Int} {ts : List (Int × Int)} (W : Wt n l m ts) : ∀ j, j ≤ n → rootN l ts j ≠ 0
  | 0, _ => Int.one_ne_zero
  | j + 1, h => Int.mul_ne_zero (rootN_ne W j (by omega)) (rN_ne W h)
theorem fD_dvd {n : Nat} {l m : List Int} {ts : List (Int × Int)} (W : Wt n l m ts) {j : Nat} (hj : j < n) : (fD l m ts j).natAbs ∣ (rN l ts j).natAbs ^ 8 := by
  have bl := W.bl j hj
  have bm := W.bm j hj
  unfold fD rN
  rw [Int.natAbs_mul, Int.natAbs_mul, Int.natAbs_pow, Int.natAbs_pow, Nat.mul_pow]
  refine Nat.mul_dvd_mul ?_ (Nat.pow_dvd_pow _ (by omega))
  split
  · exact Nat.pow_dvd_pow _ (by omega)
  · next c =>
    have e : (-(gI l j)).toNat = 0 := by omega
    rw [e, Nat.pow_zero]
    exact Nat.one_dvd _
theorem den_dvd {n : Nat} {l m : List Int} {ts : List (Int × Int)} (W : Wt n l m ts) : ∀ j, j ≤ n → (denN l m ts j).natAbs ∣ (rootN l ts j).natAbs ^ 8
  | 0, _ => Nat.one_dvd _
  | j + 1, h => by
    show (denN l m ts j * fD l m ts j).natAbs ∣ (rootN l ts j * rN l ts j).natAbs ^ 8
    rw [Int.natAbs_mul, Int.natAbs_mul, Nat.mul_pow]
    exact Nat.mul_dvd_mul (den_dvd W j (by omega)) (fD_dvd W h)
theorem p32 {b : Int} {e : Nat} (h : b.natAbs ≤ 16) (k : e ≤ 8) : -(2 ^ 64) < b ^ e ∧ b ^ e < 2 ^ 64 := by
  have := pow_lt h k
  omega
section
variable {P : Program} {w : World} {K : PySem.W.Frag} {mg : Str → Option Value} {base : Heap}
abbrev s_worth_at : Stmt := topS 23
abbrev n_worth_at : List Str := ["products", "parts", "low", "high", "total", "powers", "count", "power", "least", "most", "top", "under", "bottom", "root"]
theorem sc_worth_at : FnScope n_worth_at ["products", "parts"] (defScope s_worth_at) := ⟨rfl, rfl, rfl, by decide +kernel, rfl, by decide +kernel, by decide +kernel⟩
def spWAt : Sp := fun vs H Q _ => ∃ (a c : Addr) (us : List Addr) (r : List Tm) (n : Nat) (rs : List Addr) (ts : List (Int × Int)), vs = [.ref a, .ref c] ∧ H a = some (.tup (us.map V.ref)) ∧ TermsAt H us r ∧ Wid n r ∧ r ≠ [] ∧ r.length ≤ 12 ∧ (∀ x ∈ r, x.2.natAbs < 2 ^ 110) ∧ H c = some (.lst (rs.map V.ref)) ∧ PartsAt H rs ts ∧ Wt n (lz n r) (hz n r) ts ∧
  ∀ (p : Addr) (H' : Hp) (t u : Int), Same H H' → PartAt H' p t u → Low (Lf r fun p => numN (lz n r) (hz n r) ts p n) (denN (lz n r) (hz n r) ts n) t u → Q (.ref p) H'
theorem ok_wat {f : Addr} {fd : FuncData} (F : Fun K "worth_at" "worth_at" s_worth_at f fd) (T : Tx mg) (c_lowest_powers : Cal P w K mg base CX0 1 "lowest_powers" ["products"] (spLowP min)) (c_highest_powers : Cal P w K mg base CX0 1 "highest_powers" ["products"] (spLowP max)) (c_power_of : Cal P w K mg base CX0 1 "power_of" ["base", "many"] spPow) (c_lowest_terms : Cal P w K mg base CX0 2 "lowest_terms" ["top", "under", "root"] spLow) : FnOk P w K mg base CX0 3 f fd ["products", "parts"] spWAt := by
  refine F.ok sc_worth_at (fun vs H Q E h => ?_) (fun cdv A outer s H vs Q E hr h => ?_)
  · obtain ⟨a, c, us, r, n, rs, ts, rfl, _⟩ := h
    rfl
  · obtain ⟨a, c, us, r, n, rs, ts, rfl, ha, hT, wr, r0, hlen, hct, hC, hP, W, q⟩ := h
    refine ⟨_, (pss_cons (ps_setLc (i := 2) (own := [("power", 7)]) (by rfl) sc_worth_at.nd rfl rfl (sw_true rfl rfl rfl (by decide +kernel)) (p_tup (K := K) (pe_cal c_lowest_powers (hr.mono (by decide)) (by rfl) (pa_cons (pv 0) pa_nil))) (blkOk_by (own := [("power", 7)]) (N := n_worth_at) (sc := defScope s_worth_at) (by decide +kernel)) (fun _ _ _ _ _ => (pg_name (i := 7) sc_worth_at.nd rfl (.inl rfl))) (fun _ _ _ _ _ => pts_nil) (fun _ _ _ _ _ => (pe_callB (call_min2 rfl) (by rfl) T.min (by decide +kernel) (pa_cons pe_int (pa_cons (pv 7) pa_nil)))))
  (pss_cons (ps_setLc (i := 3) (own := [("power", 7)]) (by rfl) sc_worth_at.nd rfl rfl (sw_true rfl rfl rfl (by decide +kernel)) (p_tup (K := K) (pe_cal c_highest_powers (hr.mono (by decide)) (by rfl) (pa_cons (pv 0) pa_nil))) (blkOk_by (own := [("power", 7)]) (N := n_worth_at) (sc := defScope s_worth_at) (by decide +kernel)) (fun _ _ _ _ _ => (pg_name (i := 7) sc_worth_at.nd rfl (.inl rfl))) (fun _ _ _ _ _ => pts_nil) (fun _ _ _ _ _ => (pe_callB (call_max2 rfl) (by rfl) T.max (by decide +kernel) (pa_cons pe_int (pa_cons (pv 7) pa_nil)))))
  (pss_cons (ps_set (i := 4) sc_worth_at.nd rfl (.inl rfl) pe_int)
  (pss_cons (ps_for PassesOwn.never rfl (p_tup (K := K) (pv 0)) (g_tup (K := K) (n := 2) rfl (pgs_cons (pg_name (i := 5) sc_worth_at.nd rfl (.inl rfl)) (pgs_cons (pg_name (i := 6) sc_worth_at.nd rfl (.inl rfl)) pgs_nil)))
    (pss_cons (ps_for PassesOwn.never rfl (p_zipN (K := K) (by rfl) T.zip (pa_cons (pv 5) (pa_cons (pv 2) (pa_cons (pv 3) (pa_cons (pv 1) pa_nil))))) (g_tup (K := K) (n := 4) rfl (pgs_cons (pg_name (i := 7) sc_worth_at.nd rfl (.inl rfl)) (pgs_cons (pg_name (i := 8) sc_worth_at.nd rfl (.inl rfl)) (pgs_cons (pg_name (i := 9) sc_worth_at.nd rfl (.inl rfl)) (pgs_cons (g_tup (K := K) (n := 2) rfl (pgs_cons (pg_name (i := 10) sc_worth_at.nd rfl (.inl rfl)) (pgs_cons (pg_name (i := 11) sc_worth_at.nd rfl (.inl rfl)) pgs_nil))) pgs_nil)))))
      (pss_one (ps_aug (i := 6) sc_worth_at.nd rfl (.inl rfl) (pe_op op_mul (pe_cal c_power_of (hr.mono (by decide)) (by rfl) (pa_cons (pv 10) (pa_cons (pe_op op_sub (pv 7) (pv 8)) pa_nil))) (pe_cal c_power_of (hr.mono (by decide)) (by rfl) (pa_cons (pv 11) (pa_cons (pe_op op_sub (pv 9) (pv 7)) pa_nil)))) ip_mulW)))
    (pss_one (ps_aug (i := 4) sc_worth_at.nd rfl (.inl rfl) (pv 6) ip_add))))
  (pss_cons (ps_set (i := 12) sc_worth_at.nd rfl (.inl rfl) pe_int)
  (pss_cons (ps_set (i := 13) sc_worth_at.nd rfl (.inl rfl) pe_int)
  (pss_cons (ps_for PassesOwn.never rfl (p_zipN (K := K) (by rfl) T.zip (pa_cons (pv 2) (pa_cons (pv 3) (pa_cons (pv 1) pa_nil)))) (g_tup (K := K) (n := 3) rfl (pgs_cons (pg_name (i := 8) sc_worth_at.nd rfl (.inl rfl)) (pgs_cons (pg_name (i := 9) sc_worth_at.nd rfl (.inl rfl)) (pgs_cons (g_tup (K := K) (n := 2) rfl (pgs_cons (pg_name (i := 10) sc_worth_at.nd rfl (.inl rfl)) (pgs_cons (pg_name (i := 11) sc_worth_at.nd rfl (.inl rfl)) pgs_nil))) pgs_nil))))
    (pss_cons (ps_aug (i := 12) sc_worth_at.nd rfl (.inl rfl) (pe_op op_mul (pe_cal c_power_of (hr.mono (by decide)) (by rfl) (pa_cons (pv 10) (pa_cons (pe_un un_neg (pv 8)) pa_nil))) (pe_cal c_power_of (hr.mono (by decide)) (by rfl) (pa_cons (pv 11) (pa_cons (pv 9) pa_nil)))) ip_mulW)
    (pss_one (ps_aug (i := 13) sc_worth_at.nd rfl (.inl rfl) (pe_op op_mul (pe_ifExp (pt_cmpR op_lt (pv 8) pe_int (nomark _)) (pv 10) pe_int) (pv 11)) ip_mulW))))
  (pss_one (ps_ret (pe_cal c_lowest_terms hr (by rfl) (pa_cons (pv 4) (pa_cons (pv 12) (pa_cons (pv 13) pa_nil))))))))))))), ?_⟩
    have n8 := W.n8
    refine ⟨.ref a, rfl, a, us, r, n, rfl, ha, hT, wr, r0, n8, by omega, fun lo H1 s1 lo0 e1 => ?_⟩
    refine ⟨lo, rfl, ⟨_, SqT.of e1⟩, fun D eD => ?_⟩
    refine lc_tup (K := K) (a := lo) (xs := (lowP n r).map V.int) (fun j H' => H' D = some (.lst (((lz n r).take j).map V.int)) ∧ Same H1 H') ⟨upd_same, same_upd eD⟩ (fun j H' _ ⟨_, s⟩ => SqT.of (s _ _ e1)) ?_ ?_
    · rintro j x H2 hx ⟨e2, s2⟩
      obtain ⟨v, ev, rfl⟩ := int_at hx
      have hj := (List.getElem?_eq_some_iff.mp ev).1
      have ll : (lowP n r).length = n := by unfold lowP; rw [List.length_map, List.length_range]
      refine ⟨rfl, .int v, rfl, 0, v, rfl, ?_⟩
      refine ⟨_, e2, by rw [List.length_map, List.length_take]; exact small1000 (by omega), ?_, Same.updN s2 eD⟩
      have ez : (lz n r)[j]? = some (if v < 0 then v else 0) := by
        unfold lz
        rw [List.getElem?_map, ev]
        rfl
      rw [upd_same, List.take_succ, ez, List.map_append]
      rfl
    rintro H2 ⟨e2, s2⟩
    have llz : (lz n r).length = n := by unfold lz lowP; rw [List.length_map, List.length_map, List.length_range]
    have lhz : (hz n r).length = n := by unfold hz highP; rw [List.length_map, List.length_map, List.length_range]
    have e2' : H2 D = some (.lst ((lz n r).map V.int)) := by
      rw [e2, List.length_map, show (lowP n r).length = n by unfold lowP; rw [List.length_map, List.length_range], List.take_of_length_le (by omega)]
    have s02 := s1.trans s2
    refine ⟨.ref a, rfl, a, us, r, n, rfl, s02 _ _ ha, hT.same s02, wr, r0, n8, by omega, fun hi H3 s3 hi0 e3 => ?_⟩
    refine ⟨hi, rfl, ⟨_, SqT.of e3⟩, fun G eG => ?_⟩
    refine lc_tup (K := K) (a := hi) (xs := (highP n r).map V.int) (fun j H' => H' G = some (.lst (((hz n r).take j).map V.int)) ∧ Same H3 H') ⟨upd_same, same_upd eG⟩ (fun j H' _ ⟨_, s⟩ => SqT.of (s _ _ e3)) ?_ ?_
    · rintro j x H4 hx ⟨e4, s4⟩
      obtain ⟨v, ev, rfl⟩ := int_at hx
      have hj := (List.getElem?_eq_some_iff.mp ev).1
      have ll : (highP n r).length = n := by unfold highP; rw [List.length_map, List.length_range]
      refine ⟨rfl, .int v, rfl, 0, v, rfl, ?_⟩
      refine ⟨_, e4, by rw [List.length_map, List.length_take]; exact small1000 (by omega), ?_, Same.updN s4 eG⟩
      have ez : (hz n r)[j]? = some (if v > 0 then v else 0) := by
        unfold hz
        rw [List.getElem?_map, ev]
        rfl
      rw [upd_same, List.take_succ, ez, List.map_append]
      rfl
    rintro H4 ⟨e4, s4⟩
    have e4' : H4 G = some (.lst ((hz n r).map V.int)) := by
      rw [e4, List.length_map, show (highP n r).length = n by unfold highP; rw [List.length_map, List.length_range], List.take_of_length_le (by omega)]
    have s24 := s3.trans s4
    have s04 := s02.trans s24
    have eD4 := s24 _ _ e2'
    have ha4 := s04 _ _ ha
    have hT4 := hT.same s04
    have hC4 := s04 _ _ hC
    have hP4 := hP.same s04
    clear e1 e2 e2' e3 e4 eD eG s1 s2 s3 s4 s02 s24 lo0 hi0
    generalize hl : lz n r = l at *
    generalize hm : hz n r = m at *
    have lsr : rs.length = n := by rw [hP.1, W.lt]
    have gI' : ∀ (z : List Int) (i : Nat), z.length = n → i < n → (z.map V.int)[i]? = some (V.int (gI z i)) := fun z i hz hi => by
      rw [List.getElem?_map]
      unfold gI
      rw [List.getElem?_eq_getElem (show i < z.length by omega), List.getD_eq_getElem?_getD, List.getElem?_eq_getElem (show i < z.length by omega)]
      rfl
    have gR' : ∀ i, i < n → (rs.map V.ref)[i]? = some (V.ref (rs.getD i 0)) := fun i hi => by
      rw [List.getElem?_map, List.getElem?_eq_getElem (show i < rs.length by omega), List.getD_eq_getElem?_getD, List.getElem?_eq_getElem (show i < rs.length by omega)]
      rfl
    have pR' : ∀ H', Same H4 H' → ∀ i, i < n → PartAt H' (rs.getD i 0) (gP ts i).1 (gP ts i).2 := fun H' s i hi => by
      have e : rs[i]? = some (rs.getD i 0) := by
        rw [List.getD_eq_getElem?_getD, List.getElem?_eq_getElem (show i < rs.length by omega)]
        rfl
      obtain ⟨t, et, h⟩ := (hP4.same s).at e
      rw [gP_of et]
      exact h
    refine ⟨.ref a, rfl, a, rfl, ⟨_, SqT.of ha4⟩, ?_⟩
    refine for_it (walk_tup (K := K) (a := a) (xs := us.map V.ref)) (fun i σ H' => ∃ (y5 y6 y7 y8 y9 y10 y11 : Option V), σ = [some (.ref a), some (.ref c), some (.ref D), some (.ref G), some (.int (Lf (r.take i) fun p => numN l m ts p n)), y5, y6, y7, y8, y9, y10, y11, none, none] ∧ Same H4 H') ⟨none, none, none, none, none, none, none, rfl, .refl _⟩ (fun i σ H' _ ⟨_, _, _, _, _, _, _, _, s⟩ => SqT.of (s _ _ ha4)) ?_ ?_
    · rintro i v σ H5 H5' hi ⟨y5, y6, y7, y8, y9, y10, y11, rfl, s5⟩ ⟨rfl, ev⟩
      obtain ⟨tt, et, rfl⟩ := ref_at ev
      obtain ⟨x, ex, pw, hp1, hp2⟩ := (hT4.same s5).at et
      have mx := List.mem_of_getElem? ex
      have hix := (List.getElem?_eq_some_iff.mp ex).1
      obtain ⟨lx, ax⟩ : Adm n l m x.1 := by
        rw [← hl, ← hm]
        exact adm_of wr mx
      refine ⟨tt, _, rfl, SqT.of hp1, rfl, _, _, rfl, _, _, rfl, rfl, ?_⟩
      have hS : ∀ H', Same H5' H' → Srcs K H' [(pw, true), (D, false), (G, false), (c, false)] [x.1.map V.int, l.map V.int, m.map V.int, rs.map V.ref] := fun H' s => ⟨rfl, fun k ll e => by
        match k, e with
        | 0, e => cases e; exact ⟨_, rfl, SqT.of (s _ _ hp2)⟩
        | 1, e => cases e; exact ⟨_, rfl, SqL.of (s _ _ (s5 _ _ eD4))⟩
        | 2, e => cases e; exact ⟨_, rfl, SqL.of (s _ _ (s5 _ _ e4'))⟩
        | 3, e => cases e; exact ⟨_, rfl, SqL.of (s _ _ (s5 _ _ hC4))⟩
        | k + 4, e => simp at e⟩
      refine ⟨.ref pw, rfl, .ref D, rfl, .ref G, rfl, .ref c, rfl, [(pw, true), (D, false), (G, false), (c, false)], [x.1.map V.int, l.map V.int, m.map V.int, rs.map V.ref], rfl, by simp, by show 4 ≤ 1000; decide, hS _ (.refl _), ?_⟩
      refine for_it (walk_zipN (K := K) (n := n) (cols := fun j => [V.int (gI x.1 j), V.int (gI l j), V.int (gI m j), V.ref (rs.getD j 0)]) (fun j hj => ?_) ?_) (fun j σ H' => ∃ (ct : Int) (y7 y8 y9 y10 y11 : Option V), σ = [some (.ref a), some (.ref c), some (.ref D), some (.ref G), some (.int (Lf (r.take i) fun p => numN l m ts p n)), some (.ref pw), some (.int ct), y7, y8, y9, y10, y11, none, none] ∧ Same H5' H' ∧ ct = x.2 * numN l m ts x.1 j ∧ ct.natAbs < 2 ^ (110 + 70 * j)) ⟨x.2, y7, y8, y9, y10, y11, rfl, .refl _, by show _ = _ * 1; omega, hct x mx⟩ (fun j σ H' _ ⟨_, _, _, _, _, _, _, s, _⟩ => hS _ s) ?_ ?_
      · refine ⟨rfl, fun k xs e => ?_⟩
        match k, e with
        | 0, e => cases e; exact gI' _ _ lx hj
        | 1, e => cases e; exact gI' _ _ llz hj
        | 2, e => cases e; exact gI' _ _ lhz hj
        | 3, e => cases e; exact gR' _ hj
        | k + 4, e => simp at e
      · exact ⟨_, List.mem_cons_self .., by rw [List.getElem?_map, List.getElem?_eq_none (by rw [lx]; exact Nat.le_refl _)]; rfl⟩
      · rintro j v2 σ H6 H6' hj ⟨ct, y7, y8, y9, y10, y11, rfl, s6, ec, bc⟩ ⟨U, rfl, nU, rfl⟩
        have hj : j < n := hj
        have sU := same_upd (o := .tup [V.int (gI x.1 j), V.int (gI l j), V.int (gI m j), V.ref (rs.getD j 0)]) nU
        have hp := pR' _ ((s5.trans s6).trans sU) j hj
        obtain ⟨pt1, pt2, pt3, pt4⟩ := W.part j hj
        obtain ⟨a1, a2⟩ := ax j hj
        have bl := W.bl j hj
        have bm := W.bm j hj
        refine ⟨U, _, rfl, SqT.of upd_same, rfl, _, _, rfl, _, _, rfl, _, _, rfl, _, _, rfl, _, _, rfl, SqT.of hp, rfl, _, _, rfl, _, _, rfl, rfl, rfl, ?_⟩
        have n1 : gI x.1 j - gI l j = (((gI x.1 j - gI l j).toNat : Nat) : Int) := by omega
        have n2 : gI m j - gI x.1 j = (((gI m j - gI x.1 j).toNat : Nat) : Int) := by omega
        refine ⟨_, rfl, .int (gP ts j).1, rfl, .int (gI x.1 j), rfl, .int (gI l j), rfl, _, _, rfl, rfl, ?_⟩
        dsimp only
        rw [n1]
        refine ⟨_, (gI x.1 j - gI l j).toNat, rfl, pt1, by omega, ?_⟩
        refine ⟨.int (gP ts j).2, rfl, .int (gI m j), rfl, .int (gI x.1 j), rfl, _, _, rfl, rfl, ?_⟩
        dsimp only
        rw [n2]
        refine ⟨_, (gI m j - gI x.1 j).toNat, rfl, pt2, by omega, ?_⟩
        have q1 := p32 (e := (gI x.1 j - gI l j).toNat) pt1 (by omega)
        have f1 := pow_lt (e := (gI x.1 j - gI l j).toNat) pt1 (by omega)
        have f2 := pow_lt (e := (gI m j - gI x.1 j).toNat) pt2 (by omega)
        have f3 := wide_lt f1 f2
        refine ⟨_, _, rfl, rfl, .inl q1, _, _, rfl, rfl, wide_mul bc f3 (by omega) (by decide) (by omega), ?_⟩
        refine ⟨_, _, _, _, _, _, rfl, s6.trans sU, ?_, ?_⟩
        · rw [ec]
          show _ = _ * (_ * fN l m x.1 ts j)
          unfold fN
          simp only [Int.mul_assoc]
        · exact Nat.lt_of_lt_of_le (wide_lt bc f3) (Nat.pow_le_pow_right (by decide) (by omega))
      · rintro σ H6 ⟨ct, y7, y8, y9, y10, y11, rfl, s6, ec, bc⟩
        refine ⟨_, rfl, _, rfl, _, _, rfl, rfl, ?_⟩
        refine ⟨some (.ref pw), some (.int ct), y7, y8, y9, y10, y11, ?_, s5.trans s6⟩
        rw [List.take_succ, ex, Lf_append]
        show _ = [some (V.ref a), some (.ref c), some (.ref D), some (.ref G), some (.int (_ + Lf [x] _)), _, _, _, _, _, _, _, none, none]
        rw [Lf_cons, Lf_nil, Int.add_zero, ← ec]
        rfl
    rintro σ H5 ⟨y5, y6, y7, y8, y9, y10, y11, rfl, s5⟩
    have etot : Lf (r.take (us.map V.ref).length) (fun p => numN l m ts p n) = Lf r fun p => numN l m ts p n := by rw [List.length_map, hT.1, List.take_length]
    generalize Lf (r.take (us.map V.ref).length) (fun p => numN l m ts p n) = tot at etot
    have hS : ∀ H', Same H5 H' → Srcs K H' [(D, false), (G, false), (c, false)] [l.map V.int, m.map V.int, rs.map V.ref] := fun H' s => ⟨rfl, fun k ll e => by
      match k, e with
      | 0, e => cases e; exact ⟨_, rfl, SqL.of (s _ _ (s5 _ _ eD4))⟩
      | 1, e => cases e; exact ⟨_, rfl, SqL.of (s _ _ (s5 _ _ e4'))⟩
      | 2, e => cases e; exact ⟨_, rfl, SqL.of (s _ _ (s5 _ _ hC4))⟩
      | k + 3, e => simp at e⟩
    refine ⟨.ref D, rfl, .ref G, rfl, .ref c, rfl, [(D, false), (G, false), (c, false)], [l.map V.int, m.map V.int, rs.map V.ref], rfl, by simp, by show 3 ≤ 1000; decide, hS _ (.refl _), ?_⟩
    refine for_it (walk_zipN (K := K) (n := n) (cols := fun j => [V.int (gI l j), V.int (gI m j), V.ref (rs.getD j 0)]) (fun j hj => ?_) ?_) (fun j σ H' => ∃ (bo ro : Int) (y5 y6 y7 y8 y9 y10 y11 : Option V), σ = [some (.ref a), some (.ref c), some (.ref D), some (.ref G), some (.int tot), y5, y6, y7, y8, y9, y10, y11, some (.int bo), some (.int ro)] ∧ Same H5 H' ∧ bo = denN l m ts j ∧ ro = rootN l ts j ∧ bo.natAbs < 2 ^ (1 + 70 * j) ∧ ro.natAbs < 2 ^ (1 + 20 * j)) ⟨1, 1, y5, y6, y7, y8, y9, y10, y11, rfl, .refl _, rfl, rfl, by decide, by decide⟩ (fun j σ H' _ ⟨_, _, _, _, _, _, _, _, _, _, s, _⟩ => hS _ s) ?_ ?_
    · refine ⟨rfl, fun k xs e => ?_⟩
      match k, e with
      | 0, e => cases e; exact gI' _ _ llz hj
      | 1, e => cases e; exact gI' _ _ lhz hj
      | 2, e => cases e; exact gR' _ hj
      | k + 3, e => simp at e
    · exact ⟨_, List.mem_cons_self .., by rw [List.getElem?_map, List.getElem?_eq_none (by rw [llz]; exact Nat.le_refl _)]; rfl⟩
    · rintro j v2 σ H6 H6' hj ⟨bo, ro, y5, y6, y7, y8, y9, y10, y11, rfl, s6, eb, er, bb, br⟩ ⟨U, rfl, nU, rfl⟩
      have hj : j < n := hj
      have sU := same_upd (o := .tup [V.int (gI l j), V.int (gI m j), V.ref (rs.getD j 0)]) nU
      have hp := pR' _ ((s5.trans s6).trans sU) j hj
      obtain ⟨pt1, pt2, pt3, pt4⟩ := W.part j hj
      have bl := W.bl j hj
      have bm := W.bm j hj
      refine ⟨U, _, rfl, SqT.of upd_same, rfl, _, _, rfl, _, _, rfl, _, _, rfl, _, _, rfl, SqT.of hp, rfl, _, _, rfl, _, _, rfl, rfl, rfl, ?_⟩
      have n1 : -(gI l j) = (((-(gI l j)).toNat : Nat) : Int) := by omega
      have n2 : gI m j = (((gI m j).toNat : Nat) : Int) := by omega
      refine ⟨_, rfl, .int (gP ts j).1, rfl, .int (gI l j), rfl, _, rfl, ?_⟩
      dsimp only
      rw [n1]
      refine ⟨_, (-(gI l j)).toNat, rfl, pt1, by omega, ?_⟩
      refine ⟨.int (gP ts j).2, rfl, .int (gI m j), rfl, ?_⟩
      replace sU : Same H6 (upd H6 U (.tup [V.int (gI l j), V.int (((gI m j).toNat : Nat) : Int), V.ref (rs.getD j 0)])) := by
        rw [← n2]
        exact sU
      rw [n2]
      refine ⟨_, (gI m j).toNat, rfl, pt2, by omega, ?_⟩
      have q1 := p32 (e := (-(gI l j)).toNat) pt1 (by omega)
      have f1 := pow_lt (e := (-(gI l j)).toNat) pt1 (by omega)
      have f2 := pow_lt (e := (gI m j).toNat) pt2 (by omega)
      have f3 := wide_lt f1 f2
      refine ⟨_, _, rfl, rfl, .inl q1, _, _, rfl, rfl, wide_mul bb f3 (by omega) (by decide) (by omega), ?_⟩
      have hro : ∀ k : Int, k = (if gI l j < 0 then (gP ts j).1 else 1) → k.natAbs ≤ 16 := fun k hk => by
        rw [hk]
        split
        · exact pt1
        · decide
      have fin : ∀ k : Int, k = (if gI l j < 0 then (gP ts j).1 else 1) → CMul k (gP ts j).2 ∧ CMulW ro (k * (gP ts j).2) ∧ ro * (k * (gP ts j).2) = rootN l ts (j + 1) ∧ (ro * (k * (gP ts j).2)).natAbs < 2 ^ (1 + 20 * (j + 1)) := fun k hk => by
        have k1 := hro k hk
        have k2 : (k * (gP ts j).2).natAbs < 2 ^ 10 := Nat.lt_of_le_of_lt (by rw [Int.natAbs_mul]; exact Nat.mul_le_mul k1 pt2) (by decide)
        refine ⟨.inl ⟨by omega, by omega⟩, wide_mul br k2 (by omega) (by decide) (by omega), ?_, Nat.lt_of_lt_of_le (wide_lt br k2) (Nat.pow_le_pow_right (by decide) (by omega))⟩
        rw [er, hk]
        rfl
      have eb2 : bo * ((gP ts j).1 ^ (-(gI l j)).toNat * (gP ts j).2 ^ (gI m j).toNat) = denN l m ts (j + 1) := by
        rw [eb]
        rfl
      have bb2 : (bo * ((gP ts j).1 ^ (-(gI l j)).toNat * (gP ts j).2 ^ (gI m j).toNat)).natAbs < 2 ^ (1 + 70 * (j + 1)) := Nat.lt_of_lt_of_le (wide_lt bb f3) (Nat.pow_le_pow_right (by decide) (by omega))
      refine ⟨_, rfl, .int (gI l j), rfl, _, _, rfl, rfl, _, rfl, ite2 (fun z => ?_) (fun z => ?_)⟩
      · have hk := (if_pos (of_decide_eq_true z) : (if gI l j < 0 then (gP ts j).1 else 1) = _)
        obtain ⟨g1, g2, g3, g4⟩ := fin _ hk.symm
        exact ⟨_, rfl, _, rfl, _, _, rfl, rfl, g1, _, _, rfl, rfl, g2, _, _, _, _, _, _, _, _, _, rfl, s6.trans sU, eb2, g3, bb2, g4⟩
      · have hk := (if_neg (fun h => z (decide_eq_true h)) : (if gI l j < 0 then (gP ts j).1 else 1) = _)
        obtain ⟨g1, g2, g3, g4⟩ := fin _ hk.symm
        exact ⟨_, rfl, _, _, rfl, rfl, g1, _, _, rfl, rfl, g2, _, _, _, _, _, _, _, _, _, rfl, s6.trans sU, eb2, g3, bb2, g4⟩
    · rintro σ H6 ⟨bo, ro, y5, y6, y7, y8, y9, y10, y11, rfl, s6, eb, er, bb, br⟩
      refine ⟨_, rfl, _, rfl, _, rfl, tot, bo, ro, 8, rfl, ?_, ?_, Nat.lt_of_lt_of_le br (Nat.pow_le_pow_right (by decide) (by omega)), ?_, fun p H7 t u s7 p0 hp L => ?_⟩
      · rw [eb]
        exact denN_ne W n (Nat.le_refl _)
      · rw [er]
        exact rootN_ne W n (Nat.le_refl _)
      · rw [eb, er]
        exact den_dvd W n (Nat.le_refl _)
      · rw [etot, eb] at L
        exact q p H7 t u (((s04.trans s5).trans s6).trans s7) hp L
end
end Bw
set_option Elab.async false
set_option linter.all false
set_option maxRecDepth 100000
set_option maxHeartbeats 4000000
namespace Bw
open PySem PySem.Spec PyProof.Rows L2
/-! ### the class Sum -/
structure SumC (K : PySem.W.Frag) (mg : Str → Option Value) (C : Addr) : Prop where
  gl : mg "Sum" = some (.ref C)
  cls : Cls K C
  nw : NoAttr K C "width"
  np : NoAttr K C "products"
  ha : PySem.W.findIn K (.ref C) "__class__" = some (some (.builtin "object.__class__"))
  hn : PySem.W.specialIn K (.builtin "object.__class__") "__get__" = some (some (.builtin "getset_descriptor.__get__"))
  htk : PySem.W.takesIn K (.builtin "object.__class__") = some true
  hm : PySem.W.mroIn K C (.type "object") = some true
  self : PySem.W.kitOne K (.ref C) (.ref C) = some true
  kp : PySem.W.keepIn K (.ref C) = true
structure MakS (P : Program) (w : World) (K : PySem.W.Frag) (mg : Str → Option Value) (base : Heap) (k : Nat) (C : Addr) (ps : List Str) (sp : Sp) : Prop where
  ex : ∃ (f : Addr) (fd : FuncData), Mk K C f ∧ FnOk P w K mg base CX0 k f fd ps sp ∧ mg "Sum" = some (.ref C) ∧ Binds K fd ps []
structure MetS (P : Program) (w : World) (K : PySem.W.Frag) (mg : Str → Option Value) (base : Heap) (k : Nat) (C : Addr) (m : Str) (ps : List Str) (sp : Sp) : Prop where
  ex : ∃ (f : Addr) (fd : FuncData), Cls K C ∧ Meth K C m f ∧ FnOk P w K mg base CX0 k f fd ps sp ∧ Binds K fd ps []
section
variable {X : Cx} {ps : List Str} {sp : Sp} {k : Nat} {C : Addr} {m : Str} {o e : Expr} {es : List Expr} {p pos apos : Pos} {t : TA} {ta : TE}
theorem pe_mkS (M : MakS X.prog X.w X.K X.mg X.base k C ps sp) (hr : Room (k + 1) X.A) (hg : Gl X "Sum") (ha : PA X (e :: es) t) (he : starEach (e :: es) X.env = (false, eval e X.env) :: starEach es X.env := by rfl)
    (hpl : (backTo pos (starEach es X.env)).any (·.1) = false := by rfl) : PE X (.Call (.Name "Sum" p) (e :: es) [] pos) (tMake C sp [] E0 t) := by
  obtain ⟨f, fd, mk, F, hm, hb⟩ := M.ex
  exact pe_make mk F hr hg hm hb .nil pass0 ha (by decide) he hpl
theorem pe_mtS {pl : Sem Bool} (M : MetS X.prog X.w X.K X.mg X.base k C m ps sp) (hr : Room k X.A) (ho : PE X o ta) (ha : PA X (e :: es) t) (hst : starEach (e :: es) X.env = (false, eval e X.env) :: starEach es X.env := by rfl)
    (hpl : (backTo pos (starEach es X.env)).any (·.1) = false := by rfl)
    (ht : eval (.Call (.Attribute o m apos) (e :: es) [] pos) X.env = (do
      let ov ← eval o X.env
      standAt apos.atName
      let (f, first) ← holding [ov] (getMethod ov m pl)
      callWith pos f first (backTo pos (starEach (e :: es) X.env)) (backToKw pos (keywordEach [] X.env))) := by rfl) : PE X (.Call (.Attribute o m apos) (e :: es) [] pos) (tMeth C m sp [] E0 ta t) := by
  obtain ⟨f, fd, c, hm, F, hb⟩ := M.ex
  exact pe_meth (pl := pl) ho c hm F hr hb .nil pass0 ha hst hpl ht
theorem pe_mtS0 {pl : Sem Bool} (M : MetS X.prog X.w X.K X.mg X.base k C m ps sp) (hr : Room k X.A) (ho : PE X o ta)
    (ht : eval (.Call (.Attribute o m apos) [] [] pos) X.env = (do
      let ov ← eval o X.env
      standAt apos.atName
      let (f, first) ← holding [ov] (getMethod ov m pl)
      callWith pos f first (backTo pos (starEach [] X.env)) (backToKw pos (keywordEach [] X.env))) := by rfl) : PE X (.Call (.Attribute o m apos) [] [] pos) (tMeth C m sp [] E0 ta tNil) := by
  obtain ⟨f, fd, c, hm, F, hb⟩ := M.ex
  exact pe_meth0 (pl := pl) ho c hm F hr hb .nil pass0 ht
theorem pf {K : PySem.W.Frag} {f : Str} (he : PE X e ta) (hK : X.K = K := by rfl) (hb : attributeBase e f X.env (eval e X.env) = eval e X.env := by rfl) : PE X (.Attribute e f pos) (tFld K ta f) := by
  subst hK
  exact pe_fld he hb
end
def SumAt (C : Addr) (H : Hp) (a : Addr) (n : Nat) (r : List Tm) : Prop := ∃ (dx p : Addr) (us : List Addr), H a = some (.ins C dx [("width", .int n), ("products", .ref p)]) ∧ H p = some (.tup (us.map V.ref)) ∧ TermsAt H us r
theorem SumAt.same {C : Addr} {H H' : Hp} {a : Addr} {n : Nat} {r : List Tm} (s : Same H H') (h : SumAt C H a n r) : SumAt C H' a n r := by
  obtain ⟨dx, p, us, h1, h2, h3⟩ := h
  exact ⟨dx, p, us, s _ _ h1, s _ _ h2, h3.same s⟩
theorem any_rep (n : Nat) : (List.replicate n false).any id = false := by
  rw [List.any_eq_false]
  intro x hx
  rw [List.eq_of_mem_replicate hx]
  decide
theorem FunD.ok0 {P : Program} {w : World} {K : PySem.W.Frag} {mg : Str → Option Value} {base : Heap} {x qual : Str} {params : Arguments} {body : List Stmt} {scope : Scope} {dvs : List V} {kws : List (Str × V)} {f : Addr} {fd : FuncData} {N ps : List Str} {k : Nat} {sp : Sp} (F : FunD K x qual params body scope dvs kws f fd) (S : FnScope N ps scope)
    (len : ∀ vs H Q E, sp vs H Q E → vs.length = ps.length)
    (hbody : ∀ (cdv : Value) (A : Around) (outer : List Env) (s : Shared) (H : Hp) (vs : List V) (Q : VK) (E : XK), Room k (A.deeper (envOfC qual scope s.heap.objs.size f cdv)) → sp vs H Q E →
      ∃ t, PSs (cxOf CX0 P w K mg base N qual scope f cdv A outer s H E).nox body t ∧ t { nx := fun _ H' => Q .non H', rt := Q } (L2.start N vs) H) : FnOk P w K mg base CX0 (k + 1) f fd ps sp := by
  refine F.ok S len fun cdv A outer s H vs Q E hr hsp => ?_
  obtain ⟨t, h, q⟩ := hbody cdv A outer s H vs Q E hr hsp
  exact ⟨t, h.nox, q⟩
section
variable {P : Program} {w : World} {K : PySem.W.Frag} {mg : Str → Option Value} {base : Heap} {C : Addr}
abbrev s_init : Stmt := inClass (topS 35) 0
abbrev n_init : List Str := ["self", "width", "terms", "powers", "count", "products"]
theorem sc_init : FnScope n_init ["self", "width", "terms"] (defScope s_init) := ⟨rfl, rfl, rfl, by decide +kernel, rfl, by decide +kernel, by decide +kernel⟩
def spInit (K : PySem.W.Frag) (C : Addr) : Sp := fun vs H Q _ => ∃ (x dx R : Addr) (ts : List Addr) (terms : List Tm) (n m : Nat) (bb : Bool), vs = [.ref x, .int n, .ref R] ∧ H x = some (.ins C dx []) ∧ SqS K bb H R (ts.map V.ref) ∧ TermsAt H ts terms ∧ terms.length ≤ 400 ∧ Sized n m terms ∧
  ∀ (r : List Tm) (H' : Hp), SameBut x H H' → SumAt C H' x n r → Cn (Lf terms) r → Sized n (terms.length * m) r → r.length ≤ terms.length → Q .non H'
theorem ok_init {f : Addr} {fd : FuncData} {dvs : List V} {kws : List (Str × V)} (F : FunD K "__init__" "Sum.__init__" (defArgs s_init) (defBody s_init) (defScope s_init) dvs kws f fd) (T : Tx mg) (S : SumC K mg C) (c_gathered : Cal P w K mg base CX0 1 "gathered" ["terms"] (spGath K)) : FnOk P w K mg base CX0 2 f fd ["self", "width", "terms"] (spInit K C) := by
  refine FunD.ok0 F sc_init (fun vs H Q E h => ?_) (fun cdv A outer s H vs Q E hr h => ?_)
  · obtain ⟨x, dx, R, ts, terms, n, m, bb, rfl, _⟩ := h
    rfl
  · obtain ⟨x, dx, R, ts, terms, n, m, bb, rfl, hx, hR, hT, hlen, hsz, q⟩ := h
    refine ⟨_, (pss_cons (ps_if (pt_val (pe_callB (c_any (K := K) rfl) (by rfl) T.any (by decide +kernel) (pa_cons (pe_lc (own := [("powers", 3), ("count", 4)]) (by rfl) sc_init.nd (p_seq (K := K) (pv 2)) (blkOk_by (own := [("powers", 3), ("count", 4)]) (N := n_init) (sc := defScope s_init) (by decide +kernel)) (fun _ _ _ _ _ => (g_tup (K := K) (n := 2) rfl (pgs_cons (pg_name (i := 3) sc_init.nd rfl (.inl rfl)) (pgs_cons (pg_name (i := 4) sc_init.nd rfl (.inl rfl)) pgs_nil)))) (fun _ _ _ _ _ => pts_nil) (fun _ _ _ _ _ => (pe_cmpR op_ne (pe_callB (c_len (K := K)) (by rfl) T.len PySem.boot_len (pa_cons (pv 3) pa_nil)) (pv 1) (nomark _)))) pa_nil)))
    pss_never
    pss_nil)
  (pss_cons (ps_set (i := 5) sc_init.nd rfl (.inl rfl) (pe_cal c_gathered hr (by rfl) (pa_cons (pv 2) pa_nil)))
  (pss_cons (ps_if (pt_cmpR op_gt (pe_callB (c_len (K := K)) (by rfl) T.len PySem.boot_len (pa_cons (pv 5) pa_nil)) (pe_gint (by rfl) T.WIDE) (nomark _))
    pss_never
    pss_nil)
  (pss_cons (ps_fld (pv 0) (pv 1) rfl) (pss_one (ps_fld (pv 0) (pv 5) rfl)))))), ?_⟩
    refine ⟨.ref R, rfl, R, _, bb, rfl, hR, fun D eD => ?_⟩
    refine lc_it (walk_seq (K := K) (b := bb) (a := R) (xs := ts.map V.ref)) (fun j H' => H' D = some (.lst ((List.replicate j false).map V.bl)) ∧ Same H H') ⟨upd_same, same_upd eD⟩ (fun j H' _ ⟨_, s⟩ => hR.same s) ?_ ?_
    · rintro j v H1' H1 _ ⟨e1, s1⟩ ⟨rfl, hv⟩
      obtain ⟨t, et, rfl⟩ := ref_at hv
      obtain ⟨a, ea, b, hb1, hb2⟩ := (hT.same s1).at et
      have hi := (List.getElem?_eq_some_iff.mp ea).1
      have za := hsz a (List.mem_of_getElem? ea)
      refine ⟨t, _, rfl, SqT.of hb1, rfl, _, _, rfl, _, _, rfl, rfl, rfl, .ref b, rfl, b, _, rfl, .inr (SqT.of hb2), .int n, rfl, rfl, ?_⟩
      refine ⟨_, e1, by rw [List.length_map, List.length_replicate]; exact small1000 (by omega), ?_, Same.updN s1 eD⟩
      rw [upd_same, List.replicate_succ', List.map_append, List.length_map, za.1, decide_eq_true rfl]
      rfl
    · rintro H1 ⟨e1, s1⟩
      refine ⟨D, _, rfl, SqL.of e1, ?_⟩
      rw [any_rep]
      refine ⟨false, rfl, iteF ?_⟩
      refine ⟨.ref R, rfl, R, ts, terms, n, m, bb, rfl, hR.same s1, hT.same s1, by omega, hsz, fun p us r H2 s2 p0 e2 hT2 cn z2 hl2 => ?_⟩
      refine ⟨.ref p, rfl, p, _, rfl, .inr (SqT.of e2), _, _, rfl, rfl, _, rfl, ite2 (fun hz => ?_) (fun _ => ?_)⟩
      · have z3 := of_decide_eq_true hz
        rw [List.length_map, hT2.1] at z3
        exact absurd z3 (by omega)
      · have hx2 := s2 _ _ (s1 _ _ hx)
        refine ⟨.int n, rfl, .ref x, rfl, x, C, dx, [], rfl, hx2, S.cls, S.nw, by decide, ?_⟩
        refine ⟨.ref p, rfl, .ref x, rfl, x, C, dx, [("width", .int n)], rfl, upd_same, S.cls, S.np, by show 1 < 1000; decide, ?_⟩
        have npx : p ≠ x := ne_of e2 hx2 (by intro z; cases z)
        refine q r _ ((SameBut.upd (SameBut.upd (s1.trans s2).but))) ⟨dx, p, us, ?_, ?_, ?_⟩ cn z2 hl2
        · rw [upd_same]
          rfl
        · rw [upd_ne npx, upd_ne npx]
          exact e2
        · exact TermsAt.updX (TermsAt.updX hT2 hx2 (fun xs z => by cases z)) upd_same (fun xs z => by cases z)
end
end Bw
set_option Elab.async false
set_option linter.all false
set_option maxRecDepth 100000
set_option maxHeartbeats 8000000
namespace Bw
open PySem PySem.Spec PyProof.Rows L2
abbrev zdB : String := "ZeroDivisionError"
abbrev zdN : String := "ZeroDivisionError.__new__"
abbrev zdI : String := "ZeroDivisionError.__init__"
abbrev zdL : List Value := [.type "ZeroDivisionError", .type "ArithmeticError", .type "Exception", .type "BaseException", .type "object"]
section
variable {P : Program} {w : World} {K : PySem.W.Frag} {mg : Str → Option Value} {base : Heap} {C CS fS CB CN fN : Addr}
abbrev s_bud_init : Stmt := inClass (topS 2) 0
theorem sc_bud_init : FnScope ["self", "word"] ["self", "word"] (defScope s_bud_init) := ⟨rfl, rfl, rfl, by decide +kernel, rfl, by decide +kernel, by decide +kernel⟩
def vV (K : PySem.W.Frag) : Prop := PySem.W.findCls K (.type "ValueError") (.type "type") "__init__" = some (.val (.builtin "ValueError.__init__"))
def spBudInit (K : PySem.W.Frag) : Sp := fun vs H Q _ => ∃ (a C : Addr) (x : V), vs = [.ref a, x] ∧ OexC K C ∧ PySem.W.findIn K (.ref C) "word" = some none ∧ H a = some (exo a C none) ∧ ∀ dx, H dx = none → dx ≠ a → Q .non (upd (upd H dx (exd dx [("word", x)])) a (exo a C (some dx)))
theorem ok_budinit {f : Addr} {fd : FuncData} {k : Nat} (F : Fun K "__init__" "BudError.__init__" s_bud_init f fd) (T : Tx mg) (v : vV K) : FnOk P w K mg base CX0 (k + 1) f fd ["self", "word"] (spBudInit K) := by
  refine F.ok sc_bud_init (fun vs H Q E h => ?_) (fun cdv A outer s H vs Q E hr h => ?_)
  · obtain ⟨a, C, x, rfl, _⟩ := h
    rfl
  · obtain ⟨a, C, x, rfl, O, nw, ha, q⟩ := h
    refine ⟨_, pss_cons (ps_expr (pe_veinit (by rfl) T.ValueError v (pa_cons (pv 0) (pa_cons (pv 1) pa_nil)))) (pss_one (ps_ost (pv 0) (pv 1))), ?_⟩
    refine ⟨.ref a, rfl, x, rfl, a, C, [x], rfl, by show 1 ≤ 1000; decide, O, ha, ?_⟩
    exact ⟨x, rfl, .ref a, rfl, a, C, rfl, O, nw, .inl ⟨ha, q⟩⟩
abbrev s_bad_init : Stmt := inClass (topS 3) 0
theorem sc_bad_init : FnScope ["self"] ["self"] (defScope s_bad_init) := ⟨rfl, rfl, rfl, by decide +kernel, rfl, by decide +kernel, by decide +kernel⟩
theorem ok_badinit {f fB CB : Addr} {fd fdB : FuncData} {k : Nat} (F : Fun K "__init__" "BadSum.__init__" s_bad_init f fd) (T : Tx mg) (TB : ClsFn K mg "BudError" "__init__" CB fB) (FB : FnOk P w K mg base CX0 k fB fdB ["self", "word"] (spBudInit K)) (bB : Binds K fdB ["self", "word"] []) : FnOk P w K mg base CX0 (k + 1) f fd ["self"] (spErrInit K "bad sum") := by
  refine F.ok sc_bad_init (fun vs H Q E h => ?_) (fun cdv A outer s H vs Q E hr h => ?_)
  · obtain ⟨a, C, rfl, _⟩ := h
    rfl
  · obtain ⟨a, C, rfl, O, nw, ha, q⟩ := h
    refine ⟨_, pss_one (ps_expr (pe_cfun TB FB hr (by rfl) bB pass0 (pa_cons (pv 0) (pa_cons pe_str pa_nil)))), ?_⟩
    refine ⟨.ref a, rfl, a, C, _, rfl, O, nw, ha, fun dx ed nd => ?_⟩
    refine q dx _ ed nd upd_same ?_ fun b n1 n2 => ?_
    · rw [upd_ne nd, upd_same]
      rfl
    · rw [upd_ne n1, upd_ne n2]
abbrev s_check_width : Stmt := topS 36
theorem sc_check_width : FnScope ["width", "other"] ["width", "other"] (defScope s_check_width) := ⟨rfl, rfl, rfl, by decide +kernel, rfl, by decide +kernel, by decide +kernel⟩
def spCheckX (CS : Addr) : Sp := fun vs H Q E => ∃ n m : Nat, vs = [.int n, .int m] ∧ (n = m → Q .non H) ∧ (n ≠ m → ∀ (d : Addr) (H' : Hp), Same H H' → H' d = some (.xd (wordFs "bad sum")) → E (.ref CS) (some d) H')
theorem ok_checkX {f : Addr} {fd fdS : FuncData} (F : Fun K "check_width" "check_width" s_check_width f fd) (T : Tx mg) (TS : ErrC K mg "BadSum" CS fS CB) (FS : FnOk P w K mg base CX0 2 fS fdS ["self"] (spErrInit K "bad sum")) (bS : Binds K fdS ["self"] []) : FnOk P w K mg base (L2.CX P w) 4 f fd ["width", "other"] (spCheckX CS) := by
  refine F.okX sc_check_width (fun vs H Q E h => ?_) (fun cdv A outer s H vs Q E hr h => ?_)
  · obtain ⟨n, m, rfl, _⟩ := h
    rfl
  · obtain ⟨n, m, rfl, q, qE⟩ := h
    refine ⟨_, (pss_one (ps_if (pt_cmpR op_ne (pv 0) (pv 1) (nomark _)) (pss_one (ps_raise rfl (takes_of rfl rfl rfl rfl) (pmk_oex0 TS.oex TS.iC TS.tI FS hr bS pass0 (by rfl) TS.g))) pss_nil)), ?_⟩
    refine ⟨.int n, rfl, .int m, rfl, rfl, _, rfl, ite2 (fun e => ?_) (fun e => ?_)⟩
    · have hne : n ≠ m := fun z => by
        subst z
        simp at e
      exact raise_done TS fun d H' s hd => qE hne d H' s hd
    · have : n = m := Classical.byContradiction fun z => e (by
        have : V.int (n : Int) ≠ V.int (m : Int) := fun y => z (by have := V.int.inj y; omega)
        simp [this])
      exact q this
abbrev s_part_init : Stmt := inClass (topS 5) 0
theorem sc_part_init : FnScope ["self"] ["self"] (defScope s_part_init) := ⟨rfl, rfl, rfl, by decide +kernel, rfl, by decide +kernel, by decide +kernel⟩
theorem ok_partinit {f : Addr} {fd : FuncData} {k : Nat} (F : Fun K "__init__" "NoPart.__init__" s_part_init f fd) (T : Tx mg) (v : PySem.W.findCls K (.type zdB) (.type "type") "__init__" = some (.val (.builtin zdI))) : FnOk P w K mg base CX0 (k + 1) f fd ["self"] (spErrInitB0 K zdB zdN zdI zdL "no part") := by
  refine F.ok sc_part_init (fun vs H Q E h => ?_) (fun cdv A outer s H vs Q E hr h => ?_)
  · obtain ⟨a, C, rfl, _⟩ := h
    rfl
  · obtain ⟨a, C, rfl, O, nw, ha, q⟩ := h
    refine ⟨_, pss_cons (ps_expr (pe_beinit (B := zdB) (nw := zdN) (ini := zdI) (tl := zdL) (by rfl) T.ZeroDivisionError (by decide +kernel) (by kernel_rfl) (by decide +kernel) v (by decide +kernel) (pa_cons (pv 0) (pa_cons pe_str pa_nil)))) (pss_one (ps_osB (B := zdB) (nw := zdN) (ini := zdI) (tl := zdL) (pv 0) pe_str)), ?_⟩
    refine ⟨.ref a, rfl, a, C, [.str "no part"], rfl, by show 1 ≤ 1000; decide, O, ha, ?_⟩
    refine ⟨.ref a, rfl, a, C, rfl, O, nw, .inl ⟨ha, fun dx ed nd => ?_⟩⟩
    refine q dx _ ed nd upd_same ?_ fun b n1 n2 => ?_
    · rw [upd_ne nd, upd_same]
      rfl
    · rw [upd_ne n1, upd_ne n2]
/-! ### least and greatest ways -/
theorem c_sum {X : Cx} {K : PySem.W.Frag} (hc : X.calm = true) (h : X.K = K := by rfl) : CallR X (.builtin "sum") (rSum K) := by
  subst h
  exact cr_sum hc
def prods (p ns : List Int) : List Int := List.zipWith (· * ·) p ns
def wsum (p ns : List Int) : Int := (prods p ns).sum
theorem prods_take {p q : List Int} {i : Nat} {x y : Int} (hp : p[i]? = some x) (hq : q[i]? = some y) : prods (p.take (i + 1)) (q.take (i + 1)) = prods (p.take i) (q.take i) ++ [x * y] := by
  unfold prods
  have h1 := (List.getElem?_eq_some_iff.mp hp).1
  have h2 := (List.getElem?_eq_some_iff.mp hq).1
  rw [List.take_succ, List.take_succ, hp, hq, List.zipWith_append (by rw [List.length_take, List.length_take]; omega)]
  rfl
theorem prods_comm (p q : List Int) : prods p q = prods q p := List.zipWith_comm_of_comm (fun x y => Int.mul_comm x y)
theorem prods_len {p q : List Int} {n : Nat} (hp : p.length = n) (hq : q.length = n) : (prods p q).length = n := by
  unfold prods
  rw [List.length_zipWith, hp, hq, Nat.min_self]
abbrev s_weighed : Stmt := topS 22
abbrev n_weighed : List Str := ["products", "numbers", "powers", "count", "a", "b"]
theorem sc_weighed : FnScope n_weighed ["products", "numbers"] (defScope s_weighed) := ⟨rfl, rfl, rfl, by decide +kernel, rfl, by decide +kernel, by decide +kernel⟩
def wsums (r : List Tm) (ns : List Int) : List Int := r.map fun a => wsum a.1 ns
def spWeighed : Sp := fun vs H Q _ => ∃ (a b : Addr) (ts : List Addr) (r : List Tm) (ns : List Int) (n : Nat), vs = [.ref a, .ref b] ∧ H a = some (.tup (ts.map V.ref)) ∧ TermsAt H ts r ∧ Wid n r ∧ H b = some (.lst (ns.map V.int)) ∧ ns.length = n ∧ n ≤ 8 ∧ r.length ≤ 400 ∧ (∀ a ∈ r, ∀ x ∈ a.1, x.natAbs < 2 ^ 60) ∧ (∀ x ∈ ns, x.natAbs < 2 ^ 1000) ∧
  ∀ (L : Addr) (H' : Hp), Same H H' → H L = none → H' L = some (.lst ((wsums r ns).map V.int)) → Q (.ref L) H'
theorem ok_weighed {f : Addr} {fd : FuncData} (F : Fun K "weighed" "weighed" s_weighed f fd) (T : Tx mg) : FnOk P w K mg base CX0 1 f fd ["products", "numbers"] spWeighed := by
  refine F.ok sc_weighed (fun vs H Q E h => ?_) (fun cdv A outer s H vs Q E hr h => ?_)
  · obtain ⟨a, b, ts, r, ns, n, rfl, _⟩ := h
    rfl
  · obtain ⟨a, b, ts, r, ns, n, rfl, ha, hT, wr, hb, ln, n8, lr, hpr, hns, q⟩ := h
    refine ⟨_, (pss_one (ps_ret (pe_lc (own := [("powers", 2), ("count", 3)]) (by rfl) sc_weighed.nd (p_tup (K := K) (pv 0)) (blkOk_by (own := [("powers", 2), ("count", 3)]) (N := n_weighed) (sc := defScope s_weighed) (by decide +kernel)) (fun _ _ _ _ _ => (g_tup (K := K) (n := 2) rfl (pgs_cons (pg_name (i := 2) sc_weighed.nd rfl (.inl rfl)) (pgs_cons (pg_name (i := 3) sc_weighed.nd rfl (.inl rfl)) pgs_nil)))) (fun _ _ _ _ _ => pts_nil) (fun _ _ _ _ _ => (pe_callB (c_sum (K := K) rfl) (by rfl) T.sum (by decide +kernel) (pa_cons (pe_lc (own := [("a", 4), ("b", 5)]) (by rfl) sc_weighed.nd (p_zipM (K := K) (by rfl) T.zip (pa_cons (pv 2) (pa_cons (pv 1) pa_nil))) (blkOk_by (own := [("a", 4), ("b", 5)]) (N := n_weighed) (sc := { kind := .function, names := [(".0", .local), ("powers", .local), ("count", .local), ("sum", .globalImplicit), ("zip", .globalImplicit), ("numbers", .cell)], isGenerator := false, isCoroutine := false }) (by decide +kernel)) (fun _ _ _ _ _ => (g_tup (K := K) (n := 2) rfl (pgs_cons (pg_name (i := 4) sc_weighed.nd rfl (.inl rfl)) (pgs_cons (pg_name (i := 5) sc_weighed.nd rfl (.inl rfl)) pgs_nil)))) (fun _ _ _ _ _ => pts_nil) (fun _ _ _ _ _ => (pe_op op_mulW (pv 4) (pv 5)))) pa_nil)))))), ?_⟩
    refine ⟨.ref a, rfl, a, rfl, ⟨_, SqT.of ha⟩, fun L eL => ?_⟩
    refine it_walk (walk_tup (K := K) (a := a) (xs := ts.map V.ref)) (fun i H' => H' L = some (.lst ((wsums (r.take i) ns).map V.int)) ∧ Same H H') ⟨upd_same, same_upd eL⟩ (fun i H' _ ⟨_, s⟩ => SqT.of (s _ _ ha)) ?_ ?_
    · rintro i v H1 H1' hi ⟨e1, s1⟩ ⟨rfl, ev⟩
      obtain ⟨t, et, rfl⟩ := ref_at ev
      obtain ⟨c, ec, pc, hp1, hp2⟩ := (hT.same s1).at et
      have hix := (List.getElem?_eq_some_iff.mp ec).1
      have lc := wr c (List.mem_of_getElem? ec)
      refine ⟨t, _, rfl, SqT.of hp1, rfl, _, _, rfl, _, _, rfl, rfl, rfl, ?_⟩
      refine ⟨.ref pc, rfl, .ref b, rfl, pc, b, c.1.map V.int, ns.map V.int, rfl, .inl ⟨SqT.of hp2, SqL.of (s1 _ _ hb), fun Z eZ => ?_⟩⟩
      have lm : n = min (c.1.map V.int).length (ns.map V.int).length := by rw [List.length_map, List.length_map, lc, ln, Nat.min_self]
      refine it_walk (walk_zipG (xs := c.1.map V.int) (ys := ns.map V.int) lm) (fun j H' => H' Z = some (.lst ((prods (c.1.take j) (ns.take j)).map V.int)) ∧ Same H1' H') ⟨upd_same, same_upd eZ⟩ (fun j H' _ ⟨_, s⟩ => ⟨SqT.of (s _ _ hp2), SqL.of (s _ _ (s1 _ _ hb))⟩) ?_ ?_
      · rintro j v2 H2 H2' hj ⟨e2, s2⟩ ⟨U, x, y, rfl, nU, rfl, hx, hy⟩
        obtain ⟨x, ex, rfl⟩ := int_at hx
        obtain ⟨y, ey, rfl⟩ := int_at hy
        have sU := same_upd (o := .tup [V.int x, .int y]) nU
        have hb := hns y (List.mem_of_getElem? ey)
        have hpw := hpr c (List.mem_of_getElem? ec) x (List.mem_of_getElem? ex)
        refine ⟨U, _, rfl, SqT.of upd_same, rfl, _, _, rfl, _, _, rfl, rfl, rfl, .int x, rfl, .int y, rfl, _, _, rfl, rfl, wide_mul hpw hb (by decide) (by decide) (by decide), ?_⟩
        refine ⟨_, sU _ _ e2, ?_, ?_, Same.updN (s2.trans sU) eZ⟩
        · rw [List.length_map]
          refine small1000 ?_
          unfold prods
          rw [List.length_zipWith, List.length_take, List.length_take]
          omega
        · rw [upd_same, prods_take ex ey, List.map_append]
          rfl
      · rintro H2 ⟨e2, s2⟩
        rw [List.take_of_length_le (by omega), List.take_of_length_le (by omega)] at e2
        refine ⟨Z, _, rfl, SqL.of e2, ?_⟩
        refine ⟨_, s2 _ _ e1, ?_, ?_, Same.updN (s1.trans s2) eL⟩
        · rw [List.length_map]
          unfold wsums
          rw [List.length_map, List.length_take]
          exact small1000 (by omega)
        · rw [upd_same]
          unfold wsums
          rw [List.take_succ, ec, List.map_append, List.map_append]
          rfl
    · rintro H1 ⟨e1, s1⟩
      rw [List.length_map, hT.1, List.take_length] at e1
      exact q L H1 s1 eL e1
def endO (g : Int → Int → Int) : List Int → V
  | [] => .non
  | n :: ms => .int (ms.foldl g n)
def spEndX (g : Int → Int → Int) (C CS : Addr) : Sp := fun vs H Q E => ∃ (a b : Addr) (n : Nat) (r : List Tm) (ns : List Int), vs = [.ref a, .ref b] ∧ SumAt C H a n r ∧ Wid n r ∧ H b = some (.lst (ns.map V.int)) ∧ n ≤ 8 ∧ r.length ≤ 400 ∧ (∀ a ∈ r, ∀ x ∈ a.1, x.natAbs < 2 ^ 60) ∧ (∀ x ∈ ns, x.natAbs < 2 ^ 1000) ∧
  (ns.length = n → ∀ H', Same H H' → Q (endO g (wsums r ns)) H') ∧ (ns.length ≠ n → ∀ (d : Addr) (H' : Hp), Same H H' → H' d = some (.xd (wordFs "bad sum")) → E (.ref CS) (some d) H')
abbrev s_least : Stmt := inClass (topS 35) 8
abbrev n_least : List Str := ["self", "numbers"]
theorem sc_least : FnScope n_least ["self", "numbers"] (defScope s_least) := ⟨rfl, rfl, rfl, by decide +kernel, rfl, by decide +kernel, by decide +kernel⟩
theorem ok_least {f : Addr} {fd : FuncData} (F : Fun K "least" "Sum.least" s_least f fd) (T : Tx mg) (S : SumC K mg C) (c_check : CalX P w K mg base 4 "check_width" ["width", "other"] (spCheckX CS)) (c_weighed : Cal P w K mg base CX0 1 "weighed" ["products", "numbers"] spWeighed) : FnOk P w K mg base (L2.CX P w) 5 f fd ["self", "numbers"] (spEndX min C CS) := by
  refine F.okX sc_least (fun vs H Q E h => ?_) (fun cdv A outer s H vs Q E hr h => ?_)
  · obtain ⟨a, b, n, r, ns, rfl, _⟩ := h
    rfl
  · obtain ⟨a, b, n, r, ns, rfl, ⟨dx, p, us, h1, h2, h3⟩, wr, hb, n8, lr, hpr, hns, q, qE⟩ := h
    have hu := hr.units
    refine ⟨_, (pss_cons (ps_expr (pe_calX c_check hr (by rfl) (passE rfl rfl rfl rfl) (pa_cons (pf (K := K) (pv 0)) (pa_cons (pe_callB (c_len (K := K)) (by rfl) T.len PySem.boot_len (pa_cons (pv 1) pa_nil)) pa_nil))))
  (pss_one (ps_ret (pe_callBK (cr_minD (K := K) rfl hu) (by rfl) T.min (by decide +kernel) (pa_cons (pe_cal c_weighed (hr.mono (by decide)) (by rfl) (pa_cons (pf (K := K) (pv 0)) (pa_cons (pv 1) pa_nil))) pa_nil) (pk_cons pe_non pk_nil))))), ?_⟩
    refine ⟨.ref a, rfl, a, C, dx, _, .int n, rfl, h1, S.cls, S.nw, rfl, .ref b, rfl, b, _, rfl, .inl (SqL.of hb), n, ns.length, by rw [List.length_map]; rfl, fun ln => ?_, fun ne => qE (fun z => ne z.symm)⟩
    have ln := ln.symm
    refine ⟨.ref a, rfl, a, C, dx, _, .ref p, rfl, h1, S.cls, S.np, rfl, .ref b, rfl, p, b, us, r, ns, n, rfl, h2, h3, wr, hb, ln, n8, lr, hpr, hns, fun L H1 s1 L0 e1 => ?_⟩
    refine ⟨L, wsums r ns, rfl, rfl, SqL.of e1, fun z => ?_, fun m ms z => ?_⟩
    · have := q ln H1 s1
      rw [z] at this
      exact this
    · have := q ln H1 s1
      rw [z] at this
      exact this
abbrev s_greatest : Stmt := inClass (topS 35) 9
abbrev n_greatest : List Str := ["self", "numbers"]
theorem sc_greatest : FnScope n_greatest ["self", "numbers"] (defScope s_greatest) := ⟨rfl, rfl, rfl, by decide +kernel, rfl, by decide +kernel, by decide +kernel⟩
theorem ok_greatest {f : Addr} {fd : FuncData} (F : Fun K "greatest" "Sum.greatest" s_greatest f fd) (T : Tx mg) (S : SumC K mg C) (c_check : CalX P w K mg base 4 "check_width" ["width", "other"] (spCheckX CS)) (c_weighed : Cal P w K mg base CX0 1 "weighed" ["products", "numbers"] spWeighed) : FnOk P w K mg base (L2.CX P w) 5 f fd ["self", "numbers"] (spEndX max C CS) := by
  refine F.okX sc_greatest (fun vs H Q E h => ?_) (fun cdv A outer s H vs Q E hr h => ?_)
  · obtain ⟨a, b, n, r, ns, rfl, _⟩ := h
    rfl
  · obtain ⟨a, b, n, r, ns, rfl, ⟨dx, p, us, h1, h2, h3⟩, wr, hb, n8, lr, hpr, hns, q, qE⟩ := h
    have hu := hr.units
    refine ⟨_, (pss_cons (ps_expr (pe_calX c_check hr (by rfl) (passE rfl rfl rfl rfl) (pa_cons (pf (K := K) (pv 0)) (pa_cons (pe_callB (c_len (K := K)) (by rfl) T.len PySem.boot_len (pa_cons (pv 1) pa_nil)) pa_nil))))
  (pss_one (ps_ret (pe_callBK (cr_maxD (K := K) rfl hu) (by rfl) T.max (by decide +kernel) (pa_cons (pe_cal c_weighed (hr.mono (by decide)) (by rfl) (pa_cons (pf (K := K) (pv 0)) (pa_cons (pv 1) pa_nil))) pa_nil) (pk_cons pe_non pk_nil))))), ?_⟩
    refine ⟨.ref a, rfl, a, C, dx, _, .int n, rfl, h1, S.cls, S.nw, rfl, .ref b, rfl, b, _, rfl, .inl (SqL.of hb), n, ns.length, by rw [List.length_map]; rfl, fun ln => ?_, fun ne => qE (fun z => ne z.symm)⟩
    have ln := ln.symm
    refine ⟨.ref a, rfl, a, C, dx, _, .ref p, rfl, h1, S.cls, S.np, rfl, .ref b, rfl, p, b, us, r, ns, n, rfl, h2, h3, wr, hb, ln, n8, lr, hpr, hns, fun L H1 s1 L0 e1 => ?_⟩
    refine ⟨L, wsums r ns, rfl, rfl, SqL.of e1, fun z => ?_, fun m ms z => ?_⟩
    · have := q ln H1 s1
      rw [z] at this
      exact this
    · have := q ln H1 s1
      rw [z] at this
      exact this
/-! ### worths -/
def goneB (n : Nat) (r : List Tm) (ts : List (Int × Int)) (k : Nat) : List Bool := (List.range k).map fun j => decide (foldI min (colP r j) < 0) && decide ((gP ts j).1 = 0)
def hasGone (n : Nat) (r : List Tm) (ts : List (Int × Int)) : Bool := (goneB n r ts n).any id
abbrev s_worth : Stmt := inClass (topS 35) 7
abbrev n_worth : List Str := ["self", "parts", "power", "top", "under"]
theorem sc_worth : FnScope n_worth ["self", "parts"] (defScope s_worth) := ⟨rfl, rfl, rfl, by decide +kernel, rfl, by decide +kernel, by decide +kernel⟩
def spWorthX (C CS CN : Addr) : Sp := fun vs H Q E => ∃ (a c : Addr) (n : Nat) (r : List Tm) (xs : List V), vs = [.ref a, .ref c] ∧ SumAt C H a n r ∧ H c = some (.lst xs) ∧ xs.length ≤ 1000 ∧ ((xs.length ≠ n ∧ ∀ (d : Addr) (H' : Hp), Same H H' → H' d = some (.xd (wordFs "bad sum")) → E (.ref CS) (some d) H') ∨
  ∃ (rs : List Addr) (ts : List (Int × Int)), xs = rs.map V.ref ∧ PartsAt H rs ts ∧ rs.length = n ∧ Wid n r ∧ n ≤ 8 ∧ r.length ≤ 12 ∧ (∀ x ∈ r, x.2.natAbs < 2 ^ 110) ∧ (r = [] → ∀ (p : Addr) (H' : Hp), Same H H' → PartAt H' p 0 1 → Q (.ref p) H') ∧
    (r ≠ [] → hasGone n r ts = true → ∀ (d : Addr) (H' : Hp), Same H H' → H' d = some (.xd (wordFs "no part")) → E (.ref CN) (some d) H') ∧
    (r ≠ [] → hasGone n r ts = false → Wt n (lz n r) (hz n r) ts ∧ ∀ (p : Addr) (H' : Hp) (t u : Int), Same H H' → PartAt H' p t u → Low (Lf r fun p => numN (lz n r) (hz n r) ts p n) (denN (lz n r) (hz n r) ts n) t u → Q (.ref p) H'))
theorem ok_worth {f : Addr} {fd fdN : FuncData} {cs : List Value} (F : Fun K "worth" "Sum.worth" s_worth f fd) (T : Tx mg) (S : SumC K mg C) (TN : ErrB K mg "NoPart" CN fN CB cs zdB zdN zdI zdL) (FN : FnOk P w K mg base CX0 1 fN fdN ["self"] (spErrInitB0 K zdB zdN zdI zdL "no part")) (bN : Binds K fdN ["self"] []) (c_check : CalX P w K mg base 4 "check_width" ["width", "other"] (spCheckX CS)) (c_lowest_powers : Cal P w K mg base CX0 1 "lowest_powers" ["products"] (spLowP min)) (c_worth_at : Cal P w K mg base CX0 3 "worth_at" ["products", "parts"] spWAt) : FnOk P w K mg base (L2.CX P w) 5 f fd ["self", "parts"] (spWorthX C CS CN) := by
  refine F.okX sc_worth (fun vs H Q E h => ?_) (fun cdv A outer s H vs Q E hr h => ?_)
  · obtain ⟨a, c, n, r, xs, rfl, _⟩ := h
    rfl
  · obtain ⟨a, c, n, r, xs, rfl, ⟨dx, p, us, h1, h2, h3⟩, hC, lxs, md⟩ := h
    have hu := hr.units
    refine ⟨_, (pss_cons (ps_expr (pe_calX c_check hr (by rfl) (passE rfl rfl rfl rfl) (pa_cons (pf (K := K) (pv 0)) (pa_cons (pe_callB (c_len (K := K)) (by rfl) T.len PySem.boot_len (pa_cons (pv 1) pa_nil)) pa_nil))))
  (pss_cons (ps_if (pt_cmpR op_eq (pe_callB (c_len (K := K)) (by rfl) T.len PySem.boot_len (pa_cons (pf (K := K) (pv 0)) pa_nil)) pe_int (nomark _))
    (pss_one (ps_ret (pe_tup (pa_cons pe_int (pa_cons pe_int pa_nil)))))
    pss_nil)
  (pss_cons (ps_if (pt_val (pe_callB (c_any (K := K) rfl) (by rfl) T.any (by decide +kernel) (pa_cons (pe_lc (own := [("power", 2), ("top", 3), ("under", 4)]) (by rfl) sc_worth.nd (p_zipM (K := K) (by rfl) T.zip (pa_cons (pe_cal c_lowest_powers (hr.mono (by decide)) (by rfl) (pa_cons (pf (K := K) (pv 0)) pa_nil)) (pa_cons (pv 1) pa_nil))) (blkOk_by (own := [("power", 2), ("top", 3), ("under", 4)]) (N := n_worth) (sc := defScope s_worth) (by decide +kernel)) (fun _ _ _ _ _ => (g_tup (K := K) (n := 2) rfl (pgs_cons (pg_name (i := 2) sc_worth.nd rfl (.inl rfl)) (pgs_cons (g_tup (K := K) (n := 2) rfl (pgs_cons (pg_name (i := 3) sc_worth.nd rfl (.inl rfl)) (pgs_cons (pg_name (i := 4) sc_worth.nd rfl (.inl rfl)) pgs_nil))) pgs_nil)))) (fun _ _ _ _ _ => pts_nil) (fun _ _ _ _ _ => (pe_and (pe_cmpR op_lt (pv 2) pe_int (nomark _)) (pe_one (pe_cmpR op_eq (pv 3) pe_int (nomark _)))))) pa_nil)))
    (pss_one (ps_raise rfl (takes_of rfl rfl rfl rfl) (pmkB0 TN.oex TN.iC TN.tI FN (hr.mono (by decide)) bN pass0 (by rfl) TN.g)))
    pss_nil)
  (pss_one (ps_ret (pe_cal c_worth_at (hr.mono (by decide)) (by rfl) (pa_cons (pf (K := K) (pv 0)) (pa_cons (pv 1) pa_nil)))))))), ?_⟩
    refine ⟨.ref a, rfl, a, C, dx, _, .int n, rfl, h1, S.cls, S.nw, rfl, .ref c, rfl, c, _, rfl, .inl (SqL.of hC), n, xs.length, rfl, fun ln => ?_, fun ne => ?_⟩
    rotate_left
    · rcases md with ⟨_, qE⟩ | ⟨rs, ts, rfl, hP, lrs, _⟩
      · exact qE
      · rw [List.length_map, lrs] at ne
        exact absurd rfl ne
    rcases md with ⟨ne, _⟩ | ⟨rs, ts, rfl, hP, lrs, wr, n8, l12, hct, q0, qE, q1⟩
    · exact absurd ln.symm ne
    refine ⟨.ref a, rfl, a, C, dx, _, .ref p, rfl, h1, S.cls, S.np, rfl, p, _, rfl, .inr (SqT.of h2), rfl, _, rfl, ite2 (fun z => ?_) (fun z => ?_)⟩
    · have z : ((us.map V.ref).length : Int) = 0 := V.int.inj (of_decide_eq_true z)
      rw [List.length_map, h3.1] at z
      have r0 : r = [] := List.eq_nil_of_length_eq_zero (by omega)
      refine ⟨by show 2 ≤ sizeLine; decide, fun w0 ew => ?_⟩
      exact q0 r0 w0 _ (same_upd ew) upd_same
    have r0 : r ≠ [] := fun k => z (decide_eq_true (congrArg V.int (by rw [List.length_map, h3.1, k]; rfl)))
    refine ⟨.ref a, rfl, a, C, dx, _, .ref p, rfl, h1, S.cls, S.np, rfl, p, us, r, n, rfl, h2, h3, wr, r0, n8, by omega, fun lo H1 s1 _ e1 => ?_⟩
    have hC1 := s1 _ _ hC
    have hP1 := hP.same s1
    refine ⟨.ref c, rfl, lo, c, _, _, rfl, .inl ⟨SqT.of e1, SqL.of hC1, fun D eD => ?_⟩⟩
    have lm : n = min (((List.range n).map fun j => foldI min (colP r j)).map V.int).length (rs.map V.ref).length := by rw [List.length_map, List.length_map, List.length_map, List.length_range, lrs, Nat.min_self]
    refine it_walk (walk_zipG (ys := rs.map V.ref) lm) (fun j H' => H' D = some (.lst ((goneB n r ts j).map V.bl)) ∧ Same H1 H') ⟨upd_same, same_upd eD⟩ (fun j H' _ ⟨_, s⟩ => ⟨SqT.of (s _ _ e1), SqL.of (s _ _ hC1)⟩) ?_ ?_
    · rintro j v H2 H2' hj ⟨e2, s2⟩ ⟨U, xv, yv, rfl, nU, rfl, hx, hy⟩
      have hj : j < n := hj
      obtain ⟨lv, elv, rfl⟩ := int_at hx
      obtain ⟨rr, err, rfl⟩ := ref_at hy
      have sU := same_upd (o := .tup [V.int lv, .ref rr]) nU
      obtain ⟨t, et, ht⟩ := (hP1.same (s2.trans sU)).at err
      have el : lv = foldI min (colP r j) := by
        rw [List.getElem?_map, List.getElem?_range hj] at elv
        exact (Option.some.inj elv).symm
      have gt := gP_of et
      have fin : ∀ bb : Bool, bb = (decide (foldI min (colP r j) < 0) && decide ((gP ts j).1 = 0)) → ∃ acc, upd H2 U (.tup [V.int lv, .ref rr]) D = some (.lst acc) ∧ acc.length < sizeLine ∧ upd (upd H2 U (.tup [V.int lv, .ref rr])) D (.lst (acc ++ [V.bl bb])) D = some (.lst ((goneB n r ts (j + 1)).map V.bl)) ∧ Same H1 (upd (upd H2 U (.tup [V.int lv, .ref rr])) D (.lst (acc ++ [V.bl bb]))) := fun bb eb => by
        refine ⟨_, sU _ _ e2, ?_, ?_, Same.updN (s2.trans sU) eD⟩
        · rw [List.length_map]
          unfold goneB
          rw [List.length_map, List.length_range]
          exact small1000 (by omega)
        · rw [upd_same, eb]
          unfold goneB
          rw [List.range_succ, List.map_append, List.map_append]
          rfl
      refine ⟨U, _, rfl, SqT.of upd_same, rfl, _, _, rfl, _, _, rfl, _, _, rfl, SqT.of ht, rfl, _, _, rfl, _, _, rfl, rfl, rfl, rfl, ?_⟩
      refine ⟨.int lv, rfl, _, _, rfl, rfl, _, rfl, ite2 (fun z => ?_) (fun z => ?_)⟩
      · refine ⟨.int t.1, rfl, rfl, ?_⟩
        refine fin _ ?_
        rw [← el, z, Bool.true_and, gt]
        by_cases h : t.1 = 0
        · rw [h, decide_eq_true rfl, decide_eq_true rfl]
        · rw [decide_eq_false h, decide_eq_false (fun k => h (V.int.inj k))]
      · refine fin _ ?_
        rw [← el, Bool.eq_false_iff.mpr z, Bool.false_and]
    rintro H2 ⟨e2, s2⟩
    have s12 := s1.trans s2
    refine ⟨D, _, rfl, SqL.of e2, ?_⟩
    cases hg : hasGone n r ts with
    | true =>
      refine ⟨true, congrArg V.bl hg, iteT ?_⟩
      exact raise_doneB TN fun d H' s hd => qE r0 hg d H' (s12.trans s) hd
    | false =>
      refine ⟨false, congrArg V.bl hg, iteF ?_⟩
      obtain ⟨W, q2⟩ := q1 r0 hg
      refine ⟨.ref a, rfl, a, C, dx, _, .ref p, rfl, s12 _ _ h1, S.cls, S.np, rfl, .ref c, rfl, p, c, us, r, n, rs, ts, rfl, s12 _ _ h2, h3.same s12, wr, r0, l12, hct, s12 _ _ hC, hP.same s12, W, fun p2 H3 t u s3 hp L => q2 p2 H3 t u (s12.trans s3) hp L⟩
abbrev s_lowest : Stmt := inClass (topS 35) 10
abbrev n_lowest : List Str := ["self"]
theorem sc_lowest : FnScope n_lowest ["self"] (defScope s_lowest) := ⟨rfl, rfl, rfl, by decide +kernel, rfl, by decide +kernel, by decide +kernel⟩
def spLowestM (C : Addr) : Sp := fun vs H Q _ => ∃ (a : Addr) (n : Nat) (r : List Tm), vs = [.ref a] ∧ SumAt C H a n r ∧ Wid n r ∧ n ≤ 8 ∧ r.length ≤ 400 ∧ (r = [] → Q .non H) ∧ (r ≠ [] → ∀ (p : Addr) (H' : Hp), Same H H' → H' p = some (.tup ((lowP n r).map V.int)) → Q (.ref p) H')
theorem ok_lowestM {f : Addr} {fd : FuncData} (F : Fun K "lowest" "Sum.lowest" s_lowest f fd) (T : Tx mg) (S : SumC K mg C) (c_lowest_powers : Cal P w K mg base CX0 1 "lowest_powers" ["products"] (spLowP min)) : FnOk P w K mg base CX0 2 f fd ["self"] (spLowestM C) := by
  refine F.ok sc_lowest (fun vs H Q E h => ?_) (fun cdv A outer s H vs Q E hr h => ?_)
  · obtain ⟨a, n, r, rfl, _⟩ := h
    rfl
  · obtain ⟨a, n, r, rfl, ⟨dx, p, us, h1, h2, h3⟩, wr, n8, lr, q0, q1⟩ := h
    refine ⟨_, (pss_one (ps_ret (pe_ifExp (pt_cmpR op_eq (pe_callB (c_len (K := K)) (by rfl) T.len PySem.boot_len (pa_cons (pf (K := K) (pv 0)) pa_nil)) pe_int (nomark _)) pe_non (pe_cal c_lowest_powers hr (by rfl) (pa_cons (pf (K := K) (pv 0)) pa_nil))))), ?_⟩
    refine ⟨.ref a, rfl, a, C, dx, _, .ref p, rfl, h1, S.cls, S.np, rfl, p, _, rfl, .inr (SqT.of h2), rfl, _, rfl, ite2 (fun z => ?_) (fun z => ?_)⟩
    · have z : ((us.map V.ref).length : Int) = 0 := V.int.inj (of_decide_eq_true z)
      rw [List.length_map, h3.1] at z
      exact q0 (List.eq_nil_of_length_eq_zero (by omega))
    · have r0 : r ≠ [] := fun k => z (decide_eq_true (congrArg V.int (by rw [List.length_map, h3.1, k]; rfl)))
      exact ⟨.ref a, rfl, a, C, dx, _, .ref p, rfl, h1, S.cls, S.np, rfl, p, us, r, n, rfl, h2, h3, wr, r0, n8, by omega, fun p2 H1 s1 _ e1 => q1 r0 p2 H1 s1 e1⟩
end
end Bw
set_option Elab.async false
set_option linter.all false
set_option maxRecDepth 100000
set_option maxHeartbeats 16000000
namespace Bw
open PySem PySem.Spec PyProof.Rows L2 LamX
abbrev s_law_word : Stmt := topS 42
theorem sc_law_word : FnScope ["_law_asked", "e"] ["_law_asked"] (defScope s_law_word) := ⟨rfl, rfl, rfl, by decide +kernel, rfl, by decide +kernel, by decide +kernel⟩
structure WordW (K : PySem.W.Frag) (mg : Str → Option Value) (base : Heap) (T : List (Addr × Str)) (g CB c1 c2 c3 c4 c P : Addr) (q : Str) (fd : FuncData) : Prop where
  F : Fun K "_law_word" "_law_word" s_law_word g fd
  gg : mg "_law_word" = some (.ref g)
  bb : L2.Binds K fd ["_law_asked"] []
  gB : mg "BudError" = some (.ref CB)
  m1 : mg "NoPart" = some (.ref c1)
  m2 : mg "NoPlace" = some (.ref c2)
  m3 : mg "Lacking" = some (.ref c3)
  m4 : mg "NothingLeft" = some (.ref c4)
  TB : TabB base mg c P
  mem : (P, q) ∈ T
  un : ∀ p ∈ T, p.1 = P → p.2 = q
theorem pe_wd {X : Cx} {T : List (Addr × Str)} {g CB c1 c2 c3 c4 c P : Addr} {q : Str} {fd : FuncData} {k : Nat} {params : Arguments} {body : Expr} {scope : Scope} {t : XK → TE} {p lpos pos : Pos} (W : WordW X.K X.mg X.base T g CB c1 c2 c3 c4 c P q fd) (hcode : X.env.code = .ref c) (hr : Room (k + 2) X.A) (hg : Gl X "_law_word") (L : LamS X.env.scope scope)
    (hbody : ∀ (A : Around) (outer : List Env) (s : Shared) (H : Hp) (E : XK) (f c' : Addr), Room k (A.deeper (lamEnv X scope s.heap.objs.size f c')) → PE (lamCx X A outer s H E scope f c') body (t E)) (hq : X.env.qual ++ "<lambda>" = q := by rfl) (hdef : defaultsOf params X.env = ([], []) := by rfl)
    (hbind : ∀ (q : Str) (cl : List (Str × Addr)) (pm cv ctv : Value), bindArgs (PySem.W.kla_fn "<lambda>" q params body scope cl pm cv ctv) ⟨[], []⟩ = pure [] := by intros; rfl) :
    PE X (.Call (.Name "_law_word" p) [.Lambda params body scope lpos] [] pos) (tLam T (TWordW X.K CB [.ref c1, .ref c2, .ref c3, .ref c4]) t) := by
  have hm := W.mem
  have hun := W.un
  rw [← hq] at hm hun
  exact pe_wordW W.F W.gg W.bb sc_law_word (.inl rfl) (fun cdv => word_givesW rfl W.gB rfl W.m1 rfl W.m2 rfl W.m3 rfl W.m4 (by decide) rfl rfl (fun f => rfl)) W.TB hcode hm hun hr hg L hbody hdef hbind
theorem Falls.nd {r : List Tm} (h : Falls r) : NdB r := by
  unfold NdB List.Nodup
  rw [List.pairwise_map]
  exact h.imp fun {a b} z => Ne.symm (lex_ne z)
theorem Lf_ind_nd {r : List Tm} (nd : NdB r) {p : List Int} {c : Int} (h : (p, c) ∈ r) : Lf r (ind p) = c := by
  induction r with
  | nil => cases h
  | cons a r ih =>
    have nd' := List.nodup_cons.mp nd
    rw [Lf_cons]
    rcases List.mem_cons.mp h with e | h
    · subst e
      rw [Lf_ind_none fun b hb e => nd'.1 (List.mem_map.mpr ⟨b, hb, e⟩)]
      show c * ind p p + 0 = c
      unfold ind
      rw [if_pos rfl]
      omega
    · have ne : a.1 ≠ p := fun e => nd'.1 (List.mem_map.mpr ⟨(p, c), h, e.symm⟩)
      rw [ih nd'.2 h]
      unfold ind
      rw [if_neg ne]
      omega
theorem nd_mem {r : List Tm} (nd : NdB r) (nz : ∀ a ∈ r, a.2 ≠ 0) (p : List Int) (c : Int) : (p, c) ∈ r ↔ c ≠ 0 ∧ Lf r (ind p) = c := by
  constructor
  · intro m
    exact ⟨nz _ m, Lf_ind_nd nd m⟩
  · rintro ⟨hc, e⟩
    by_cases m : ∃ a ∈ r, a.1 = p
    · obtain ⟨a, ha, rfl⟩ := m
      rw [Lf_ind_nd nd (p := a.1) (c := a.2) ha] at e
      rw [← e]
      exact ha
    · rw [Lf_ind_none fun a ha e' => m ⟨a, ha, e'⟩] at e
      exact absurd e.symm hc
theorem nd_nodup {r : List Tm} (nd : NdB r) : r.Nodup := by
  unfold NdB List.Nodup at nd
  rw [List.pairwise_map] at nd
  exact nd.imp fun {a b} z (e : a = b) => z (congrArg Prod.fst e)
theorem Cn.perm {n M : Nat} {ℓ : (List Int → Int) → Int} {r bk : List Tm} (cn : Cn ℓ r) (B : BookOf n M ℓ bk) : r.Perm bk := by
  refine (List.perm_ext_iff_of_nodup (nd_nodup cn.fall.nd) (nd_nodup B.nd)).mpr fun a => ?_
  obtain ⟨p, c⟩ := a
  rw [nd_mem cn.fall.nd cn.nz, nd_mem B.nd B.nz, cn.lf, B.lf]
/-- all stays but the feed and tables -/
def Kp (f : Addr) (H H' : Hp) : Prop := ∀ (b : Addr) (o : HO), b ≠ f → (∀ ps, o ≠ .tbl ps) → H b = some o → H' b = some o
theorem Kp.refl {f : Addr} {H : Hp} : Kp f H H := fun _ _ _ _ e => e
theorem Kp.trans {f : Addr} {H H' H'' : Hp} (h : Kp f H H') (k : Kp f H' H'') : Kp f H H'' := fun b o n t e => k b o n t (h b o n t e)
theorem Kp.same {f : Addr} {H H' H'' : Hp} (h : Kp f H H') (s : Same H' H'') : Kp f H H'' := fun b o n t e => s _ _ (h b o n t e)
theorem Kp.but {f : Addr} {H H' H'' : Hp} (h : Kp f H H') (s : SameBut f H' H'') : Kp f H H'' := fun b o n t e => s _ _ n (h b o n t e)
theorem Kp.ext {f : Addr} {H H' H'' : Hp} (h : Kp f H H') (s : ExtN H' H'') : Kp f H H'' := fun b o n t e => s _ _ (h b o n t e) t
theorem Kp.updN {f D : Addr} {H H' : Hp} {o : HO} (h : Kp f H H') (e : H D = none) : Kp f H (upd H' D o) := fun b u n t k => by
  have : b ≠ D := fun z => by
    rw [z, e] at k
    cases k
  rw [upd_ne this]
  exact h b u n t k
section
variable {f l : Addr} {H H' : Hp}
theorem Kp.tup {b : Addr} {xs : List V} (k : Kp f H H') (hf : FeedAt H f l) (e : H b = some (.tup xs)) : H' b = some (.tup xs) := k b _ (hf.neO e (fun ys z => by cases z)) (fun ps z => by cases z) e
theorem Kp.lst {b : Addr} {xs : List V} (k : Kp f H H') (n : b ≠ f) (e : H b = some (.lst xs)) : H' b = some (.lst xs) := k b _ n (fun ps z => by cases z) e
theorem SumAt.kp {C a : Addr} {n : Nat} {r : List Tm} (k : Kp f H H') (hf : FeedAt H f l) (h : SumAt C H a n r) : SumAt C H' a n r := by
  obtain ⟨dx, p, us, h1, h2, h3⟩ := h
  exact ⟨dx, p, us, k _ _ (hf.neO h1 (fun xs z => by cases z)) (fun ps z => by cases z) h1, k.tup hf h2, h3.keep fun b xs e => k.tup hf e⟩
theorem BkAt.kp {d : Addr} {bk : List Tm} (k : Kp f H H') (hf : FeedAt H f l) (h : BkAt H d bk) : BkAt H' d bk := k _ _ (hf.neO h (fun xs z => by cases z)) (fun ps z => by cases z) h
theorem PartsAt.kp {rs : List Addr} {ts : List (Int × Int)} (k : Kp f H H') (hf : FeedAt H f l) (h : PartsAt H rs ts) : PartsAt H' rs ts := ⟨h.1, fun j t e => by
  obtain ⟨r, h1, h2⟩ := h.2 j t e
  exact ⟨r, h1, k.tup hf h2⟩⟩
theorem PartsAt.snoc {rs : List Addr} {ts : List (Int × Int)} {r : Addr} {t u : Int} (h : PartsAt H rs ts) (hr : PartAt H r t u) : PartsAt H (rs ++ [r]) (ts ++ [(t, u)]) := by
  refine ⟨by rw [List.length_append, List.length_append, h.1]; rfl, fun i x e => ?_⟩
  by_cases z : i < ts.length
  · rw [List.getElem?_append_left z] at e
    obtain ⟨d, e1, e2⟩ := h.2 i x e
    exact ⟨d, by rw [List.getElem?_append_left (by rw [h.1]; exact z)]; exact e1, e2⟩
  · rw [List.getElem?_append_right (by omega)] at e
    have z2 : i - ts.length = 0 := by
      have := (List.getElem?_eq_some_iff.mp e).1
      simp at this
      omega
    rw [z2] at e
    cases (Option.some.inj e)
    refine ⟨r, ?_, hr⟩
    rw [List.getElem?_append_right (by rw [h.1]; omega), h.1, z2]
    rfl
theorem PartsAt.put {D : Addr} {xs ys : List V} {rs : List Addr} {ts : List (Int × Int)} (h : PartsAt H rs ts) (e : H D = some (.lst xs)) : PartsAt (upd H D (.lst ys)) rs ts := ⟨h.1, fun j t et => by
  obtain ⟨r, h1, h2⟩ := h.2 j t et
  refine ⟨r, h1, ?_⟩
  show upd _ _ _ _ = _
  rw [upd_ne (ne_of h2 e (fun z => by cases z))]
  exact h2⟩
end
theorem dp_rows {K : PySem.W.Frag} {H : Hp} : ∀ {ks : List Addr} {ps : List (List Int)}, ks.length = ps.length → (∀ (i : Nat) (p : List Int), ps[i]? = some p → ∃ k, ks[i]? = some k ∧ H k = some (.tup (p.map V.int))) → DpAll K H (ks.map V.ref) (ps.map rowD)
  | [], [], _, _ => .nil
  | [], _ :: _, h, _ => by simp at h
  | _ :: _, [], h, _ => by simp at h
  | k :: ks, p :: ps, h, g => by
    obtain ⟨k', e, hk⟩ := g 0 p rfl
    cases (Option.some.inj e)
    exact .cons (.tup (SqT.of hk) (dp_ints p)) (dp_rows (by simpa using h) fun i q e => g (i + 1) q e)
def tsP (ts : List (Int × Int)) : List (List Int) := ts.map fun t => [t.1, t.2]
theorem parts_rows {H : Hp} {rs : List Addr} {ts : List (Int × Int)} (h : PartsAt H rs ts) : rs.length = (tsP ts).length ∧ ∀ (i : Nat) (p : List Int), (tsP ts)[i]? = some p → ∃ k, rs[i]? = some k ∧ H k = some (.tup (p.map V.int)) := by
  refine ⟨by unfold tsP; rw [List.length_map, h.1], fun i p e => ?_⟩
  unfold tsP at e
  rw [List.getElem?_map] at e
  obtain ⟨t, et, rfl⟩ := Option.map_eq_some_iff.mp e
  exact h.2 i t et
theorem Low.zero {u : Int} : Low 0 u 0 1 := ⟨by omega, by decide, by decide⟩
def OkP (ts : List (Int × Int)) : Prop := ∀ t ∈ ts, t.1.natAbs ≤ 16 ∧ t.2.natAbs ≤ 16 ∧ 0 < t.2
theorem gP_mem {ts : List (Int × Int)} {j : Nat} (h : j < ts.length) : gP ts j ∈ ts := by
  rw [gP_of (List.getElem?_eq_getElem h)]
  exact List.getElem_mem h
theorem wt_zero {n : Nat} {ts : List (Int × Int)} (lt : ts.length = n) (n8 : n ≤ 8) (ok : OkP ts) : Wt n (List.replicate n 0) (List.replicate n 0) ts := by
  have z : ∀ j, j < n → gI (List.replicate n 0) j = 0 := fun j hj => gI_of (by rw [List.getElem?_replicate, if_pos hj])
  refine ⟨lt, n8, fun j hj => by rw [z j hj]; decide, fun j hj => by rw [z j hj]; decide, fun j hj => ?_⟩
  obtain ⟨a, b, c⟩ := ok _ (gP_mem (show j < ts.length by omega))
  exact ⟨a, b, c, fun h => by rw [z j hj] at h; omega⟩
theorem wt_of {n : Nat} {r : List Tm} {ts : List (Int × Int)} (lt : ts.length = n) (n8 : n ≤ 8) (ok : OkP ts) (r0 : r ≠ []) (wb : ∀ a ∈ r, ∀ j, j < n → -4 ≤ gI a.1 j ∧ gI a.1 j ≤ 4) (hg : hasGone n r ts = false) : Wt n (lz n r) (hz n r) ts := by
  have ne : ∀ j, colP r j ≠ [] := fun j h => r0 (List.map_eq_nil_iff.mp h)
  have mn : ∀ j, j < n → -4 ≤ foldI min (colP r j) ∧ foldI min (colP r j) ≤ 4 := fun j hj => by
    obtain ⟨a, ha, e⟩ := List.mem_map.mp (foldI_min (ne j)).1
    rw [← e]
    exact wb a ha j hj
  have mx : ∀ j, j < n → -4 ≤ foldI max (colP r j) ∧ foldI max (colP r j) ≤ 4 := fun j hj => by
    obtain ⟨a, ha, e⟩ := List.mem_map.mp (foldI_max (ne j)).1
    rw [← e]
    exact wb a ha j hj
  refine ⟨lt, n8, fun j hj => ?_, fun j hj => ?_, fun j hj => ?_⟩
  · have := mn j hj
    rw [lz_at hj]
    split <;> omega
  · have := mx j hj
    rw [hz_at hj]
    split <;> omega
  · obtain ⟨a, b, c⟩ := ok _ (gP_mem (show j < ts.length by omega))
    refine ⟨a, b, c, fun h t0 => ?_⟩
    rw [lz_at hj] at h
    have h : foldI min (colP r j) < 0 := by
      split at h
      · assumption
      · omega
    have : hasGone n r ts = true := by
      unfold hasGone goneB
      rw [List.any_map, List.any_eq_true]
      exact ⟨j, List.mem_range.mpr hj, by
        show (decide _ && decide _) = true
        rw [decide_eq_true h, decide_eq_true t0]
        rfl⟩
    rw [hg] at this
    cases this
/-- those of a book that lack -/
def goneL (ts : List (Int × Int)) (k : Nat) : List Nat := (List.range k).filter fun j => decide ((gP ts j).1 = 0)
def shortB (gs : List Nat) (p : List Int) : Bool := (gs.map fun k => decide (gI p k < 0)).any id
theorem short_gone {n : Nat} {r bk : List Tm} {ts : List (Int × Int)} (pm : r.Perm bk) : (∀ a ∈ bk, shortB (goneL ts n) a.1 = false) ↔ (r ≠ [] → hasGone n r ts = false) := by
  constructor
  · intro h r0
    refine Bool.eq_false_iff.mpr fun z => ?_
    unfold hasGone goneB at z
    rw [List.any_map, List.any_eq_true] at z
    obtain ⟨j, hj, z⟩ := z
    have z : (decide (foldI min (colP r j) < 0) && decide ((gP ts j).1 = 0)) = true := z
    rw [Bool.and_eq_true] at z
    have ne : colP r j ≠ [] := fun h => r0 (List.map_eq_nil_iff.mp h)
    obtain ⟨a, ha, e⟩ := List.mem_map.mp (foldI_min ne).1
    have e : gI a.1 j = foldI min (colP r j) := e
    have := h a (pm.mem_iff.mp ha)
    unfold shortB at this
    rw [List.any_map, List.any_eq_false] at this
    refine this j (List.mem_filter.mpr ⟨hj, z.2⟩) ?_
    show decide (gI a.1 j < 0) = true
    rw [e]
    exact z.1
  · intro h a ha
    have mr := pm.mem_iff.mpr ha
    have r0 : r ≠ [] := fun z => by rw [z] at mr; cases mr
    have h := h r0
    refine Bool.eq_false_iff.mpr fun z => ?_
    unfold shortB at z
    rw [List.any_map, List.any_eq_true] at z
    obtain ⟨j, hj, z⟩ := z
    obtain ⟨h1, h2⟩ := List.mem_filter.mp hj
    unfold hasGone goneB at h
    rw [List.any_map, List.any_eq_false] at h
    refine h j h1 ?_
    show (decide (foldI min (colP r j) < 0) && decide ((gP ts j).1 = 0)) = true
    have m : gI a.1 j ∈ colP r j := List.mem_map.mpr ⟨a, mr, rfl⟩
    have ne : colP r j ≠ [] := fun h => by rw [h] at m; cases m
    have h3 := (foldI_min ne).2 _ m
    have z : gI a.1 j < 0 := of_decide_eq_true z
    rw [Bool.and_eq_true]
    exact ⟨decide_eq_true (by omega), h2⟩
theorem worth_some {C CS CN x c : Addr} {n : Nat} {r : List Tm} {rs : List Addr} {ts : List (Int × Int)} {H : Hp} {Q : VK} {E : XK} (hX : SumAt C H x n r) (hC : H c = some (.lst (rs.map V.ref))) (hP : PartsAt H rs ts) (lts : ts.length = n) (wr : Wid n r) (n8 : n ≤ 8) (l12 : r.length ≤ 12) (hct : ∀ x ∈ r, x.2.natAbs < 2 ^ 110) (ok : OkP ts) (wb : ∀ a ∈ r, ∀ j, j < n → -4 ≤ gI a.1 j ∧ gI a.1 j ≤ 4) (hg : r ≠ [] → hasGone n r ts = false)
    (k : ∀ (p : Addr) (H' : Hp) (t u : Int) (l m : List Int), Same H H' → PartAt H' p t u → Wt n l m ts → (∀ a ∈ r, Adm n l m a.1) → Low (Lf r fun p => numN l m ts p n) (denN l m ts n) t u → Q (.ref p) H') : spWorthX C CS CN [.ref x, .ref c] H Q E := by
  have lrs : rs.length = n := hP.1.trans lts
  refine ⟨x, c, n, r, _, rfl, hX, hC, by rw [List.length_map]; omega, .inr ⟨rs, ts, rfl, hP, lrs, wr, n8, l12, hct, fun r0 p H' s hp => ?_, fun r0 h => ?_, fun r0 h => ⟨wt_of lts n8 ok r0 wb h, fun p H' t u s hp L => ?_⟩⟩⟩
  · subst r0
    exact k p H' 0 1 _ _ s hp (wt_zero lts n8 ok) (fun a ha => by cases ha) Low.zero
  · rw [hg r0] at h
    cases h
  · exact k p H' t u _ _ s hp (wt_of lts n8 ok r0 wb h) (fun a ha => adm_of wr ha) L
theorem list_eqv0 (ps : List (List Int)) : PyData.eqv (.list (ps.map rowD)) (.list (([] : List Int).map .int)) = decide (ps = []) := by
  cases ps with
  | nil => rfl
  | cons p ps =>
    simp only [PyData.eqv]
    rfl
section
variable {P : Program} {w : World} {K : PySem.W.Frag} {mg : Str → Option Value} {base : Heap} {C CN CS fN CE c2' c3' c4' : Addr}
abbrev s_law_worth_so : Stmt := topS 53
abbrev n_law_worth_so : List Str := ["_law_feed_here", "_law_found", "_law_book_here", "_law_width", "_law_worths", "_law_gone", "_law_short", "_law_handed", "_law_good", "_law_k", "_law_powers_here"]
theorem sc_law_worth_so : FnScope n_law_worth_so ["_law_feed_here", "_law_found", "_law_book_here", "_law_width"] (defScope s_law_worth_so) := ⟨rfl, rfl, rfl, by decide +kernel, rfl, by decide +kernel, by decide +kernel⟩
def spWSo (C : Addr) (Ts : List (Addr × Str)) : Sp := fun vs H Q _ => ∃ (f l x d : Addr) (n M : Nat) (r bk : List Tm) (ℓ : (List Int → Int) → Int), vs = [.ref f, .ref x, .ref d, .int n] ∧ FeedAt H f l ∧ Tabs Ts H ∧ SumAt C H x n r ∧ BkAt H d bk ∧ n ≤ 8 ∧ Cn ℓ r ∧ BookOf n M ℓ bk ∧ M < 2 ^ 110 ∧ bk.length ≤ 12 ∧ (∀ a ∈ bk, ∀ j, j < n → -4 ≤ gI a.1 j ∧ gI a.1 j ≤ 4) ∧ ∀ H', Kp f H H' → FeedAt H' f l → Tabs Ts H' → Q (.bl true) H'
theorem ok_wso {f gW cc Pt : Addr} {fdW : FuncData} {oc kV doc pm ct : Value} {od an : Option Addr} {osl : Array (Option Value)} {Ts : List (Addr × Str)} (lk : K.lookup f = some ⟨oc, od, .func (PySem.W.fnOf "_law_worth_so" "_law_worth_so" (defArgs s_law_worth_so) (defBody s_law_worth_so) (defScope s_law_worth_so) .none kV doc pm an (.ref cc) ct), osl⟩) (hcd : PySem.W.codeIn K (.ref cc) "_law_worth_so" = true) (T : Tx mg) (S : SumC K mg C) (TN : ErrB K mg "NoPart" CN fN CE [.ref CN, .ref c2', .ref c3', .ref c4'] zdB zdN zdI zdL)
    (c_law_draw : Cal P w K mg base CX0 1 "_law_draw" ["_law_feed_here", "_law_many"] spDraw) (c_law_low : Cal P w K mg base CX0 2 "_law_low" ["_law_top", "_law_under"] spLLow) (c_law_same : Cal P w K mg base CX0 4 "_law_same" ["_law_found", "_law_due"] (spSame 3)) (c_law_worth : Cal P w K mg base CX0 4 "_law_worth" ["_law_book_here", "_law_parts"] spLWorth) (m_worth : MetX P w K mg base 5 C "worth" ["self", "parts"] (spWorthX C CS CN))
    (WB : WordW K mg base Ts gW CE CN c2' c3' c4' cc Pt (qL "_law_worth_so") fdW) : FnOk P w K mg base CX0 10 f (PySem.W.fnOf "_law_worth_so" "_law_worth_so" (defArgs s_law_worth_so) (defBody s_law_worth_so) (defScope s_law_worth_so) .none kV doc pm an (.ref cc) ct) ["_law_feed_here", "_law_found", "_law_book_here", "_law_width"] (spWSo C Ts) := by
  refine fn_of lk hcd sc_law_worth_so (fun vs H Q E h => ?_) (fun A outer s H vs Q E hr h => ?_)
  · obtain ⟨f, l, x, d, n, M, r, bk, ℓ, rfl, _⟩ := h
    rfl
  · obtain ⟨f, l, x, d, n, M, r, bk, ℓ, rfl, hf, tb, hX, hB, n8, cn, B, hM, lbk, wb, q⟩ := h
    suffices hh : ∃ t, PSs (cxOf CX0 P w K mg base n_law_worth_so "_law_worth_so" (defScope s_law_worth_so) _ (.ref cc) A outer s H E).nox (defBody s_law_worth_so) t ∧ t { nx := fun _ H' => Q .non H', rt := Q } (L2.start n_law_worth_so [.ref f, .ref x, .ref d, .int n]) H by
      obtain ⟨t, h1, h2⟩ := hh
      exact ⟨t, h1.nox, h2⟩
    have hu := hr.units
    refine ⟨_, (pss_cons (ps_set (i := 4) sc_law_worth_so.nd rfl (.inr rfl) (pe_lc (own := [("_law_k", 9)]) (by rfl) sc_law_worth_so.nd (pi_range1 (by rfl) T.range (pa_cons (pv 3) pa_nil)) (blkOk_by (own := [("_law_k", 9)]) (N := n_law_worth_so) (sc := defScope s_law_worth_so) (by decide +kernel)) (fun _ _ _ _ _ => (pg_name (i := 9) sc_law_worth_so.nd rfl (.inl rfl))) (fun _ _ _ _ _ => pts_nil) (fun _ _ _ _ _ => (pe_cal c_law_low (hr.mono (by decide)) (by rfl) (pa_cons (pe_op op_sub (pe_cal c_law_draw (hr.mono (by decide)) (by rfl) (pa_cons (pv 0) (pa_cons pe_int pa_nil))) pe_int) (pa_cons (pe_op op_add pe_int (pe_cal c_law_draw (hr.mono (by decide)) (by rfl) (pa_cons (pv 0) (pa_cons pe_int pa_nil)))) pa_nil))))))
  (pss_cons (ps_set (i := 5) sc_law_worth_so.nd rfl (.inr rfl) (pe_lc (own := [("_law_k", 9)]) (by rfl) sc_law_worth_so.nd (pi_range1 (by rfl) T.range (pa_cons (pv 3) pa_nil)) (blkOk_by (own := [("_law_k", 9)]) (N := n_law_worth_so) (sc := defScope s_law_worth_so) (by decide +kernel)) (fun _ _ _ _ _ => (pg_name (i := 9) sc_law_worth_so.nd rfl (.inl rfl))) (fun _ _ _ _ _ => pts_one (pt_cmpR op_eq (pe_ix (i_tup (K := K)) (pe_ix (i_list (K := K)) (pv 4) (pv 9) (fun _ _ => rfl)) pe_int (fun _ _ => rfl)) pe_int (nomark _))) (fun _ _ _ _ _ => (pv 9))))
  (pss_cons (ps_lock (ps_setLc (i := 6) (own := [("_law_powers_here", 10)]) (by rfl) sc_law_worth_so.nd rfl rfl (sw_true rfl rfl rfl (by decide +kernel)) (pi_keys (pv 2)) (blkOk_by (own := [("_law_powers_here", 10)]) (N := n_law_worth_so) (sc := defScope s_law_worth_so) (by decide +kernel)) (fun _ _ _ _ _ => (pg_name (i := 10) sc_law_worth_so.nd rfl (.inr rfl))) (fun _ _ _ _ _ => pts_one (pt_val (pe_callB (c_any (K := K) rfl) (by rfl) T.any (by decide +kernel) (pa_cons (pe_lc (own := [("_law_k", 9)]) (by rfl) sc_law_worth_so.nd (p_list (K := K) (pv 5)) (blkOk_by (own := [("_law_k", 9)]) (N := n_law_worth_so) (sc := { kind := .function, names := [(".0", .local), ("_law_powers_here", .cell), ("any", .globalImplicit), ("_law_gone", .cell)], isGenerator := false, isCoroutine := false }) (by decide +kernel)) (fun _ _ _ _ _ => (pg_name (i := 9) sc_law_worth_so.nd rfl (.inl rfl))) (fun _ _ _ _ _ => pts_nil) (fun _ _ _ _ _ => (pe_cmpR op_lt (pe_ix (i_tup (K := K)) (pv 10) (pv 9) (fun _ _ => rfl)) pe_int (nomark _)))) pa_nil)))) (fun _ _ _ _ _ => (pv 10))))
  (pss_cons (ps_set (i := 7) sc_law_worth_so.nd rfl (.inr rfl) (pe_callTy (c_lst (K := K)) (by rfl) T.list (by decide +kernel) (pa_cons (pv 4) pa_nil)))
  (pss_cons (ps_if (pt_cmpR (o_neD (K := K) hu) (pv 6) (pe_lst pa_nil) (nomark _))
    (pss_one (ps_set (i := 8) sc_law_worth_so.nd rfl (.inl rfl) (pe_cmpR op_eq (pe_wd (k := 7) WB rfl hr (by rfl) (lamS_by (sc := defScope s_law_worth_so) (by decide +kernel)) (fun A outer s H E f c' hr' => pe_mtX m_worth (hr'.mono (by decide)) (passE rfl rfl rfl rfl) (pv 1) (pa_cons (pv 7) pa_nil))) pe_str (nomark _))))
    (pss_one (ps_set (i := 8) sc_law_worth_so.nd rfl (.inl rfl) (pe_cal c_law_same (hr.mono (by decide)) (by rfl) (pa_cons (pe_mtX m_worth (hr.mono (by decide)) passL (pv 1) (pa_cons (pv 7) pa_nil)) (pa_cons (pe_cal c_law_worth (hr.mono (by decide)) (by rfl) (pa_cons (pv 2) (pa_cons (pv 4) pa_nil))) pa_nil))))))
  (pss_one (ps_ret (pe_and (pv 8) (pe_one (pe_cmpR (o_eqD (K := K) hu) (pv 7) (pv 4) (nomark _))))))))))), ?_⟩
    have pm := cn.perm B
    have lr : r.length = bk.length := pm.length_eq
    have wr : Wid n r := (fun a ha => (B.sz a (pm.mem_iff.mp ha)).1)
    -- the parts
    refine ⟨.int n, rfl, n, rfl, by omega, by omega, fun D eD => ?_⟩
    have nDf : D ≠ f := hf.ne eD
    have nDl : D ≠ l := hf.ne2 eD
    refine lc_range (fun j H' => ∃ (rs : List Addr) (ts : List (Int × Int)), ts.length = j ∧ H' D = some (.lst (rs.map V.ref)) ∧ FeedAt H' f l ∧ Tabs Ts H' ∧ Kp f H H' ∧ PartsAt H' rs ts ∧ OkP ts) ⟨[], [], rfl, upd_same, hf.same (same_upd eD), tb.ext (same_upd eD), Kp.refl.updN eD, ⟨rfl, fun i t e => by simp at e⟩, fun t ht => by cases ht⟩ ?_ ?_
    · rintro j H1 hj ⟨rs, ts, lj, e1, hf1, tb1, k1, hP1, ok1⟩
      have hj : j < n := hj
      refine ⟨rfl, .ref f, rfl, f, l, 21, rfl, hf1, by decide, by decide, fun u H2 u0 u1' sb2 hf2 => ⟨_, _, rfl, rfl, ?_⟩⟩
      refine ⟨.ref f, rfl, f, l, 9, rfl, hf2, by decide, by decide, fun v H3 v0 v1 sb3 hf3 => ⟨_, _, rfl, rfl, ?_⟩⟩
      refine ⟨_, _, rfl, by omega, Nat.lt_of_le_of_lt (show (1 + v).natAbs ≤ 9 by omega) (by decide), fun p H4 t u' s4 p0 hp L => ?_⟩
      obtain ⟨b1, b2⟩ := L.le (by omega)
      have up := L.pos
      have e4 := s4 _ _ (sb3 _ _ nDf (sb2 _ _ nDf e1))
      have hf4 := hf3.same s4
      have k4 := ((k1.but sb2).but sb3).same s4
      have tb4 := (Tabs.but sb3 hf2 (Tabs.but sb2 hf1 tb1)).ext s4
      have hP4 : PartsAt H4 rs ts := hP1.kp ((Kp.refl.but sb2 |>.but sb3).same s4) hf1
      refine ⟨_, e4, by rw [List.length_map, hP1.1, lj]; exact small1000 (by omega), rs ++ [p], ts ++ [(t, u')], by rw [List.length_append, lj]; rfl, by rw [upd_same, List.map_append]; rfl, hf4.put nDf nDl, Tabs.put tb4 e4, k4.updN eD, ?_, fun x hx => ?_⟩
      · exact (hP4.snoc hp).put e4
      · rcases List.mem_append.mp hx with hx | hx
        · exact ok1 x hx
        · rw [List.mem_singleton.mp hx]
          exact ⟨by show t.natAbs ≤ 16; omega, by show u'.natAbs ≤ 16; omega, up⟩
    rintro H1 ⟨rs, ts, lj, e1, hf1, tb1, k1, hP1, ok1⟩
    have lts : ts.length = n := lj
    have lrs : rs.length = n := hP1.1.trans lts
    -- gone
    refine ⟨.int n, rfl, n, rfl, by omega, by omega, fun G eG => ?_⟩
    refine lc_range (fun j H' => H' G = some (.lst ((goneL ts j).map fun (k : Nat) => V.int k)) ∧ Same H1 H') ⟨upd_same, same_upd eG⟩ ?_ ?_
    · rintro j H2 hj ⟨e2, s2⟩
      have hj : j < n := hj
      have e0 : (0 : Int) + (j : Int) = (j : Int) := by omega
      rw [e0]
      obtain ⟨rr, er, hr2⟩ := hP1.2 j _ (List.getElem?_eq_getElem (show j < ts.length by omega))
      have gt := gP_of (List.getElem?_eq_getElem (show j < ts.length by omega))
      have er' : (rs.map V.ref)[j]? = some (.ref rr) := by
        rw [List.getElem?_map, er]
        rfl
      have gs : goneL ts (j + 1) = goneL ts j ++ (if (gP ts j).1 = 0 then [j] else []) := by
        unfold goneL
        rw [List.range_succ, List.filter_append]
        congr 1
        rw [List.filter_cons, List.filter_nil]
        by_cases h : (gP ts j).1 = 0
        · rw [if_pos (decide_eq_true h), if_pos h]
        · rw [if_neg (fun z => h (of_decide_eq_true z)), if_neg h]
      refine ⟨rfl, .ref D, rfl, .int j, rfl, D, _, j, .ref rr, rfl, rfl, SqL.of (s2 _ _ e1), atI_nat er', rr, _, 0, _, rfl, rfl, PartAt.sq (s2 _ _ hr2), rfl, rfl, _, rfl, ite2 (fun z => ?_) (fun z => ?_)⟩
      · have z : (gP ts j).1 = 0 := by
          rw [gt]
          exact V.int.inj (of_decide_eq_true z)
        have ln : (goneL ts j).length ≤ j := by
          have := List.length_filter_le (fun j => decide ((gP ts j).1 = 0)) (List.range j)
          rw [List.length_range] at this
          exact this
        refine ⟨_, rfl, _, e2, by rw [List.length_map]; exact small1000 (by omega), ?_, Same.updN s2 eG⟩
        rw [upd_same, gs, if_pos z, List.map_append]
        rfl
      · have z : (gP ts j).1 ≠ 0 := fun h => z (by rw [gt] at h; rw [h]; exact decide_eq_true rfl)
        rw [gs, if_neg z, List.append_nil]
        exact ⟨e2, s2⟩
    rintro H2 ⟨e2, s2⟩
    have hf2 := hf1.same s2
    have tb2 := tb1.ext s2
    have k2 := k1.same s2
    have eD2 := s2 _ _ e1
    have hP2 := hP1.same s2
    have e2 : H2 G = some (.lst ((goneL ts n).map fun (k : Nat) => V.int k)) := e2
    clear e1 hf1 tb1 k1 hP1 s2 eG
    -- the short ones
    have hB2 := hB.kp k2 hf
    have hX2 := hX.kp k2 hf
    refine ⟨d, _, hB2, trivial, fun od => ?_⟩
    generalize hHx : upd H2 d (.frz od (.dT (bk.map enc))) = Hx
    have xd : Hx d = some (.frz od (.dT (bk.map enc))) := by rw [← hHx]; exact upd_same
    have eGx : Hx G = some (.lst ((goneL ts n).map fun (k : Nat) => V.int k)) := by
      rw [← hHx, upd_ne (ne_of e2 hB2 (by intro z; cases z))]
      exact e2
    refine ⟨_, rfl, d, od, rfl, .inr ⟨_, xd, fun Z eZ => ?_⟩⟩
    have lg : (goneL ts n).length ≤ n := by
      have := List.length_filter_le (fun j => decide ((gP ts j).1 = 0)) (List.range n)
      rw [List.length_range] at this
      exact this
    refine lc_it walk_keysT (fun i H' => ∃ (ks : List Addr) (ps : List (List Int)), H' Z = some (.lst (ks.map V.ref)) ∧ ks.length = ps.length ∧ ps.length ≤ i ∧ (∀ (i : Nat) (p : List Int), ps[i]? = some p → ∃ k, ks[i]? = some k ∧ H' k = some (.tup (p.map V.int))) ∧ ps = ((bk.take i).filter fun a => shortB (goneL ts n) a.1).map (·.1) ∧ Same Hx H') ⟨[], [], upd_same, rfl, Nat.le_refl _, (fun i p e => by simp at e), rfl, same_upd eZ⟩ (fun i H' _ ⟨_, _, _, _, _, _, _, s⟩ => s _ _ xd) ?_ ?_
    · rintro t v H3 H3' hj ⟨ks, ps, e3, l1, l2, g3, f3, s3⟩ ⟨rfl, key, vv, b, ekv, rfl, eb⟩
      obtain ⟨a, ea, rfl⟩ : ∃ a, bk[t]? = some a ∧ key = a.1.map Sum.inl := by
        rw [List.getElem?_map] at ekv
        cases e : bk[t]? with
        | none =>
          rw [e] at ekv
          cases ekv
        | some a =>
          rw [e] at ekv
          exact ⟨a, rfl, (congrArg Prod.fst (Option.some.inj ekv)).symm⟩
      have ebi : H3' b = some (.tup (a.1.map V.int)) := by
        rw [← kV_ints]
        exact eb
      have hix := (List.getElem?_eq_some_iff.mp ea).1
      have la := (B.sz a (List.mem_of_getElem? ea)).1
      refine ⟨rfl, ?_⟩
      refine ⟨.ref G, rfl, G, rfl, ⟨_, SqL.of (s3 _ _ eGx)⟩, fun Y eY => ?_⟩
      refine it_walk (walk_list (K := K) (a := G) (xs := (goneL ts n).map fun (k : Nat) => V.int k)) (fun j H' => H' Y = some (.lst ((((goneL ts n).take j).map fun k => decide (gI a.1 k < 0)).map V.bl)) ∧ Same H3' H') ⟨upd_same, same_upd eY⟩ (fun j H' _ ⟨_, s⟩ => SqL.of (s _ _ (s3 _ _ eGx))) ?_ ?_
      · rintro j v2 H4 H4' hj2 ⟨e4, s4⟩ ⟨rfl, ev2⟩
        obtain ⟨k, ek, rfl⟩ : ∃ k, (goneL ts n)[j]? = some k ∧ v2 = V.int (k : Nat) := by
          rw [List.getElem?_map] at ev2
          obtain ⟨k, ek, e⟩ := Option.map_eq_some_iff.mp ev2
          exact ⟨k, ek, e.symm⟩
        have hk : k < n := by
          have := List.mem_of_getElem? ek
          exact List.mem_range.mp (List.mem_filter.mp this).1
        have hjl := (List.getElem?_eq_some_iff.mp ek).1
        have ep : (a.1.map V.int)[k]? = some (V.int (gI a.1 k)) := by
          rw [List.getElem?_map, List.getElem?_eq_getElem (show k < a.1.length by omega), gI_of (List.getElem?_eq_getElem (show k < a.1.length by omega))]
          rfl
        refine ⟨rfl, .ref b, rfl, .int k, rfl, b, _, k, _, rfl, rfl, SqT.of (s4 _ _ ebi), atI_nat ep, _, _, rfl, rfl, ?_⟩
        refine ⟨_, e4, by rw [List.length_map, List.length_map, List.length_take]; exact small1000 (by omega), ?_, Same.updN s4 eY⟩
        rw [upd_same, List.take_succ, ek, List.map_append, List.map_append]
        rfl
      · rintro H4 ⟨e4, s4⟩
        rw [List.length_map, List.take_length] at e4
        have tk : ((bk.take (t + 1)).filter fun a => shortB (goneL ts n) a.1).map (·.1) = ps ++ (if shortB (goneL ts n) a.1 = true then [a.1] else []) := by
          rw [f3, List.take_succ, ea, List.filter_append, List.map_append]
          congr 1
          by_cases h : shortB (goneL ts n) a.1 = true <;> simp [h]
        have keep : ∀ (H5 : Hp), Same H3' H5 → ∀ (i : Nat) (p : List Int), ps[i]? = some p → ∃ k, ks[i]? = some k ∧ H5 k = some (.tup (p.map V.int)) := fun H5 s i p e => by
          obtain ⟨k, h1, h2⟩ := g3 i p e
          exact ⟨k, h1, s _ _ h2⟩
        refine ⟨Y, _, rfl, SqL.of e4, shortB (goneL ts n) a.1, rfl, ite2 (fun z => ?_) (fun z => ?_)⟩
        · have e3' := s4 _ _ e3
          refine ⟨.ref b, rfl, _, e3', by rw [List.length_map]; exact small1000 (by omega), ks ++ [b], ps ++ [a.1], by rw [upd_same, List.map_append]; rfl, by rw [List.length_append, List.length_append, l1]; rfl, by rw [List.length_append]; show ps.length + 1 ≤ t + 1; omega, fun i p e => ?_, by rw [tk, if_pos z], Same.updN (s3.trans s4) eZ⟩
          have up : ∀ (k : Addr) (p : List Int), H4 k = some (.tup (p.map V.int)) → upd H4 Z (.lst (ks.map V.ref ++ [.ref b])) k = some (.tup (p.map V.int)) := fun k p h => by
            rw [upd_ne (ne_of h e3' (fun z => by cases z))]
            exact h
          by_cases h : i < ps.length
          · rw [List.getElem?_append_left h] at e
            obtain ⟨k, h1, h2⟩ := keep H4 s4 i p e
            exact ⟨k, by rw [List.getElem?_append_left (by omega)]; exact h1, up _ _ h2⟩
          · rw [List.getElem?_append_right (by omega)] at e
            have z2 : i - ps.length = 0 := by
              have := (List.getElem?_eq_some_iff.mp e).1
              simp at this
              omega
            rw [z2] at e
            cases (Option.some.inj e)
            refine ⟨b, ?_, up _ _ (s4 _ _ ebi)⟩
            rw [List.getElem?_append_right (by omega), l1, z2]
            rfl
        · refine ⟨ks, ps, s4 _ _ e3, l1, by omega, keep H4 s4, by rw [tk, if_neg z, List.append_nil], s3.trans s4⟩
    rintro H3 ⟨ks, ps, e3, l1, l2, g3, f3, s3⟩
    rw [List.length_map, List.take_length] at f3
    refine ⟨s3 _ _ xd, ?_⟩
    have sU : Same H2 (upd H3 d (.dT (bk.map enc))) := unlock_same (by rw [hHx]; exact s3) hB2
    have e3u : (upd H3 d (.dT (bk.map enc))) Z = some (.lst (ks.map V.ref)) := by
      rw [upd_ne (ne_of e3 (s3 _ _ xd) (by intro z; cases z))]
      exact e3
    have g3u : ∀ (i : Nat) (p : List Int), ps[i]? = some p → ∃ k, ks[i]? = some k ∧ (upd H3 d (.dT (bk.map enc))) k = some (.tup (p.map V.int)) := fun i p e => by
      obtain ⟨k, h1, h2⟩ := g3 i p e
      exact ⟨k, h1, by rw [upd_ne (ne_of h2 (s3 _ _ xd) (by intro z; cases z))]; exact h2⟩
    generalize upd H3 d (.dT (bk.map enc)) = H4 at sU e3u g3u
    have hf4 := hf2.same sU
    have tb4 := tb2.ext sU
    have k4 := k2.same sU
    have eD4 := sU _ _ eD2
    have hP4 := hP2.same sU
    clear e3 g3 s3 xd eGx hHx e2 eZ hf2 tb2 k2 hP2 eD2 sU hB2 hX2
    -- handed
    refine ⟨.ref D, rfl, D, _, rfl, .inl (SqL.of eD4), fun c ec => ?_⟩
    have sc := same_upd (o := .lst (rs.map V.ref)) ec
    have ec5 := upd_same (H := H4) (a := c) (o := HO.lst (rs.map V.ref))
    have hf5 := hf4.same sc
    have tb5 := tb4.ext sc
    have k5 := k4.same sc
    have eD5 := sc _ _ eD4
    have hP5 := hP4.same sc
    have e5u := sc _ _ e3u
    have g5u : ∀ (i : Nat) (p : List Int), ps[i]? = some p → ∃ k, ks[i]? = some k ∧ (upd H4 c (.lst (rs.map V.ref))) k = some (.tup (p.map V.int)) := fun i p e => by
      obtain ⟨k, h1, h2⟩ := g3u i p e
      exact ⟨k, h1, sc _ _ h2⟩
    have nDf5 : c ≠ f := hf4.ne ec
    generalize upd H4 c (.lst (rs.map V.ref)) = H5 at ec5 hf5 tb5 k5 eD5 hP5 e5u g5u
    clear sc ec e3u g3u hf4 tb4 k4 eD4 hP4
    -- short != []
    refine ⟨.ref Z, rfl, by show 0 ≤ sizeLine; decide, fun Y eY => ?_⟩
    have sY := same_upd (o := .lst []) eY
    have dpk : DpAll K (upd H5 Y (.lst [])) (ks.map V.ref) (ps.map rowD) := dp_rows l1 fun i p e => by
      obtain ⟨k, h1, h2⟩ := g5u i p e
      exact ⟨k, h1, sY _ _ h2⟩
    have lps : ps.length ≤ 50 := by
      have l2' := l2
      rw [List.length_map] at l2'
      omega
    refine ⟨.list (ps.map rowD), .list ([].map .int), .lst (SqL.of (sY _ _ e5u)) dpk, .lst (SqL.of upd_same) (dp_ints []), shaped_lst (all_lay rowD_lay ps) (Nat.le_trans (all_depth rowD_depth ps) (by decide)), shaped_lst (ints_lay []) (Nat.le_trans (ints_depth []) (by decide)), ?_⟩
    have hf6 := hf5.same sY
    have tb6 := tb5.ext sY
    have k6 := k5.same sY
    have ec6 := sY _ _ ec5
    have eD6 := sY _ _ eD5
    have hP6 := hP5.same sY
    generalize upd H5 Y (.lst []) = H6 at hf6 tb6 k6 ec6 eD6 hP6
    clear eY sY dpk hf5 tb5 k5 ec5 eD5 hP5 e5u g5u
    have hX6 := hX.kp k6 hf
    have hB6 := hB.kp k6 hf
    have hct : ∀ x ∈ r, x.2.natAbs < 2 ^ 110 := fun x hx => Nat.lt_of_le_of_lt (B.sz x (pm.mem_iff.mp hx)).2 hM
    have wbr : ∀ a ∈ r, ∀ j, j < n → -4 ≤ gI a.1 j ∧ gI a.1 j ≤ 4 := fun a ha => wb a (pm.mem_iff.mp ha)
    have sg := short_gone (n := n) (ts := ts) pm
    -- the end: handed == worths
    have fin : ∀ (H7 : Hp), Kp f H6 H7 → FeedAt H7 f l → Tabs Ts H7 → ∀ (y9 y10 : Option V), tRet (tAndV (tVar 8) (tOp (rEqD K) (tVar 7) (tVar 4))) { nx := fun _ H' => Q .non H', rt := Q } [some (.ref f), some (.ref x), some (.ref d), some (.int n), some (.ref D), some (.ref G), some (.ref Z), some (.ref c), some (.bl true), y9, y10] H7 := fun H7 k7 hf7 tb7 y9 y10 => by
      have ec7 := k7.lst nDf5 ec6
      have eD7 := k7.lst nDf eD6
      obtain ⟨p1, p2⟩ := parts_rows (hP6.kp k7 hf6)
      refine ⟨.bl true, rfl, true, rfl, iteT ?_⟩
      refine ⟨.ref c, rfl, .ref D, rfl, .list ((tsP ts).map rowD), .list ((tsP ts).map rowD), .lst (SqL.of ec7) (dp_rows p1 p2), .lst (SqL.of eD7) (dp_rows p1 p2), shaped_lst (all_lay rowD_lay _) (Nat.le_trans (all_depth rowD_depth _) (by decide)), shaped_lst (all_lay rowD_lay _) (Nat.le_trans (all_depth rowD_depth _) (by decide)), ?_⟩
      have eqv : PyData.eqv (.list ((tsP ts).map rowD)) (.list ((tsP ts).map rowD)) = true := by
        simp only [PyData.eqv]
        rw [all_eqv rowD_eqv]
        exact decide_eq_true rfl
      rw [eqv]
      exact q H7 (k6.trans k7) hf7 tb7
    rw [list_eqv0]
    obtain ⟨dxx, fx, us, x1, x2, x3⟩ := id hX6
    by_cases hps : ps = []
    · rw [decide_eq_true hps]
      refine ⟨_, rfl, iteF ?_⟩
      have hsh : ∀ a ∈ bk, shortB (goneL ts n) a.1 = false := fun a ha => by
        refine Bool.eq_false_iff.mpr fun z => ?_
        have : a.1 ∈ ps := by
          rw [f3]
          exact List.mem_map.mpr ⟨a, List.mem_filter.mpr ⟨ha, z⟩, rfl⟩
        rw [hps] at this
        cases this
      refine ⟨.ref x, rfl, x, dxx, _, rfl, x1, rfl, .ref c, rfl, ?_⟩
      dsimp only [tNil, List.append_nil]
      refine worth_some hX6 ec6 hP6 lts wr n8 (by omega) hct ok1 wbr (sg.mp hsh) fun p H7 t u lo hi s7 hp W adm L => ?_
      have eD7 := s7 _ _ eD6
      refine ⟨.ref d, rfl, .ref D, rfl, d, D, bk, rs, ts, n, lo, hi, rfl, s7 _ _ hB6, B.nd, eD7, hP6.same s7, W, fun a ha => ⟨adm a (pm.mem_iff.mpr ha), Nat.lt_of_le_of_lt (B.sz a ha).2 hM⟩, lbk, fun p' H8 t' u' s8 hp' L' => ?_⟩
      have hpp := s8 _ _ hp
      rw [show Lf bk (fun p => numN lo hi ts p n) = Lf r (fun p => numN lo hi ts p n) by rw [B.lf, cn.lf]] at L'
      obtain ⟨e1, e2⟩ := low_uniq (denN_ne W n (Nat.le_refl _)) L L'
      subst e1
      subst e2
      refine ⟨.ref p, .ref p', rfl, .inr (.inl ⟨p, p', _, _, rfl, rfl, hpp, hp', rfl, by show 2 ≤ 1000; decide, fun j a b f1 f2 => ?_⟩), fun H9 s9 => ?_⟩
      · rw [f1] at f2
        cases (Option.some.inj f2)
        match j, f1 with
        | 0, f1 => cases (Option.some.inj f1); exact .inl ⟨rfl, .inl ⟨_, rfl⟩⟩
        | 1, f1 => cases (Option.some.inj f1); exact .inl ⟨rfl, .inl ⟨_, rfl⟩⟩
        | j + 2, f1 => simp at f1
      · have s69 := (s7.trans s8).trans s9
        exact fin H9 (Kp.refl.same s69) (hf6.same s69) (tb6.ext s69) _ _
    · rw [decide_eq_false hps]
      refine ⟨_, rfl, iteT ?_⟩
      have hgo : r ≠ [] ∧ hasGone n r ts = true := by
        refine Classical.byContradiction fun z => hps ?_
        have h2 : r ≠ [] → hasGone n r ts = false := fun r0 => Bool.eq_false_iff.mpr fun h => z ⟨r0, h⟩
        have h3 := sg.mpr h2
        rw [f3]
        have : bk.filter (fun a => shortB (goneL ts n) a.1) = [] := List.filter_eq_nil_iff.mpr fun a ha => by rw [h3 a ha]; decide
        rw [this]
        rfl
      refine ⟨tb6, fun H7 x7 tb7 => ?_⟩
      have k7 : Kp f H6 H7 := Kp.refl.ext x7
      obtain ⟨dx7, fx7, us7, y1, y2, y3⟩ := id (hX6.kp k7 hf6)
      refine ⟨.ref x, rfl, x, dx7, _, rfl, y1, rfl, .ref c, rfl, x, c, n, r, _, rfl, hX6.kp k7 hf6, k7.lst nDf5 ec6, by rw [List.length_map]; omega, .inr ⟨rs, ts, rfl, hP6.kp k7 hf6, lrs, wr, n8, by omega, hct, fun r0 => absurd r0 hgo.1, fun _ _ e H8 s8 he => ⟨.str "no part", TN.at he, ?_⟩, fun _ h => by rw [hgo.2] at h; cases h⟩⟩
      refine ⟨rfl, ?_⟩
      exact fin H8 (k7.same s8) ((hf6.ext x7).same s8) (tb7.ext s8) _ _
end
end Bw
set_option Elab.async false
set_option linter.all false
set_option maxRecDepth 100000
set_option maxHeartbeats 16000000
namespace Bw
open PySem PySem.Spec PyProof.Rows L2 LamX
theorem SumAt.ext {C : Addr} {H H' : Hp} {a : Addr} {n : Nat} {r : List Tm} (s : ExtN H H') (h : SumAt C H a n r) : SumAt C H' a n r := by
  obtain ⟨dx, p, us, h1, h2, h3⟩ := h
  exact ⟨dx, p, us, s _ _ h1 (fun ps z => by cases z), s _ _ h2 (fun ps z => by cases z), h3.keep fun b xs e => s _ _ e (fun ps z => by cases z)⟩
theorem word_ok (ws : List Str) (h : ws.all PyData.strOk = true) (h4 : ws.length = 4) : SeqAt.shaped (.list (ws.map .str)) = true := by
  match ws, h4, h with
  | [a, b, c, d], _, h =>
    simp only [List.all_cons, List.all_nil, Bool.and_true, Bool.and_eq_true] at h
    obtain ⟨h1, h2, h3, h4⟩ := h
    exact shaped_lst (by simp [PyData.canLayAll0, PyData.canLay0, h1, h2, h3, h4]) (by simp [PyData.depthAll, PyData.depth])
theorem word_ok3 (ws : List Str) (h : ws.all PyData.strOk = true) (h4 : ws.length = 3) : SeqAt.shaped (.list (ws.map .str)) = true := by
  match ws, h4, h with
  | [a, b, c], _, h =>
    simp only [List.all_cons, List.all_nil, Bool.and_true, Bool.and_eq_true] at h
    obtain ⟨h1, h2, h3⟩ := h
    exact shaped_lst (by simp [PyData.canLayAll0, PyData.canLay0, h1, h2, h3]) (by simp [PyData.depthAll, PyData.depth])
structure Wv (C x h L : Addr) (n : Nat) (r : List Tm) (ns : List Int) (Ts : List (Addr × Str)) (ws : List V) (H : Hp) : Prop where
  tb : Tabs Ts H
  sum : SumAt C H x n r
  hl : H h = some (.lst (ns.map V.int))
  lst : H L = some (.lst ws)
  ne : h ≠ L
section
variable {C x h L : Addr} {n : Nat} {r : List Tm} {ns : List Int} {Ts : List (Addr × Str)} {ws : List V} {H H' : Hp}
theorem Wv.same (s : Same H H') (d : Wv C x h L n r ns Ts ws H) : Wv C x h L n r ns Ts ws H' := ⟨d.tb.ext s, d.sum.same s, s _ _ d.hl, s _ _ d.lst, d.ne⟩
theorem Wv.ext (s : ExtN H H') (tb : Tabs Ts H') (d : Wv C x h L n r ns Ts ws H) : Wv C x h L n r ns Ts ws H' := ⟨tb, d.sum.ext s, s _ _ d.hl (fun ps z => by cases z), s _ _ d.lst (fun ps z => by cases z), d.ne⟩
theorem Wv.put {us : List V} (d : Wv C x h L n r ns Ts ws H) : Wv C x h L n r ns Ts us (upd H L (.lst us)) := by
  refine ⟨Tabs.put d.tb d.lst, ?_, by rw [upd_ne d.ne]; exact d.hl, upd_same, d.ne⟩
  obtain ⟨dx, p, us, h1, h2, h3⟩ := d.sum
  exact ⟨dx, p, us, by rw [upd_ne (ne_of h1 d.lst (fun z => by cases z))]; exact h1, by rw [upd_ne (ne_of h2 d.lst (fun z => by cases z))]; exact h2, h3.put d.lst⟩
end
section
variable {P : Program} {w : World} {K : PySem.W.Frag} {mg : Str → Option Value} {base : Heap} {C CN CS fS CE c2' c3' c4' : Addr}
abbrev s_law_lengths_so : Stmt := topS 54
abbrev n_law_lengths_so : List Str := ["_law_found", "_law_heights", "_law_width", "_law_words"]
theorem sc_law_lengths_so : FnScope n_law_lengths_so ["_law_found", "_law_heights", "_law_width"] (defScope s_law_lengths_so) := ⟨rfl, rfl, rfl, by decide +kernel, rfl, by decide +kernel, by decide +kernel⟩
def spLSo (C : Addr) (Ts : List (Addr × Str)) : Sp := fun vs H Q _ => ∃ (x h : Addr) (n : Nat) (r : List Tm) (ns : List Int), vs = [.ref x, .ref h, .int n] ∧ Tabs Ts H ∧ SumAt C H x n r ∧ Wid n r ∧ r.length ≤ 12 ∧ (∀ a ∈ r, ∀ x ∈ a.1, x.natAbs < 2 ^ 60) ∧ n ≤ 8 ∧ H h = some (.lst (ns.map V.int)) ∧ ns.length = n ∧ (∀ x ∈ ns, x.natAbs < 2 ^ 1000) ∧ ∀ H', Q (.bl true) H'
theorem ok_lso {gW cc Pt fA : Addr} {fdW : FuncData} {oc kV doc pm ct : Value} {od an : Option Addr} {osl : Array (Option Value)} {Ts : List (Addr × Str)} (lk : K.lookup fA = some ⟨oc, od, .func (PySem.W.fnOf "_law_lengths_so" "_law_lengths_so" (defArgs s_law_lengths_so) (defBody s_law_lengths_so) (defScope s_law_lengths_so) .none kV doc pm an (.ref cc) ct), osl⟩) (hcd : PySem.W.codeIn K (.ref cc) "_law_lengths_so" = true) (T : Tx mg) (S : SumC K mg C) (TS : ErrC K mg "BadSum" CS fS CE)
    (m_worth : MetX P w K mg base 5 C "worth" ["self", "parts"] (spWorthX C CS CN)) (m_least : MetX P w K mg base 5 C "least" ["self", "numbers"] (spEndX min C CS)) (m_greatest : MetX P w K mg base 5 C "greatest" ["self", "numbers"] (spEndX max C CS))
    (WB : WordW K mg base Ts gW CE CN c2' c3' c4' cc Pt (qL "_law_lengths_so") fdW) : FnOk P w K mg base CX0 10 fA (PySem.W.fnOf "_law_lengths_so" "_law_lengths_so" (defArgs s_law_lengths_so) (defBody s_law_lengths_so) (defScope s_law_lengths_so) .none kV doc pm an (.ref cc) ct) ["_law_found", "_law_heights", "_law_width"] (spLSo C Ts) := by
  refine fn_of lk hcd sc_law_lengths_so (fun vs H Q E h => ?_) (fun A outer s H vs Q E hr h => ?_)
  · obtain ⟨x, h, n, r, ns, rfl, _⟩ := h
    rfl
  · obtain ⟨x, h, n, r, ns, rfl, tb, hX, wr, l12, hpr, n8, hH, ln, hns, q⟩ := h
    suffices hh : ∃ t, PSs (cxOf CX0 P w K mg base n_law_lengths_so "_law_lengths_so" (defScope s_law_lengths_so) _ (.ref cc) A outer s H E).nox (defBody s_law_lengths_so) t ∧ t { nx := fun _ H' => Q .non H', rt := Q } (L2.start n_law_lengths_so [.ref x, .ref h, .int n]) H by
      obtain ⟨t, h1, h2⟩ := hh
      exact ⟨t, h1.nox, h2⟩
    have hu := hr.units
    refine ⟨_, (pss_cons (ps_set (i := 3) sc_law_lengths_so.nd rfl (.inl rfl) (pe_lst (pa_cons (pe_wd (k := 7) WB rfl hr (by rfl) (lamS_by (sc := defScope s_law_lengths_so) (by decide +kernel)) (fun A outer s H E f c' hr' => pe_mtX m_worth (hr'.mono (by decide)) (passE rfl rfl rfl rfl) (pv 0) (pa_cons (pe_op op_rep (pe_lst (pa_cons (pe_tup (pa_cons pe_int (pa_cons pe_int pa_nil))) pa_nil)) (pe_op op_add (pv 2) pe_int)) pa_nil))) pa_nil)))
  (pss_cons (ps_expr (pe_bm PySem.F.plainAttrs_list PySem.F.slot_list_append PySem.F.type_list_append mt_append (pv 3) (pa_cons (pe_wd (k := 7) WB rfl hr (by rfl) (lamS_by (sc := defScope s_law_lengths_so) (by decide +kernel)) (fun A outer s H E f c' hr' => pe_mtX m_least (hr'.mono (by decide)) (passE rfl rfl rfl rfl) (pv 0) (pa_cons (pe_op op_cat (pv 1) (pe_lst (pa_cons pe_int pa_nil))) pa_nil))) pa_nil)))
  (pss_cons (ps_expr (pe_bm PySem.F.plainAttrs_list PySem.F.slot_list_append PySem.F.type_list_append mt_append (pv 3) (pa_cons (pe_wd (k := 7) WB rfl hr (by rfl) (lamS_by (sc := defScope s_law_lengths_so) (by decide +kernel)) (fun A outer s H E f c' hr' => pe_mtX m_greatest (hr'.mono (by decide)) (passE rfl rfl rfl rfl) (pv 0) (pa_cons (pe_op op_rep (pe_lst (pa_cons pe_int pa_nil)) (pe_op op_add (pv 2) pe_int)) pa_nil))) pa_nil)))
  (pss_cons (ps_if (pt_cmpR op_gt (pv 2) pe_int (nomark _))
    (pss_one (ps_expr (pe_bm PySem.F.plainAttrs_list PySem.F.slot_list_append PySem.F.type_list_append mt_append (pv 3) (pa_cons (pe_wd (k := 7) WB rfl hr (by rfl) (lamS_by (sc := defScope s_law_lengths_so) (by decide +kernel)) (fun A outer s H E f c' hr' => pe_mtX m_worth (hr'.mono (by decide)) (passE rfl rfl rfl rfl) (pv 0) (pa_cons (pe_op op_rep (pe_lst (pa_cons (pe_tup (pa_cons pe_int (pa_cons pe_int pa_nil))) pa_nil)) (pe_op op_sub (pv 2) pe_int)) pa_nil))) pa_nil))))
    pss_nil)
  (pss_one (ps_ret (pe_cmpR (o_eqD (K := K) hu) (pv 3) (pe_op op_rep (pe_lst (pa_cons pe_str pa_nil)) (pe_callB (c_len (K := K)) (by rfl) T.len PySem.boot_len (pa_cons (pv 3) pa_nil))) (nomark _)))))))), ?_⟩
    have stepT : ∀ (H0 : Hp), True := fun _ => trivial
    clear stepT
    -- one part more
    refine ⟨tb, fun H1 x1 tb1 => ?_⟩
    have X1 := hX.ext x1
    have eh1 := x1 _ _ hH (fun ps z => by cases z)
    obtain ⟨dx, px, us, k1, k2, k3⟩ := id X1
    refine ⟨.ref x, rfl, x, dx, _, rfl, k1, rfl, by show 2 ≤ sizeLine; decide, fun t et => ⟨by show 1 ≤ sizeLine; decide, fun R eR => ?_⟩⟩
    have s1 := (same_upd (o := .tup [V.int 0, .int 1]) et).trans (same_upd (o := .lst [V.ref t]) eR)
    refine ⟨.int n, rfl, _, _, rfl, rfl, R, _, _, rfl, rfl, upd_same, by omega, by omega, by rw [List.length_singleton, Nat.one_mul]; exact Nat.le_of_lt (small1000 (by omega)), fun p ep => ?_⟩
    have s2 := s1.trans (same_upd (o := .lst (List.replicate ((n : Int) + 1).toNat [V.ref t]).flatten) ep)
    refine ⟨x, p, n, r, _, rfl, X1.same s2, upd_same, ?_, .inl ⟨?_, fun d H2 s3 hd => ⟨.str "bad sum", (TS.at hd).wide, ?_⟩⟩⟩
    · rw [List.flatten_replicate_singleton, List.length_replicate]
      omega
    · rw [List.flatten_replicate_singleton, List.length_replicate]
      omega
    refine ⟨by show 1 ≤ sizeLine; decide, fun L eL => ?_⟩
    have s4 := (s2.trans s3).trans (same_upd (o := .lst [V.str "bad sum"]) eL)
    have D1 : Wv C x h L n r ns Ts [.str "bad sum"] (upd H2 L (.lst [V.str "bad sum"])) := ⟨tb1.ext s4, X1.same s4, s4 _ _ eh1, upd_same, fun z => by
      have := (s2.trans s3) _ _ eh1
      rw [z, eL] at this
      cases this⟩
    generalize upd H2 L (.lst [V.str "bad sum"]) = H3 at D1
    clear tb hX hH x1 tb1 X1 eh1 k1 k2 k3 s1 s2 s3 s4 eL hd et eR ep
    -- least
    refine ⟨.ref L, rfl, .inl ⟨rfl, _, SqL.of D1.lst⟩, D1.tb, fun H4 x4 tb4 => ?_⟩
    have D4 := D1.ext x4 tb4
    obtain ⟨dx, px, us, k1, k2, k3⟩ := id D4.sum
    refine ⟨.ref x, rfl, x, dx, _, rfl, k1, rfl, .ref h, rfl, by show 1 ≤ sizeLine; decide, fun R eR => ?_⟩
    have s5 := same_upd (o := .lst [V.int 1]) eR
    refine ⟨h, R, _, _, rfl, rfl, s5 _ _ D4.hl, upd_same, by rw [List.length_map]; exact Nat.le_of_lt (small1000 (show ns.length + 1 ≤ 1000 by omega)), fun p ep => ?_⟩
    have e5 : ns.map V.int ++ [V.int 1] = (ns ++ [1]).map V.int := by rw [List.map_append]; rfl
    rw [e5]
    have s6 := s5.trans (same_upd (o := .lst ((ns ++ [1]).map V.int)) ep)
    refine ⟨x, p, n, r, ns ++ [1], rfl, D4.sum.same s6, wr, upd_same, n8, by omega, hpr, fun y hy => ?_, fun z => ?_, fun _ d H5 s7 hd => ⟨.str "bad sum", (TS.at hd).wide, ?_⟩⟩
    · rcases List.mem_append.mp hy with hy | hy
      · exact hns y hy
      · rw [List.mem_singleton.mp hy]
        decide
    · rw [List.length_append] at z
      have : ns.length + 1 = n := z
      omega
    have D5 := (D4.same s6).same s7
    refine ⟨L, _, _, rfl, rfl, D5.lst, by show 1 < sizeLine; decide, ?_⟩
    have D6 : Wv C x h L n r ns Ts [.str "bad sum", .str "bad sum"] (upd H5 L (.lst [.str "bad sum", .str "bad sum"])) := D5.put
    show tSeq _ _ _ _ (upd H5 L (.lst [.str "bad sum", .str "bad sum"]))
    generalize upd H5 L (.lst [.str "bad sum", .str "bad sum"]) = H6 at D6
    clear D1 x4 tb4 D4 k1 k2 k3 s5 s6 s7 D5 hd ep eR e5
    -- greatest
    refine ⟨.ref L, rfl, .inl ⟨rfl, _, SqL.of D6.lst⟩, D6.tb, fun H7 x7 tb7 => ?_⟩
    have D7 := D6.ext x7 tb7
    obtain ⟨dx, px, us, k1, k2, k3⟩ := id D7.sum
    refine ⟨.ref x, rfl, x, dx, _, rfl, k1, rfl, by show 1 ≤ sizeLine; decide, fun R eR => ?_⟩
    have s5 := same_upd (o := .lst [V.int 1]) eR
    refine ⟨.int n, rfl, _, _, rfl, rfl, R, _, _, rfl, rfl, upd_same, by omega, by omega, by rw [List.length_singleton, Nat.one_mul]; exact Nat.le_of_lt (small1000 (by omega)), fun p ep => ?_⟩
    have e5 : (List.replicate ((n : Int) + 2).toNat [V.int 1]).flatten = (List.replicate (n + 2) (1 : Int)).map V.int := by
      rw [List.flatten_replicate_singleton, List.map_replicate, show ((n : Int) + 2).toNat = n + 2 by omega]
    rw [e5]
    have s6 := s5.trans (same_upd (o := .lst ((List.replicate (n + 2) (1 : Int)).map V.int)) ep)
    refine ⟨x, p, n, r, List.replicate (n + 2) 1, rfl, D7.sum.same s6, wr, upd_same, n8, by omega, hpr, fun y hy => ?_, fun z => ?_, fun _ d H8 s7 hd => ⟨.str "bad sum", (TS.at hd).wide, ?_⟩⟩
    · rw [List.eq_of_mem_replicate hy]
      decide
    · rw [List.length_replicate] at z
      omega
    have D8 := (D7.same s6).same s7
    refine ⟨L, _, _, rfl, rfl, D8.lst, by show 2 < sizeLine; decide, ?_⟩
    have D9 : Wv C x h L n r ns Ts [.str "bad sum", .str "bad sum", .str "bad sum"] (upd H8 L (.lst [.str "bad sum", .str "bad sum", .str "bad sum"])) := D8.put
    show tSeq _ _ _ _ (upd H8 L (.lst [.str "bad sum", .str "bad sum", .str "bad sum"]))
    generalize upd H8 L (.lst [.str "bad sum", .str "bad sum", .str "bad sum"]) = H9 at D9
    clear D6 x7 tb7 D7 k1 k2 k3 s5 s6 s7 D8 hd ep eR e5
    -- one part less
    refine ⟨.int n, rfl, _, _, rfl, rfl, _, rfl, ite2 (fun z => ?_) (fun z => ?_)⟩
    · have n0 : 0 < n := by
        have := of_decide_eq_true z
        omega
      refine ⟨.ref L, rfl, .inl ⟨rfl, _, SqL.of D9.lst⟩, D9.tb, fun H10 x10 tb10 => ?_⟩
      have D10 := D9.ext x10 tb10
      obtain ⟨dx, px, us, k1, k2, k3⟩ := id D10.sum
      refine ⟨.ref x, rfl, x, dx, _, rfl, k1, rfl, by show 2 ≤ sizeLine; decide, fun t et => ⟨by show 1 ≤ sizeLine; decide, fun R eR => ?_⟩⟩
      have s1 := (same_upd (o := .tup [V.int 0, .int 1]) et).trans (same_upd (o := .lst [V.ref t]) eR)
      refine ⟨.int n, rfl, _, _, rfl, rfl, R, _, _, rfl, rfl, upd_same, by omega, by omega, by rw [List.length_singleton, Nat.one_mul]; exact Nat.le_of_lt (small1000 (by omega)), fun p ep => ?_⟩
      have s2 := s1.trans (same_upd (o := .lst (List.replicate ((n : Int) - 1).toNat [V.ref t]).flatten) ep)
      refine ⟨x, p, n, r, _, rfl, D10.sum.same s2, upd_same, ?_, .inl ⟨?_, fun d H11 s3 hd => ⟨.str "bad sum", (TS.at hd).wide, ?_⟩⟩⟩
      · rw [List.flatten_replicate_singleton, List.length_replicate]
        omega
      · rw [List.flatten_replicate_singleton, List.length_replicate]
        omega
      have D11 := (D10.same s2).same s3
      refine ⟨L, _, _, rfl, rfl, D11.lst, by show 3 < sizeLine; decide, ?_⟩
      have D12 : Wv C x h L n r ns Ts [.str "bad sum", .str "bad sum", .str "bad sum", .str "bad sum"] (upd H11 L (.lst [.str "bad sum", .str "bad sum", .str "bad sum", .str "bad sum"])) := D11.put
      refine ⟨.ref L, rfl, by show 1 ≤ sizeLine; decide, fun B eB => ?_⟩
      have sB := same_upd (o := .lst [V.str "bad sum"]) eB
      refine ⟨.ref L, rfl, L, _, rfl, .inl (SqL.of (sB _ _ D12.lst)), B, 4, _, rfl, rfl, upd_same, by decide, by decide, by show 4 ≤ sizeLine; decide, fun R2 eR2 => ?_⟩
      have s4 := sB.trans (same_upd (o := .lst (List.replicate (4 : Int).toNat [V.str "bad sum"]).flatten) eR2)
      have dpl : ∀ {H : Hp}, DpAll K H [.str "bad sum", .str "bad sum", .str "bad sum", .str "bad sum"] [.str "bad sum", .str "bad sum", .str "bad sum", .str "bad sum"] := .cons (.str _) (.cons (.str _) (.cons (.str _) (.cons (.str _) .nil)))
      have sh := word_ok ["bad sum", "bad sum", "bad sum", "bad sum"] (by decide +kernel) rfl
      refine ⟨.list [.str "bad sum", .str "bad sum", .str "bad sum", .str "bad sum"], .list [.str "bad sum", .str "bad sum", .str "bad sum", .str "bad sum"], .lst (SqL.of (s4 _ _ D12.lst)) dpl, .lst (SqL.of upd_same) dpl, sh, sh, ?_⟩
      have eq4 : PyData.eqv (.list [.str "bad sum", .str "bad sum", .str "bad sum", .str "bad sum"]) (.list [.str "bad sum", .str "bad sum", .str "bad sum", .str "bad sum"]) = true := by simp [PyData.eqv, PyData.eqvAll]
      rw [eq4]
      exact q _
    · refine ⟨.ref L, rfl, by show 1 ≤ sizeLine; decide, fun B eB => ?_⟩
      have sB := same_upd (o := .lst [V.str "bad sum"]) eB
      refine ⟨.ref L, rfl, L, _, rfl, .inl (SqL.of (sB _ _ D9.lst)), B, 3, _, rfl, rfl, upd_same, by decide, by decide, by show 3 ≤ sizeLine; decide, fun R2 eR2 => ?_⟩
      have s4 := sB.trans (same_upd (o := .lst (List.replicate (3 : Int).toNat [V.str "bad sum"]).flatten) eR2)
      have dpl : ∀ {H : Hp}, DpAll K H [.str "bad sum", .str "bad sum", .str "bad sum"] [.str "bad sum", .str "bad sum", .str "bad sum"] := .cons (.str _) (.cons (.str _) (.cons (.str _) .nil))
      have sh := word_ok3 ["bad sum", "bad sum", "bad sum"] (by decide +kernel) rfl
      refine ⟨.list [.str "bad sum", .str "bad sum", .str "bad sum"], .list [.str "bad sum", .str "bad sum", .str "bad sum"], .lst (SqL.of (s4 _ _ D9.lst)) dpl, .lst (SqL.of upd_same) dpl, sh, sh, ?_⟩
      have eq4 : PyData.eqv (.list [.str "bad sum", .str "bad sum", .str "bad sum"]) (.list [.str "bad sum", .str "bad sum", .str "bad sum"]) = true := by simp [PyData.eqv, PyData.eqvAll]
      rw [eq4]
      exact q _
end
end Bw
set_option Elab.async false
set_option linter.all false
set_option maxRecDepth 100000
set_option maxHeartbeats 4000000
namespace Bw
open PySem PySem.Spec PyProof.Rows L2
/-! ### sep.join(reversed(list)) -/
section
variable {prog : Program} {w : World} {A : Around} {E : Value → Shared → Prop} {s : Shared}
theorem join_rev {it l : Addr} {x : Str} {t : Tok} {items : Array Value} {Q : Value → Shared → Prop} (hh : A.handled = none) (hit : s.heap.IsRevIter it l ((items.size : Int) - 1)) (hl : s.heap.IsList l items) (hne : l ≠ it) (hn : items.size ≤ sizeLine)
    (hstr : ∀ v ∈ items.toList, ∃ y u, v = Value.str y u)
    (hq : ∀ (h' : Heap) (tk : Nat) (l' : List (Str × Tok)), (∀ b o, b ≠ it → s.heap.get? b = some o → h'.get? b = some o) → ItemsOf (fun i v => items[items.size - 1 - i]? = some v) (strValues l').toArray items.size →
      JoinOk x (l'.map (·.1)) = true ∧ ∀ t' k, Q (.str (Txt.join x (l'.map (·.1))) t') { s with heap := h', toks := k }) :
    wpAny (model prog w) A (call (.builtin "str.join") [.str x t, .ref it]) Q E s := by
  refine wpAny_call (codeAny_call_builtin F.slot_str_join.plain F.entry_str_join (F.slot_str_join.check _ _ _ _ _ _ _ _ (typeIs_str _ _ _) (F.args_str_join_2 _ _) ?_))
  rw [join_tree_other]
  refine wpAny_bind (wpAny_typeOf hit.typeIs ?_)
  show wpAny _ A.in1 ((pyIter (.ref it)).tryCatch _ >>= fun it => collect it >>= fun items => joinTail x items) _ _ s
  refine wpAny_bind (wpAny_tryCatch (wpAny_pyIter_revIter hit ?_))
  refine wpAny_bind (RT.collect_rev (A := A.in1) hh hit hl hne hn fun h' tk acc hk hacc => ?_)
  obtain ⟨l', hl'⟩ := exists_strValues acc.toList fun v hv => by
    obtain ⟨j, hj, rfl⟩ := Array.mem_iff_getElem.mp (Array.mem_toList_iff.mp hv)
    have := hacc.2 j _ (Array.getElem?_eq_getElem hj)
    exact hstr _ (Array.mem_toList_iff.mpr (Array.mem_of_getElem? this))
  rw [← hl']
  have hacc' : ItemsOf (fun i v => items[items.size - 1 - i]? = some v) (strValues l').toArray items.size := by rw [hl']; simpa using hacc
  obtain ⟨hok, hpost⟩ := hq h' tk l' hk hacc'
  unfold JoinOk at hok
  rw [Bool.not_eq_true'] at hok
  have g : Gives (joinTail x (strValues l')) (joinMade x l') := by
    have g0 := gives_joinTail x l' hok
    cases l' with
    | nil => exact g0
    | cons p r => cases r with
      | nil => exact g0
      | cons q r' => exact g0
  exact g prog w A (wants Q E) _ (post_join l' ⟨joinFit_length hok, hpost⟩)
end
def tJoinRev (K : PySem.W.Frag) (to te : TE) : TE := fun σ H Q => to σ H fun x H1 => ∃ a : Str, x = .str a ∧ te σ H1 fun v H2 => ∃ (p : Addr) (ys : List Str), v = .ref p ∧ SqL K H2 p (ys.map V.str) ∧ JoinOk a ys.reverse = true ∧ Q (.str (Txt.join a ys.reverse)) H2
theorem vals_strs {ys : List Str} : ∀ {us : List Value}, Vals (ys.map V.str) us → ∀ v ∈ us, ∃ y u, v = Value.str y u := by
  induction ys with
  | nil =>
    intro us r v hv
    cases r
    cases hv
  | cons y ys ih =>
    intro us r v hv
    cases r with
    | cons a b =>
      rcases List.mem_cons.mp hv with rfl | hv
      · obtain ⟨t, e⟩ := a
        exact ⟨y, t, e⟩
      · exact ih b v hv
theorem vals_map {ys : List Str} : ∀ {l : List (Str × Tok)}, Vals (ys.map V.str) (strValues l) → l.map (·.1) = ys := by
  induction ys with
  | nil =>
    intro l r
    cases l with
    | nil => rfl
    | cons a l => cases r
  | cons y ys ih =>
    intro l r
    cases l with
    | nil => cases r
    | cons a l =>
      cases r with
      | cons p q =>
        obtain ⟨t, e⟩ := p
        have e : Value.str a.1 a.2 = Value.str y t := e
        injection e with e1 e2
        rw [List.map_cons, ih q, e1]
theorem pe_joinRev {X : Cx} {K : PySem.W.Frag} {o e : Expr} {to te : TE} {apos pos p2 pos2 : Pos} (hc : X.calm = true) (ho : PE X o to) (hg2 : Gl X "reversed") (hm2 : X.mg "reversed" = none) (he : PE X e te) (hK : X.K = K := by rfl)
    (hs : starEach [e] X.env = (false, eval e X.env) :: starEach [] X.env := by rfl)
    (hs2 : starEach [.Call (.Name "reversed" p2) [e] [] pos2] X.env = [(false, eval (.Call (.Name "reversed" p2) [e] [] pos2) X.env)] := by rfl)
    (hbase : attributeBase o "join" X.env (eval o X.env) = eval o X.env := by rfl) (hline : (apos.endLine == pos.line) = true := by rfl) :
    PE X (.Call (.Attribute o "join" apos) [.Call (.Name "reversed" p2) [e] [] pos2] [] pos) (tJoinRev K to te) := by
  subst hK
  refine ⟨fun pins s σ H Q I h => ?_⟩
  refine PySem.Call_method1 hbase hs2 hline (thn (ho.run pins s σ H _ I h) fun v s1 ⟨x, H1, I1, r1, q1⟩ => ?_)
  obtain ⟨sep, rfl, q1⟩ := q1
  obtain ⟨t, rfl⟩ := _root_.id r1
  refine ⟨"str", _, F.plainAttrs_str, F.slot_str_join, F.type_str_join, typeIs_str _ _ _, (fun _ e => nomatch e), Calls.callWith_builtin rfl (Calls.evalArgs_plain (Calls.spliced_cons ?_))⟩
  refine Call_ (ld_blt I1 hg2 hm2 PyProof.Rows.boot_reversed (PyProof.Rows.callWith_type1 (args_cons (thn (he.run pins s1 σ H1 _ I1 q1) fun u s2 ⟨v, H2, I2, r2, q2⟩ => args_nil ?_) hs) hs rfl))
  obtain ⟨a, ys, ev, hq, hok, q⟩ := q2
  subst ev
  obtain rfl : u = Value.ref a := r2
  obtain ⟨its, rv, p', hz⟩ := I2.list hq
  refine call_reversed_list p'.isList (Calls.spliced_nil ?_)
  have k0 : ∀ b o, s2.heap.get? b = some o → (s2.heap.push (revObj a ((its.toArray.size : Int) - 1))).get? b = some o := fun b o e => Heap.get?_push_of_some _ e
  have I3 : Inv X pins σ H2 { s2 with heap := s2.heap.push (revObj a ((its.toArray.size : Int) - 1)) } := I2.kept (t' := s2.toks) k0
  obtain ⟨f0, f1, f2, f3, f4, f5⟩ := I2.fpOk (H' := H2) (b := s2.heap.objs.size) (Nat.le_refl _) (I2.hok.fresh (Nat.le_refl _))
  have hl := p'.isList
  obtain ⟨ol, hol, _⟩ := id hl
  have hne : a ≠ s2.heap.objs.size := Nat.ne_of_lt (Heap.lt_size hol)
  have hn : its.toArray.size ≤ sizeLine := by rw [List.size_toArray, ← rv.length]; exact hz
  refine join_rev (s := { s2 with heap := s2.heap.push (revObj a ((its.toArray.size : Int) - 1)) }) (I2.ok.hd hc) ⟨_, Heap.get?_push_size _ rfl, rfl, rfl⟩ (hl.push _) hne hn (by rw [List.toList_toArray]; exact vals_strs rv) fun h' tk l' hk hi => ?_
  have rr := RT.vals_rev rv hi
  rw [List.toList_toArray, ← List.map_reverse] at rr
  have el := vals_map rr
  rw [el]
  refine ⟨hok, fun t' k => ?_⟩
  have I4 : Inv X pins σ H2 { s2 with heap := h', toks := k } := I3.turned (t' := k) (fun b o hb e => hk b o hb e) f0 f1 f3 f4 f5
  exact ⟨.str _, H2, I4, ⟨t', rfl⟩, q⟩
/-! ### repr(x), str(x), bool(x) of own instances -/
section
variable {X : Cx} {CX : CXT} {C f : Addr} {fd : FuncData} {ps : List Str} {sp : Sp} {n : Nat} {E : XK}
def rStrOwn (C : Addr) (sp : Sp) (E : XK) : List V → Hp → VK → Prop := fun xs H Q => ∃ a dx fs, xs = [V.ref a] ∧ H a = some (.ins C dx fs) ∧ sp [.ref a] H (fun z H' => ∃ y : Str, z = .str y ∧ Q (.str y) H') E
theorem c_reprOwn (hs : PySem.W.findIn X.K (.ref C) "__repr__" = some (some (.ref f))) (hf : PySem.W.isFn X.K (.ref f) = true) (F : FnOk X.prog X.w X.K X.mg X.base CX n f fd ps sp) (hr : Room (n + 1) X.A) (hb : Binds X.K fd ps []) (hx : Passes CX X E) : CallR X (.builtin "repr") (rStrOwn C sp E) := by
  intro pins s σ H xs us Q I r h
  obtain ⟨a, dx, fs, rfl, ha, q⟩ := h
  obtain ⟨u, rfl, ru⟩ := vals1 r
  obtain rfl : u = Value.ref a := ru
  obtain ⟨mA, J, _⟩ := ins_get I.hok ha
  obtain ⟨od, J, _⟩ := J.look
  obtain ⟨m, hF⟩ := I.fr
  refine PySem.W.repr_K (Nat.lt_of_le_of_lt (Nat.le_add_right _ _) hr.in1.units) hF I.ok.mod.kin J hs hf ?_
  have hl := F.len _ _ _ _ q
  refine wpAny_call (codeAny_mono (F.run X.A.in1 X.stack s H ⟨[.ref a], []⟩ [.ref a] [.ref a] _ E hr.in1 I.env0.in1 (by
    have z := hb s [.ref a] I.kIn (by simpa using hl)
    simpa using z) (.cons rfl .nil) q) fun r s' hq => ?_)
  cases r with
  | error e => exact hx pins σ H s e s' I hq
  | ok fl =>
    cases fl with
    | ret w =>
      obtain ⟨z, H', I', rz, y, ei, qz⟩ := I.after hq
      subst ei
      obtain ⟨t, rfl⟩ := (show ∃ t, w = Value.str y t from rz)
      exact ⟨.str y, H', I', ⟨_, rfl⟩, qz⟩
    | next => exact False.elim hq
    | brk => exact False.elim hq
    | cont => exact False.elim hq
theorem c_strOwn (hs : PySem.W.findIn X.K (.ref C) "__str__" = some (some (.ref f))) (hf : PySem.W.isFn X.K (.ref f) = true) (F : FnOk X.prog X.w X.K X.mg X.base CX n f fd ps sp) (hr : Room (n + 2) X.A) (hb : Binds X.K fd ps []) (hx : Passes CX X E) : CallR X (.type "str") (rStrOwn C sp E) := by
  intro pins s σ H xs us Q I r h
  obtain ⟨a, dx, fs, rfl, ha, q⟩ := h
  obtain ⟨u, rfl, ru⟩ := vals1 r
  obtain rfl : u = Value.ref a := ru
  obtain ⟨mA, J, _⟩ := ins_get I.hok ha
  obtain ⟨od, J, _⟩ := J.look
  obtain ⟨m, hF⟩ := I.fr
  refine PySem.W.kso_call (Nat.lt_of_le_of_lt (Nat.le_add_right _ _) hr.in1.in1.units) I.kIn J hs hf ?_
  have hl := F.len _ _ _ _ q
  refine wpAny_call (codeAny_mono (F.run X.A.in1.in1 X.stack s H ⟨[.ref a], []⟩ [.ref a] [.ref a] _ E hr.in1.in1 I.env0.in1.in1 (by
    have z := hb s [.ref a] I.kIn (by simpa using hl)
    simpa using z) (.cons rfl .nil) q) fun r s' hq => ?_)
  cases r with
  | error e => exact hx pins σ H s e s' I hq
  | ok fl =>
    cases fl with
    | ret w =>
      obtain ⟨z, H', I', rz, y, ei, qz⟩ := I.after hq
      subst ei
      obtain ⟨t, rfl⟩ := (show ∃ t, w = Value.str y t from rz)
      exact ⟨.str y, H', I', ⟨_, rfl⟩, qz⟩
    | next => exact False.elim hq
    | brk => exact False.elim hq
    | cont => exact False.elim hq
/-! ### bool(x) by its len -/
theorem truthy_len {K : PySem.W.Frag} {prog : Program} {w : World} {A : Around} {E : Value → Shared → Prop} {s : Shared} {x C f : Addr} {ox : Obj} {od : Option Obj} {Q : Bool → Shared → Prop} (Y : K.In s.heap) (I : PySem.W.InstAt s.heap x ox C od) (hs : PySem.W.findIn K (.ref C) "__bool__" = some none) (hl : PySem.W.findIn K (.ref C) "__len__" = some (some (.ref f))) (hf : PySem.W.isFn K (.ref f) = true)
    (h : wpAny (model prog w) A.in1 (call (.ref f) [.ref x]) (fun v s' => ∃ n t, v = .int n t ∧ 0 ≤ n ∧ n < 2 ^ 63 ∧ ∀ tk, Q (n != 0) { s' with toks := tk }) E s) : wpAny (model prog w) A (truthy (.ref x)) Q E s := by
  have key : wpAny (model prog w) A (runValue (.builtin "len" ⟨[.ref x], []⟩)) (fun r s' => ∃ n t, r = .int n t ∧ Q (n != 0) s') E s := by
    refine wpAny_runValue (codeAny_builtin entry_len ?_)
    rw [Around.under_plainId plain_len _]
    unfold Builtin.«len»
    refine wpAny_bind (m := oneArg "len" _) (wpAny_pure ?_)
    refine wpAny_bind (m := callSpecial? (.ref x) (Str.ofString "__len__")) (PySem.W.special_fn Y I hl (beq_iff_eq.mp hf) (wpAny_mono h (fun r s' hr => ?_) fun _ _ y => y))
    obtain ⟨n, u, rfl, h0, h1, hq⟩ := hr
    refine wpAny_bind (wpAny_holding (wpAny_pure ?_))
    refine wpAny_bind (wpAny_letGo ?_)
    show wpAny _ _ (if n < 0 then _ else _) _ _ _
    rw [if_neg (by omega)]
    show wpAny _ _ (if n ≥ 2 ^ 63 then _ else _) _ _ _
    rw [if_neg (by omega)]
    exact wpAny_bind (wpAny_mkInt (wpAny_pure ⟨_, _, rfl, hq _⟩))
  unfold truthy
  refine wpAny_bind (m := callSpecial? (.ref x) (Str.ofString "__bool__")) (wpAny_bind (wpAny_bind (I.type.here ((PySem.W.looks_findIn Y hs).here (wpAny_pure ?_)))))
  refine wpAny_bind (wpAny_bind (I.type.here ((PySem.W.looks_findIn Y hl).here ?_)))
  show wpAny _ _ (runValue (.builtin "len" ⟨[.ref x], []⟩) >>= _) _ _ _
  refine wpAny_bind (wpAny_mono key (fun r s' hr => ?_) fun _ _ y => y)
  obtain ⟨n, t, rfl, hq⟩ := hr
  exact wpAny_pure hq
end
end Bw
set_option Elab.async false
set_option linter.all false
set_option maxRecDepth 100000
set_option maxHeartbeats 4000000
namespace Bw
open PySem PySem.Spec PyProof.Rows L2
section
variable {X : Cx} {CX : CXT} {C f : Addr} {fd : FuncData} {ps : List Str} {sp : Sp} {n : Nat} {E : XK}
/-! ### bool(x) by its len -/
def rBoolOwn (C : Addr) (sp : Sp) (E : XK) : List V → Hp → VK → Prop := fun xs H Q => ∃ a dx fs, xs = [V.ref a] ∧ H a = some (.ins C dx fs) ∧ sp [.ref a] H (fun z H' => ∃ i : Int, z = .int i ∧ 0 ≤ i ∧ i < 2 ^ 63 ∧ Q (.bl (i != 0)) H') E
theorem c_boolOwn (hs0 : PySem.W.findIn X.K (.ref C) "__bool__" = some none) (hs : PySem.W.findIn X.K (.ref C) "__len__" = some (some (.ref f))) (hf : PySem.W.isFn X.K (.ref f) = true) (F : FnOk X.prog X.w X.K X.mg X.base CX n f fd ps sp) (hr : Room (n + 3) X.A) (hb : Binds X.K fd ps []) (hx : Passes CX X E) : CallR X (.type "bool") (rBoolOwn C sp E) := by
  intro pins s σ H xs us Q I r h
  obtain ⟨a, dx, fs, rfl, ha, q⟩ := h
  obtain ⟨u, rfl, ru⟩ := vals1 r
  obtain rfl : u = Value.ref a := ru
  obtain ⟨mA, J, _⟩ := ins_get I.hok ha
  obtain ⟨od, J, _⟩ := J.look
  refine callType_codes (T := "bool") (Bi := Builtin.«object.__init__») (Q₁ := fun r s₁ => ∃ b, r = Value.bool b ∧ EP X pins σ Q (.bool b) s₁) PySem.F.called_bool (PySem.F.typeCall_bool_1 _) PySem.F.entry_object_init ?_ ?_
  · refine codeAny_of_tree ?_
    show wpAny _ X.A.in1.in1 (do checkBuiltinCall "bool.__new__" ⟨[.type "bool", .ref a], []⟩; again (.builtin "bool.__new__" ⟨[.type "bool", .ref a], []⟩)) _ _ s
    refine wpAny_bind (wpAny_of_eq (PySem.F.newCall_bool_1 _) (wpAny_pure ⟨plainId_quiet (by decide +kernel) _, codeAny_builtin PySem.F.entry_bool_new ?_⟩))
    rw [Around.under_plainId (by decide +kernel) _]
    unfold Builtin.«bool.__new__»
    refine wpAny_bind (m := isType _) (wpAny_pure ?_)
    refine wpAny_bind (wpAny_of_eq PySem.F.conv_sub_bool ?_)
    refine wpAny_bind (wpAny_pure ?_)
    refine wpAny_bind (wpAny_mono (truthy_len (Q := fun b s₁ => EP X pins σ Q (.bool b) s₁) I.kIn J hs0 hs hf ?_) (fun b s₁ hb => wpAny_pure ⟨b, rfl, hb⟩) fun _ _ y => y)
    have hl := F.len _ _ _ _ q
    refine wpAny_call (codeAny_mono (F.run _ X.stack s H ⟨[.ref a], []⟩ [.ref a] [.ref a] _ E hr.in1.in1.in1 I.env0.in1.in1.in1 (by
      have z := hb s [.ref a] I.kIn (by simpa using hl)
      simpa using z) (.cons rfl .nil) q) fun r s' hq => ?_)
    cases r with
    | error e => exact hx pins σ H s e s' I hq
    | ok fl =>
      cases fl with
      | ret w =>
        obtain ⟨z, H', I', rz, i, ei, i0, i1, qz⟩ := I.after hq
        subst ei
        obtain ⟨t, rfl⟩ := (show ∃ t, w = Value.int i t from rz)
        exact ⟨i, t, rfl, i0, i1, fun tk => ⟨.bl (i != 0), H', I'.tok _, rfl, qz⟩⟩
      | next => exact False.elim hq
      | brk => exact False.elim hq
      | cont => exact False.elim hq
  · rintro obj s₁ ⟨b, rfl, hq⟩
    exact ⟨PySem.typeIs_bool _ _, PySem.F.args_object_init_2 _ _, object_init_meets PySem.F.called_bool.init.lookup PySem.F.called_bool.made (by decide) X.prog X.w X.A.in1 _ s₁ ⟨PySem.typeIs_bool _ _, rfl, hq⟩⟩
/-! ### x == y, x an own instance, y a dict with tuples for keys, or a text -/
theorem own_runV (F : FnOk X.prog X.w X.K X.mg X.base CX n f fd ps sp) (hr : Room n X.A) (hb : Binds X.K fd ps []) (hx : Passes CX X E) {pins : List (Addr × Obj)} {s : Shared} {σ : L2.St} {H : Hp} {a : Addr} {y : V} {u : Value} {Q : Bool → Hp → Prop} (I : L2.Inv X pins σ H s) (ry : L2.RelV y u)
    (q : sp [.ref a, y] H (fun z H' => ∃ c : Bool, z = .bl c ∧ Q c H') E) : wpAny (model X.prog X.w) X.A (call (.ref f) [.ref a, u]) (fun v s' => ∃ (c : Bool) (H' : Hp), v = .bool c ∧ L2.Inv X pins σ H' s' ∧ Q c H') X.xe s := by
  have hl := F.len _ _ _ _ q
  refine wpAny_call (codeAny_mono (F.run X.A X.stack s H ⟨[.ref a, u], []⟩ [.ref a, u] [.ref a, y] _ E hr I.env0 (by
    have z := hb s [.ref a, u] I.kIn (by simpa using hl)
    simpa using z) (.cons rfl (.cons ry .nil)) q) fun r s' hq => ?_)
  cases r with
  | error e => exact hx pins σ H s e s' I hq
  | ok fl =>
    cases fl with
    | ret w =>
      obtain ⟨z, H', I', rz, c, ec, qc⟩ := I.after hq
      subst ec
      obtain rfl : w = Value.bool c := rz
      exact ⟨c, H', rfl, I', qc⟩
    | next => exact False.elim hq
    | brk => exact False.elim hq
    | cont => exact False.elim hq
def rEqOwnV (C : Addr) (sp : Sp) (E : XK) : R2 := fun x y H Q => ∃ a dx fs, x = .ref a ∧ H a = some (.ins C dx fs) ∧ ((∃ y', y = .str y') ∨ ∃ b kvs, y = .ref b ∧ H b = some (.dT kvs)) ∧ sp [.ref a, y] H (fun z H' => ∃ c : Bool, z = .bl c ∧ Q (.bl c) H') E
theorem o_eqOwnV (hnS : PySem.W.notFirst X.K C (.type "str") = true) (hnD : PySem.W.notFirst X.K C (.type "dict") = true) (hs : PySem.W.findIn X.K (.ref C) "__eq__" = some (some (.ref f))) (hf : PySem.W.isFn X.K (.ref f) = true) (F : FnOk X.prog X.w X.K X.mg X.base CX n f fd ps sp) (hr : Room n X.A) (hb : Binds X.K fd ps []) (hx : Passes CX X E) : OpR X (compareOp .Eq) (rEqOwnV C sp E) := by
  intro pins s σ H x y v u Q I rx ry h
  obtain ⟨a, dx, fs, rfl, ha, hy, q⟩ := h
  cases rx
  obtain ⟨mA, J, _⟩ := ins_get I.hok ha
  obtain ⟨od, J, _⟩ := J.look
  obtain ⟨m, hF⟩ := I.fr
  have run := own_runV F hr hb hx I ry q
  have fin : ∀ (v : Value) (s' : Shared), (∃ (c : Bool) (H' : Hp), v = .bool c ∧ L2.Inv X pins σ H' s' ∧ Q (.bl c) H') → PySem.W.CmpBack (EP X pins σ Q) v s' := fun v s' z => by
    obtain ⟨c, H', rfl, I', qc⟩ := z
    exact ⟨.bl c, H', I', rfl, qc⟩
  rcases hy with ⟨y', rfl⟩ | ⟨b, kvs, rfl, eb⟩
  · obtain ⟨t, rfl⟩ := (show ∃ t, u = Value.str y' t from ry)
    show wpAny _ _ (richCompare .Eq (.ref a) (.str y' t)) _ _ _
    exact PySem.W.cmp_K (op := .Eq) (tb := .type "str") hr.units0 hF I.ok.mod.kin J (PySem.W.Looks.of_pure rfl) hnS hs hf (wpAny_mono run fin fun _ _ z => z)
  · obtain rfl : u = Value.ref b := ry
    obtain ⟨_, _, xs, _, o, es, ep, h1, h2, _⟩ := (show ObjOk X.prog X.w H s.heap b (.dT kvs) from I.hok b _ eb)
    show wpAny _ _ (richCompare .Eq (.ref a) (.ref b)) _ _ _
    refine PySem.W.cmp_K (op := .Eq) (tb := .type "dict") hr.units0 hF I.ok.mod.kin J ?_ hnD hs hf (wpAny_mono run fin fun _ _ z => z)
    have : PySem.W.Looks (model X.prog X.w) s.heap (typeOf (.ref b)) o.cls := (PySem.W.Looks.ld (M := model X.prog X.w) (part := none) h1).andThen .now
    rw [← h2.1]
    exact this
end
end Bw
set_option Elab.async false
set_option linter.all false
set_option maxRecDepth 100000
set_option maxHeartbeats 4000000
namespace Bw
open PySem PySem.Spec PyProof.Rows L2
theorem same_empty {prog : Program} {w : World} {A : Around} {E : Value → Shared → Prop} {s : Shared} {nm : String} {a b : Addr} {oa ob : Obj} {es : Array DictEntry} {ep ep' : Nat} {Q : Bool → Shared → Prop} (ha : (a == sysModules) = false) (hb : (b == sysModules) = false)
    (hoa : s.heap.get? a = some oa) (hda : oa.data = .dict es ep) (hob : s.heap.get? b = some ob) (hdb : ob.data = .dict #[] ep') (h : Q (es.size == 0) s) : wpAny (model prog w) A (Builtin.Dict.samePairs nm a b) Q E s := by
  unfold Builtin.Dict.samePairs Builtin.Dict.showsAll
  rw [if_neg (show ¬ (a == sysModules) = true by rw [ha]; exact Bool.false_ne_true), if_neg (show ¬ (b == sysModules) = true by rw [hb]; exact Bool.false_ne_true)]
  refine wpAny_bind (wpAny_pure (wpAny_bind (wpAny_pure ?_)))
  refine wpAny_bind (wpAny_dictEntries hoa hda ?_)
  dsimp only
  refine wpAny_bind (wpAny_dictEntries hob hdb ?_)
  by_cases hsz : es.size = 0
  case neg =>
    rw [if_pos (by simpa using hsz)]
    have hbf : (es.size == 0) = false := by simpa using hsz
    rw [hbf] at h
    exact wpAny_bind (wpAny_rule (wpAny_pure h))
  case pos =>
    have h' : Q true s := by simpa [hsz] using h
    rw [if_neg (by rw [hsz]; simp)]
    refine wpAny_bind (wpAny_dictEpoch hoa hda ?_)
    refine wpAny_bind ?_
    rw [Std.Legacy.Range.forIn_eq_forIn_range', hsz]
    simp only [Std.Legacy.Range.size, Nat.sub_zero, Nat.add_sub_cancel, Nat.div_one, List.range'_zero, List.forIn_nil]
    exact wpAny_pure (wpAny_pure h')
theorem ne_empty {prog : Program} {w : World} {A : Around} {E : Value → Shared → Prop} {s : Shared} {a b : Addr} {oa ob : Obj} {es : Array DictEntry} {ep ep' : Nat} {Q : Value → Shared → Prop} (ha : (a == sysModules) = false) (hb : (b == sysModules) = false)
    (hoa : s.heap.get? a = some oa) (xa : oa.ExactDict) (hda : oa.data = .dict es ep) (hob : s.heap.get? b = some ob) (xb : ob.ExactDict) (hdb : ob.data = .dict #[] ep') (hu : A.units < cLine) (h : Q (.bool (!(es.size == 0))) s) :
    wpAny (model prog w) A (compareOp .NotEq (.ref a) (.ref b)) Q E s := by
  have ta : s.TypeIs (.ref a) "dict" := ⟨oa, hoa, xa.1⟩
  have tb : s.TypeIs (.ref b) "dict" := ⟨ob, hob, xb.1⟩
  refine wpAny_richCompare_same_room (op := .NotEq) ta tb PySem.F.slot_dict_ne (wpAny_call_entry PySem.F.slot_dict_ne ta PySem.F.entry_dict_ne ?_ (PySem.F.args_dict_ne_2 _ _)) hu
  show wpAny _ _ (Builtin.Dict.dictSlotArgs "__ne__" ⟨[.ref a, .ref b], []⟩ >>= _) _ _ s
  refine wpAny_bind ?_
  unfold Builtin.Dict.dictSlotArgs
  refine wpAny_bind (wpAny_notOrdered_dict ta ?_)
  show wpAny _ _ (pure (Value.ref a, Value.ref b)) _ _ s
  refine wpAny_pure ?_
  refine wpAny_bind (wpAny_isInstance (T := "dict") tb PySem.F.sub_dict_dict ?_)
  simp only [Bool.not_true, Bool.false_eq_true, if_false]
  refine wpAny_bind (wpAny_pure (wpAny_bind (wpAny_pure ?_)))
  refine wpAny_bind (same_empty ha hb hoa hda hob hdb ?_)
  refine wpAny_pure ⟨_, rfl, ?_, ?_⟩
  · exact fun x => nomatch x
  · simpa using h
/-- d != {}, d with tuples for keys -/
def rNeD0 : R2 := fun x y H Q => ∃ a b kvs, x = .ref a ∧ y = .ref b ∧ H a = some (.dT kvs) ∧ H b = some (.dT []) ∧ Q (.bl (!(kvs.length == 0))) H
theorem o_neD0 {X : Cx} (hu : X.A.units < cLine) : OpR X (compareOp .NotEq) rNeD0 := by
  intro pins s σ H x y v u Q I rx ry h
  obtain ⟨a, b, kvs, rfl, rfl, ha, hb, q⟩ := h
  cases rx
  cases ry
  obtain ⟨_, sa, xs, kt, o, es, ep, h1, h2, h3, h4, _⟩ := (show ObjOk X.prog X.w H s.heap a (.dT kvs) from I.hok a _ ha)
  obtain ⟨_, sb, ys, kt', o', es', ep', g1, g2, g3, g4, _⟩ := (show ObjOk X.prog X.w H s.heap b (.dT []) from I.hok b _ hb)
  have ly : ys = [] := by
    cases kt'
    rfl
  subst ly
  have e0 : es' = #[] := by
    apply Array.toList_inj.mp
    rw [g4]
    rfl
  subst e0
  have le : es.size = kvs.length := by
    rw [← Array.length_toList, h4, List.length_map]
    exact kt.length.symm
  refine ne_empty sa sb h1 h2 h3 g1 g2 g3 hu ?_
  rw [le]
  exact ⟨.bl _, H, I, rfl, q⟩
end Bw
set_option Elab.async false
set_option linter.all false
set_option maxRecDepth 100000
set_option maxHeartbeats 16000000
namespace Bw
open PySem PySem.Spec PyProof.Rows L2 LamX
theorem c_min {X : Cx} {K : PySem.W.Frag} (hc : X.calm = true) (h : X.K = K := by rfl) : CallR X (.builtin "min") (rMin K) := by
  subst h
  exact cr_min hc
theorem fold_min : ∀ {n : Int} {ms : List Int} {m : Int}, m ∈ n :: ms → (∀ y ∈ n :: ms, m ≤ y) → ms.foldl min n = m
  | n, [], m, h, _ => (List.mem_singleton.mp h).symm
  | n, k :: ms, m, h, hx => by
    show ms.foldl min (min n k) = m
    refine fold_min ?_ fun y hy => ?_
    · have a1 := hx n (List.mem_cons_self ..)
      have a2 := hx k (List.mem_cons_of_mem _ (List.mem_cons_self ..))
      rcases List.mem_cons.mp h with rfl | h
      · rw [Int.min_eq_left a2]
        exact List.mem_cons_self ..
      · rcases List.mem_cons.mp h with rfl | h
        · rw [Int.min_eq_right a1]
          exact List.mem_cons_self ..
        · exact List.mem_cons_of_mem _ h
    · rcases List.mem_cons.mp hy with rfl | hy
      · have a1 := hx n (List.mem_cons_self ..)
        have a2 := hx k (List.mem_cons_of_mem _ (List.mem_cons_self ..))
        omega
      · exact hx y (List.mem_cons_of_mem _ (List.mem_cons_of_mem _ hy))
theorem fold_max : ∀ {n : Int} {ms : List Int} {m : Int}, m ∈ n :: ms → (∀ y ∈ n :: ms, y ≤ m) → ms.foldl max n = m
  | n, [], m, h, _ => (List.mem_singleton.mp h).symm
  | n, k :: ms, m, h, hx => by
    show ms.foldl max (max n k) = m
    refine fold_max ?_ fun y hy => ?_
    · have a1 := hx n (List.mem_cons_self ..)
      have a2 := hx k (List.mem_cons_of_mem _ (List.mem_cons_self ..))
      rcases List.mem_cons.mp h with rfl | h
      · rw [Int.max_eq_left a2]
        exact List.mem_cons_self ..
      · rcases List.mem_cons.mp h with rfl | h
        · rw [Int.max_eq_right a1]
          exact List.mem_cons_self ..
        · exact List.mem_cons_of_mem _ h
    · rcases List.mem_cons.mp hy with rfl | hy
      · have a1 := hx n (List.mem_cons_self ..)
        have a2 := hx k (List.mem_cons_of_mem _ (List.mem_cons_self ..))
        omega
      · exact hx y (List.mem_cons_of_mem _ (List.mem_cons_of_mem _ hy))
/-- one by its place, one by its name -/
def oneL {α : Type} : List α → List α → List α
  | [a], [b] => [a, b]
  | _, _ => []
structure MetK (P : Program) (w : World) (K : PySem.W.Frag) (mg : Str → Option Value) (base : Heap) (k : Nat) (C : Addr) (m : Str) (ps ks : List Str) (sp : Sp) : Prop where
  ex : ∃ (f : Addr) (fd : FuncData), Cls K C ∧ Meth K C m f ∧ FnOk P w K mg base (L2.CX P w) k f fd ps sp ∧ KBinds K fd ps ks oneL oneL
theorem pe_mtK {X : Cx} {k : Nat} {C : Addr} {ps ks : List Str} {sp : Sp} {E : XK} {m : Str} {o : Expr} {ta : TE} {apos pos : Pos} {kws : List Keyword} {tk : TA} {pl : Sem Bool} (M : MetK X.prog X.w X.K X.mg X.base k C m ps ks sp) (hr : Room k X.A) (hx : Passes (L2.CX X.prog X.w) X E) (he : PE X o ta)
    (hkw : PK X kws tk) (hall : (backToKw pos (keywordEach kws X.env)).all (·.1.isSome) = true := by rfl) (hks : (backToKw pos (keywordEach kws X.env)).filterMap (·.1) = ks := by rfl)
    (hpl : ((backTo pos (starEach [] X.env)).any (·.1) || (backToKw pos (keywordEach kws X.env)).any (·.1.isNone)) = false := by rfl)
    (ht : eval (.Call (.Attribute o m apos) [] kws pos) X.env = (do
      let ov ← eval o X.env
      standAt apos.atName
      let (f, first) ← holding [ov] (getMethod ov m pl)
      callWith pos f first (backTo pos (starEach [] X.env)) (backToKw pos (keywordEach kws X.env))) := by rfl) :
    PE X (.Call (.Attribute o m apos) [] kws pos) (tMethK C m sp oneL E ta tk) := by
  obtain ⟨f, fd, c, hm, F, hb⟩ := M.ex
  exact pe_methK0 (pl := pl) he c hm F hr hb hx hkw hall hks hpl ht
theorem made_same {H : Hp} {C x dx : Addr} (x0 : H x = none) (dx0 : H dx = none) (n : dx ≠ x) : Same H (upd (upd H dx (.own x)) x (.ins C dx [])) := (same_upd dx0).trans (same_upd (by rw [upd_ne (Ne.symm n)]; exact x0))
/-- the ends of what stands in another order -/
theorem end_of {g : Int → Int → Int} {ws : List Int} {m : Int} (hm : m ∈ ws) (h : ∀ n ms, ws = n :: ms → ms.foldl g n = m) : endO g ws = .int m := by
  cases ws with
  | nil => cases hm
  | cons n ms => exact congrArg V.int (h n ms rfl)
structure Lw (C f l x d hD : Addr) (n : Nat) (r bk : List Tm) (hs : List Int) (Ts : List (Addr × Str)) (H : Hp) : Prop where
  feed : FeedAt H f l
  tb : Tabs Ts H
  sum : SumAt C H x n r
  book : BkAt H d bk
  hl : H hD = some (.lst (hs.map V.int))
theorem Lw.same {C f l x d hD : Addr} {n : Nat} {r bk : List Tm} {hs : List Int} {Ts : List (Addr × Str)} {H H' : Hp} (s : Same H H') (h : Lw C f l x d hD n r bk hs Ts H) : Lw C f l x d hD n r bk hs Ts H' := ⟨h.feed.same s, h.tb.ext s, h.sum.same s, s _ _ h.book, s _ _ h.hl⟩
theorem Lw.kp {C f l x d hD : Addr} {n : Nat} {r bk : List Tm} {hs : List Int} {Ts : List (Addr × Str)} {H H' : Hp} (k : Kp f H H') (hf : FeedAt H' f l) (tb : Tabs Ts H') (nf : hD ≠ f) (h : Lw C f l x d hD n r bk hs Ts H) : Lw C f l x d hD n r bk hs Ts H' := ⟨hf, tb, h.sum.kp k h.feed, BkAt.kp k h.feed h.book, k.lst nf h.hl⟩
def benP (far off : Int) (p : List Int) : List Int := p.map fun x => x % far - off
def benT (far off : Int) (a : Tm) : Tm := (benP far off a.1, a.2)
/-- what a sum of terms has comes from these -/
theorem cn_keys {ts r : List Tm} (h : Cn (Lf ts) r) {a : Tm} (ha : a ∈ r) : ∃ b ∈ ts, b.1 = a.1 := by
  have e := h.norm
  rw [e] at ha
  obtain ⟨b, hb, e⟩ := norm_mem ha
  exact ⟨b, hb, e⟩
section
variable {P : Program} {w : World} {K : PySem.W.Frag} {mg : Str → Option Value} {base : Heap} {C CN CS : Addr}
abbrev s_law : Stmt := topS 55
abbrev n_law : List Str := ["_law_script", "_law_feed_here", "_law_width", "_law_far", "_law_off", "_law_rows", "_law_terms_here", "_law_book_here", "_law_found", "_law_hills", "_law_due", "_law_powers_here", "_law_ends_now", "_law_handed", "_law_told", "_law_low_here", "_law_many", "_law_by", "_law_k", "_law_one"]
theorem sc_law : FnScope n_law ["_law_script"] (defScope s_law) := ⟨rfl, rfl, rfl, by decide +kernel, rfl, by decide +kernel, by decide +kernel⟩
abbrev TsL (P1 P2 P3 : Addr) : List (Addr × Str) := [(P1, qL "law"), (P2, qL "_law_worth_so"), (P3, qL "_law_lengths_so")]
def spLaw (K : PySem.W.Frag) (P1 P2 P3 : Addr) : Sp := fun vs H Q _ => ∃ (a : Addr) (ns : List Int), vs = [.ref a] ∧ SqL K H a (ns.map V.int) ∧ ns.length ≤ 63 ∧ H P1 = some (.tbl #[]) ∧ H P2 = some (.tbl #[]) ∧ H P3 = some (.tbl #[]) ∧ ∀ H', Q (.bl true) H'
theorem ok_law {fA cc P1 P2 P3 : Addr} {oc kV doc pm ct : Value} {od an : Option Addr} {osl : Array (Option Value)} (lk : K.lookup fA = some ⟨oc, od, .func (PySem.W.fnOf "law" "law" (defArgs s_law) (defBody s_law) (defScope s_law) .none kV doc pm an (.ref cc) ct), osl⟩) (hcd : PySem.W.codeIn K (.ref cc) "law" = true) (T : Tx mg) (S : SumC K mg C)
    (c_law_feed : Cal P w K mg base CX0 1 "_law_feed" ["_law_script"] (spFeed K)) (c_law_draw : Cal P w K mg base CX0 1 "_law_draw" ["_law_feed_here", "_law_many"] spDraw) (c_law_pick : Cal P w K mg base CX0 2 "_law_pick" ["_law_feed_here", "_law_row"] spPick) (c_law_terms : Cal P w K mg base CX0 4 "_law_terms" ["_law_feed_here", "_law_width", "_law_most"] spTerms) (c_law_book : Cal P w K mg base CX0 1 "_law_book" ["_law_terms_here"] spBook) (c_law_great_number : Cal P w K mg base CX0 3 "_law_great_number" ["_law_feed_here"] spGreat)
    (M : MakS P w K mg base 2 C ["self", "width", "terms"] (spInit K C)) (m_least : MetX P w K mg base 5 C "least" ["self", "numbers"] (spEndX min C CS)) (mk_greatest : MetK P w K mg base 5 C "greatest" ["self", "numbers"] ["numbers"] (spEndX max C CS)) (m_lowest : MetS P w K mg base 2 C "lowest" ["self"] (spLowestM C)) (c_law_same : Cal P w K mg base CX0 4 "_law_same" ["_law_found", "_law_due"] (spSame 3))
    (c_law_worth_so : Cal P w K mg base CX0 10 "_law_worth_so" ["_law_feed_here", "_law_found", "_law_book_here", "_law_width"] (spWSo C (TsL P1 P2 P3))) (c_law_lengths_so : Cal P w K mg base CX0 10 "_law_lengths_so" ["_law_found", "_law_heights", "_law_width"] (spLSo C (TsL P1 P2 P3))) : FnOk P w K mg base CX0 11 fA (PySem.W.fnOf "law" "law" (defArgs s_law) (defBody s_law) (defScope s_law) .none kV doc pm an (.ref cc) ct) ["_law_script"] (spLaw K P1 P2 P3) := by
  refine fn_of lk hcd sc_law (fun vs H Q E h => ?_) (fun A outer s H vs Q E hr h => ?_)
  · obtain ⟨a, ns, rfl, _⟩ := h
    rfl
  · obtain ⟨a, ns, rfl, hS, hlen, hp1, hp2, hp3, q⟩ := h
    suffices hh : ∃ t, PSs (cxOf CX0 P w K mg base n_law "law" (defScope s_law) _ (.ref cc) A outer s H E).nox (defBody s_law) t ∧ t { nx := fun _ H' => Q .non H', rt := Q } (L2.start n_law [.ref a]) H by
      obtain ⟨t, h1, h2⟩ := hh
      exact ⟨t, h1.nox, h2⟩
    have hu := hr.units
    refine ⟨_, (pss_cons (ps_set (i := 1) sc_law.nd rfl (.inr rfl) (pe_cal c_law_feed (hr.mono (by decide)) (by rfl) (pa_cons (pv 0) pa_nil)))
  (pss_cons (ps_set (i := 2) sc_law.nd rfl (.inl rfl) (pe_cal c_law_draw (hr.mono (by decide)) (by rfl) (pa_cons (pv 1) (pa_cons pe_int pa_nil))))
  (pss_cons (ps_set (i := 3) sc_law.nd rfl (.inr rfl) (pe_cal c_law_pick (hr.mono (by decide)) (by rfl) (pa_cons (pv 1) (pa_cons (pe_lst (pa_cons pe_int (pa_cons pe_int (pa_cons pe_int pa_nil)))) pa_nil))))
  (pss_cons (ps_set (i := 4) sc_law.nd rfl (.inr rfl) (pe_op op_mul pe_int (pe_callTy call_int1 (by rfl) T.int (by decide +kernel) (pa_cons (pe_cmpR op_lt (pv 3) pe_int (nomark _)) pa_nil))))
  (pss_cons (ps_set (i := 5) sc_law.nd rfl (.inl rfl) (pe_cal c_law_terms (hr.mono (by decide)) (by rfl) (pa_cons (pv 1) (pa_cons (pv 2) (pa_cons pe_int pa_nil)))))
  (pss_cons (ps_setLc (i := 6) (own := [("_law_powers_here", 11), ("_law_many", 16)]) (by rfl) sc_law.nd rfl rfl (sw_true rfl rfl rfl (by decide +kernel)) (p_list (K := K) (pv 5)) (blkOk_by (own := [("_law_powers_here", 11), ("_law_many", 16)]) (N := n_law) (sc := defScope s_law) (by decide +kernel)) (fun _ _ _ _ _ => (g_tup (K := K) (n := 2) rfl (pgs_cons (pg_name (i := 11) sc_law.nd rfl (.inl rfl)) (pgs_cons (pg_name (i := 16) sc_law.nd rfl (.inl rfl)) pgs_nil)))) (fun _ _ _ _ _ => pts_nil) (fun _ _ _ _ _ => (pe_tup (pa_cons (pe_callTy (c_tup (K := K)) (by rfl) T.tuple (by decide +kernel) (pa_cons (pe_lc (own := [("_law_by", 17)]) (by rfl) sc_law.nd (p_tup (K := K) (pv 11)) (blkOk_by (own := [("_law_by", 17)]) (N := n_law) (sc := { kind := .function, names := [(".0", .local), ("_law_powers_here", .local), ("_law_many", .local), ("tuple", .globalImplicit), ("_law_far", .cell), ("_law_off", .cell)], isGenerator := false, isCoroutine := false }) (by decide +kernel)) (fun _ _ _ _ _ => (pg_name (i := 17) sc_law.nd rfl (.inl rfl))) (fun _ _ _ _ _ => pts_nil) (fun _ _ _ _ _ => (pe_op op_sub (pe_op op_mod (pv 17) (pv 3)) (pv 4)))) pa_nil)) (pa_cons (pv 16) pa_nil)))))
  (pss_cons (ps_set (i := 7) sc_law.nd rfl (.inr rfl) (pe_cal c_law_book (hr.mono (by decide)) (by rfl) (pa_cons (pv 6) pa_nil)))
  (pss_cons (ps_set (i := 8) sc_law.nd rfl (.inl rfl) (pe_mkS M (hr.mono (by decide)) (by rfl) (pa_cons (pv 2) (pa_cons (pv 6) pa_nil))))
  (pss_cons (ps_setLc (i := 9) (own := [("_law_k", 18)]) (by rfl) sc_law.nd rfl rfl (sw_true rfl rfl rfl (by decide +kernel)) (pi_range1 (by rfl) T.range (pa_cons (pv 2) pa_nil)) (blkOk_by (own := [("_law_k", 18)]) (N := n_law) (sc := defScope s_law) (by decide +kernel)) (fun _ _ _ _ _ => (pg_name (i := 18) sc_law.nd rfl (.inl rfl))) (fun _ _ _ _ _ => pts_nil) (fun _ _ _ _ _ => (pe_cal c_law_great_number (hr.mono (by decide)) (by rfl) (pa_cons (pv 1) pa_nil))))
  (pss_cons (ps_set (i := 10) sc_law.nd rfl (.inl rfl) (pe_lst pa_nil))
  (pss_cons (ps_lock (ps_for PassesOwn.never rfl (pi_keys (pv 7)) (pg_name (i := 11) sc_law.nd rfl (.inl rfl))
    (pss_one (ps_expr (pe_bm PySem.F.plainAttrs_list PySem.F.slot_list_append PySem.F.type_list_append mt_append (pv 10) (pa_cons (pe_callB (c_sum (K := K) rfl) (by rfl) T.sum (by decide +kernel) (pa_cons (pe_lc (own := [("_law_one", 19), ("_law_by", 17)]) (by rfl) sc_law.nd (p_zipM (K := K) (by rfl) T.zip (pa_cons (pv 9) (pa_cons (pv 11) pa_nil))) (blkOk_by (own := [("_law_one", 19), ("_law_by", 17)]) (N := n_law) (sc := defScope s_law) (by decide +kernel)) (fun _ _ _ _ _ => (g_tup (K := K) (n := 2) rfl (pgs_cons (pg_name (i := 19) sc_law.nd rfl (.inl rfl)) (pgs_cons (pg_name (i := 17) sc_law.nd rfl (.inl rfl)) pgs_nil)))) (fun _ _ _ _ _ => pts_nil) (fun _ _ _ _ _ => (pe_op op_mul (pv 19) (pv 17)))) pa_nil)) pa_nil))))))
  (C8.pss_cut (ps_set (i := 12) sc_law.nd rfl (.inl rfl) (pe_ifExp (pt_cmpR (o_neD (K := K) hu) (pv 10) (pe_lst pa_nil) (nomark _)) (pe_lst (pa_cons (pe_callB (c_min (K := K) rfl) (by rfl) T.min (by decide +kernel) (pa_cons (pv 10) pa_nil)) (pa_cons (pe_callB (c_max (K := K) rfl) (by rfl) T.max (by decide +kernel) (pa_cons (pv 10) pa_nil)) pa_nil))) (pe_lst (pa_cons pe_non (pa_cons pe_non pa_nil)))))
  (pss_cons (ps_set (i := 13) sc_law.nd rfl (.inl rfl) (pe_callTy (c_lst (K := K)) (by rfl) T.list (by decide +kernel) (pa_cons (pv 9) pa_nil)))
  (pss_cons (ps_set (i := 14) sc_law.nd rfl (.inl rfl) (pe_lst (pa_cons (pe_mtX m_least (hr.mono (by decide)) passL (pv 8) (pa_cons (pv 13) pa_nil)) (pa_cons (pe_mtK mk_greatest (hr.mono (by decide)) passL (pv 8) (pk_cons (pv 13) pk_nil)) pa_nil))))
  (pss_cons (ps_if (PW.pt (pw_or (pt_not (pt_val (pe_cal c_law_same (hr.mono (by decide)) (by rfl) (pa_cons (pv 14) (pa_cons (pv 12) pa_nil))))) (pw_or1 (pt_cmpR (o_neD (K := K) hu) (pv 13) (pv 9) (nomark _)))))
    (pss_one (ps_ret pe_bl))
    pss_nil)
  (pss_cons (ps_set (i := 15) sc_law.nd rfl (.inl rfl) pe_non)
  (C8.pss_cut (ps_if (pt_cmpR (o_neD0 (Nat.lt_of_succ_lt (u1 hu))) (pv 7) pe_dnewT (nomark _))
    (pss_one (ps_set (i := 15) sc_law.nd rfl (.inl rfl) (pe_callTy (c_tup (K := K)) (by rfl) T.tuple (by decide +kernel) (pa_cons (pe_lc (own := [("_law_k", 18)]) (by rfl) sc_law.nd (pi_range1 (by rfl) T.range (pa_cons (pv 2) pa_nil)) (blkOk_by (own := [("_law_k", 18)]) (N := n_law) (sc := defScope s_law) (by decide +kernel)) (fun _ _ _ _ _ => (pg_name (i := 18) sc_law.nd rfl (.inr rfl))) (fun _ _ _ _ _ => pts_nil) (fun _ _ _ _ _ => (pe_callB (c_min (K := K) rfl) (by rfl) T.min (by decide +kernel) (pa_cons (pe_lock (pe_lc (own := [("_law_powers_here", 11)]) (by rfl) sc_law.nd (pi_keys (pv 7)) (blkOk_by (own := [("_law_powers_here", 11)]) (N := n_law) (sc := { kind := .function, names := [(".0", .local), ("_law_k", .cell), ("min", .globalImplicit), ("_law_book_here", .cell)], isGenerator := false, isCoroutine := false }) (by decide +kernel)) (fun _ _ _ _ _ => (pg_name (i := 11) sc_law.nd rfl (.inl rfl))) (fun _ _ _ _ _ => pts_nil) (fun _ _ _ _ _ => (pe_ix (i_tup (K := K)) (pv 11) (pv 18) (fun _ _ => rfl))))) pa_nil)))) pa_nil))))
    pss_nil)
  (C8.pss_cut (ps_if (pt_not (pt_val (pe_cal c_law_same (hr.mono (by decide)) (by rfl) (pa_cons (pe_mtS0 m_lowest (hr.mono (by decide)) (pv 8)) (pa_cons (pv 15) pa_nil)))))
    (pss_one (ps_ret pe_bl))
    pss_nil)
  (C8.pss_cut (ps_if (PW.pt (pw_and (pt_cmpR op_lt (pv 3) pe_int (nomark _)) (pw_and1 (pt_not (pt_val (pe_cal c_law_worth_so hr (by rfl) (pa_cons (pv 1) (pa_cons (pv 8) (pa_cons (pv 7) (pa_cons (pv 2) pa_nil))))))))))
    (pss_one (ps_ret pe_bl))
    pss_nil)
  (pss_one (ps_ret (pe_cal c_law_lengths_so hr (by rfl) (pa_cons (pv 8) (pa_cons (pv 9) (pa_cons (pv 2) pa_nil))))))))))))))))))))))))), ?_⟩
    -- the feed, the width
    refine ⟨.ref a, rfl, a, ns, rfl, hS, fun f l H1 s1 nf hf1 => ?_⟩
    have tb1 : Tabs (TsL P1 P2 P3) H1 := fun p hp => by
      simp only [List.mem_cons, List.not_mem_nil, or_false] at hp
      rcases hp with rfl | rfl | rfl
      · exact TabS.nil (s1 _ _ hp1)
      · exact TabS.nil (s1 _ _ hp2)
      · exact TabS.nil (s1 _ _ hp3)
    refine ⟨.ref f, rfl, f, l, 7, rfl, hf1, by decide, by decide, fun u H2 u0 u7 sb2 hf2 => ?_⟩
    obtain ⟨n, rfl⟩ : ∃ n : Nat, u = (n : Int) := ⟨u.toNat, by omega⟩
    have n6 : n ≤ 6 := by omega
    have n8 : n ≤ 8 := by omega
    have tb2 := Tabs.but sb2 hf1 tb1
    clear hf1 tb1 s1 sb2 hS hp1 hp2 hp3 u0 u7
    -- how far
    refine ⟨.ref f, rfl, by show 3 ≤ sizeLine; decide, fun R eR => ?_⟩
    have sR := same_upd (o := .lst [V.int 2, .int 5, .int 1000]) eR
    refine ⟨f, l, R, [.int 2, .int 5, .int 1000], rfl, hf2.same sR, upd_same, hf2.ne eR, by decide, by decide, fun v H3 hv sb3 hf3 => ?_⟩
    have tb3 := Tabs.but sb3 (hf2.same sR) (tb2.ext sR)
    obtain ⟨far, rfl, hfar⟩ : ∃ far : Int, v = .int far ∧ (far = 2 ∨ far = 5 ∨ far = 1000) := by
      simp only [List.mem_cons, List.not_mem_nil, or_false] at hv
      rcases hv with rfl | rfl | rfl
      · exact ⟨2, rfl, .inl rfl⟩
      · exact ⟨5, rfl, .inr (.inl rfl)⟩
      · exact ⟨1000, rfl, .inr (.inr rfl)⟩
    clear hf2 tb2 sR eR sb3 hv
    refine ⟨.int far, rfl, _, _, rfl, rfl, .inr ⟨_, rfl, _, _, rfl, rfl, .inl ⟨by decide, by decide⟩, ?_⟩⟩
    dsimp only
    obtain ⟨off, eoff, hoff⟩ : ∃ off : Int, (2 * if decide (far < 9) = true then (1 : Int) else 0) = off ∧ (far < 9 → off = 2) ∧ 0 ≤ off ∧ off ≤ 2 := by
      refine ⟨_, rfl, fun h => ?_, ?_, ?_⟩
      · rw [if_pos (decide_eq_true h)]
        rfl
      · split <;> decide
      · split <;> decide
    rw [eoff]
    -- the terms
    refine ⟨.ref f, rfl, .int n, rfl, f, l, n, 6, rfl, hf3, n8, by decide, fun R ts terms H4 sb4 hf4 R0 eR hT sm hl => ?_⟩
    have tb4 := Tabs.but sb4 hf3 tb3
    clear hf3 tb3 sb4 R0
    refine ⟨.ref R, rfl, R, rfl, ⟨_, SqL.of eR⟩, fun D eD => ?_⟩
    refine it_walk (walk_list (K := K) (a := R) (xs := ts.map V.ref)) (fun i H' => ∃ us : List Addr, H' D = some (.lst (us.map V.ref)) ∧ TermsAt H' us ((terms.take i).map (benT far off)) ∧ Same H4 H') ⟨[], upd_same, .nil, same_upd eD⟩ (fun i H' _ ⟨_, _, _, s⟩ => SqL.of (s _ _ eR)) ?_ ?_
    · rintro i v H5 H5' hi ⟨us, e5, hU, s5⟩ ⟨rfl, ev⟩
      obtain ⟨t, et, rfl⟩ := ref_at ev
      obtain ⟨b, eb, pa, hp1, hp2⟩ := (hT.same s5).at et
      have hix := (List.getElem?_eq_some_iff.mp eb).1
      have lb := (sm b (List.mem_of_getElem? eb)).1
      refine ⟨t, _, rfl, SqT.of hp1, rfl, _, _, rfl, _, _, rfl, rfl, rfl, ?_⟩
      refine ⟨.ref pa, rfl, pa, rfl, ⟨_, SqT.of hp2⟩, fun Z eZ => ?_⟩
      refine it_walk (walk_tup (K := K) (a := pa) (xs := b.1.map V.int)) (fun j H' => H' Z = some (.lst ((benP far off (b.1.take j)).map V.int)) ∧ Same H5' H') ⟨upd_same, same_upd eZ⟩ (fun j H' _ ⟨_, s⟩ => SqT.of (s _ _ hp2)) ?_ ?_
      · rintro j v2 H6 H6' hj ⟨e6, s6⟩ ⟨rfl, ev2⟩
        obtain ⟨x, ex, rfl⟩ := int_at ev2
        refine ⟨rfl, .int x, rfl, .int far, rfl, _, _, rfl, rfl, by show 0 < far; omega, .int off, rfl, _, _, rfl, rfl, ?_⟩
        refine ⟨_, e6, ?_, ?_, Same.updN s6 eZ⟩
        · rw [List.length_map]
          unfold benP
          rw [List.length_map, List.length_take]
          exact small1000 (by omega)
        · rw [upd_same, List.take_succ, ex]
          unfold benP
          rw [List.map_append, List.map_append]
          rfl
      · rintro H6 ⟨e6, s6⟩
        rw [List.length_map, List.take_length] at e6
        refine ⟨Z, _, rfl, .inl ⟨SqL.of e6, fun U eU => ?_⟩⟩
        have sU := same_upd (o := .tup ((benP far off b.1).map V.int)) eU
        refine ⟨.int b.2, rfl, by show 2 ≤ sizeLine; decide, fun W eW => ?_⟩
        have sW := same_upd (o := .tup [.ref U, .int b.2]) eW
        have s56 := (s6.trans sU).trans sW
        refine ⟨_, s56 _ _ e5, ?_, us ++ [W], ?_, ?_, Same.updN (s5.trans s56) eD⟩
        · rw [List.length_map, hU.1, List.length_map, List.length_take]
          exact small1000 (by omega)
        · rw [upd_same, List.map_append]
          rfl
        · rw [List.take_succ, eb, List.map_append]
          exact TermsAt.put ((hU.same s56).snoc (a := benT far off b) ⟨U, upd_same, sW _ _ upd_same⟩) (s56 _ _ e5)
    rintro H5 ⟨us, e5, hU, s5⟩
    rw [List.length_map, hT.1, List.take_length] at hU
    have hf5 := hf4.same s5
    have tb5 := tb4.ext s5
    have lt : (terms.map (benT far off)).length ≤ 12 := by rw [List.length_map]; omega
    have zt : Sized n (2 ^ 100) (terms.map (benT far off)) := fun x hx => by
      obtain ⟨b, hb, rfl⟩ := List.mem_map.mp hx
      obtain ⟨h1, h2⟩ := sm b hb
      exact ⟨by show (benP far off b.1).length = n; unfold benP; rw [List.length_map, h1], Nat.le_of_lt h2⟩
    have pb : ∀ x ∈ terms.map (benT far off), ∀ y ∈ x.1, -off ≤ y ∧ y < far - off := fun x hx y hy => by
      obtain ⟨b, hb, rfl⟩ := List.mem_map.mp hx
      obtain ⟨z, hz, rfl⟩ := List.mem_map.mp hy
      have h1 := Int.emod_nonneg z (show far ≠ 0 by omega)
      have h2 := Int.emod_lt_of_pos z (show 0 < far by omega)
      show -off ≤ z % far - off ∧ z % far - off < far - off
      omega
    generalize terms.map (benT far off) = tms at hU lt zt pb
    clear hf4 tb4 s5 eR hT sm hl eD
    -- the book, the sum
    refine ⟨.ref D, rfl, D, us, tms, n, 2 ^ 100, rfl, e5, hU, by omega, zt, fun d bk H6 s6 d0 eB B lbk => ?_⟩
    have hf6 := hf5.same s6
    have tb6 := tb5.ext s6
    have e6 := s6 _ _ e5
    have hU6 := hU.same s6
    clear hf5 tb5 e5 hU s6 d0
    refine ⟨.int n, rfl, .ref D, rfl, ?_⟩
    intro x dx x0 dx0 ncd
    have s7 := made_same (C := C) x0 dx0 ncd
    refine ⟨x, dx, D, us, tms, n, 2 ^ 100, true, rfl, upd_same, SqL.of (s7 _ _ e6), hU6.same s7, by omega, zt, fun r H8 sb8 hX cn z' hl' => ⟨rfl, ?_⟩⟩
    have s8 := sb8.same x0 s7
    have hf8 := hf6.same s8
    have tb8 := tb6.ext s8
    have eB8 := s8 _ _ eB
    clear hf6 tb6 e6 hU6 s7 sb8 s8 x0 dx0 ncd eB hl' z'
    have pm := cn.perm B
    have lr : r.length = bk.length := pm.length_eq
    have lb12 : bk.length ≤ 12 := by omega
    have hM : tms.length * 2 ^ 100 < 2 ^ 110 := Nat.lt_of_le_of_lt (Nat.mul_le_mul_right _ lt) (by decide)
    have wr : Wid n r := fun a ha => (B.sz a (pm.mem_iff.mp ha)).1
    have pbk : ∀ a ∈ bk, ∀ y ∈ a.1, -off ≤ y ∧ y < far - off := fun a ha y hy => by
      obtain ⟨b, hb, e⟩ := cn_keys cn (pm.mem_iff.mpr ha)
      rw [← e] at hy
      exact pb b hb y hy
    -- the hills
    refine ⟨.int n, rfl, n, rfl, by omega, by omega, fun hD eD2 => ?_⟩
    have nDf : hD ≠ f := hf8.ne eD2
    have nDl : hD ≠ l := hf8.ne2 eD2
    refine lc_range (fun j H' => ∃ hs : List Int, hs.length = j ∧ H' hD = some (.lst (hs.map V.int)) ∧ FeedAt H' f l ∧ Tabs (TsL P1 P2 P3) H' ∧ Kp f H8 H' ∧ ∀ y ∈ hs, y.natAbs < 2 ^ 100) ⟨[], rfl, upd_same, hf8.same (same_upd eD2), tb8.ext (same_upd eD2), Kp.refl.updN eD2, fun y hy => by cases hy⟩ ?_ ?_
    · rintro j H9 hj ⟨hs, lh, e9, hf9, tb9, k9, hb⟩
      have hj : j < n := hj
      refine ⟨rfl, .ref f, rfl, f, l, rfl, hf9, fun v H10 bv sb10 hf10 => ?_⟩
      have e10 := sb10 _ _ nDf e9
      refine ⟨_, e10, by rw [List.length_map, lh]; exact small1000 (by omega), hs ++ [v], by rw [List.length_append, lh]; rfl, by rw [upd_same, List.map_append]; rfl, hf10.put nDf nDl, Tabs.put (Tabs.but sb10 hf9 tb9) e10, (k9.but sb10).updN eD2, fun y hy => ?_⟩
      rcases List.mem_append.mp hy with hy | hy
      · exact hb y hy
      · rw [List.mem_singleton.mp hy]
        exact bv
    rintro H9 ⟨hs, lh, e9, hf9, tb9, k9, hb⟩
    have lh : hs.length = n := lh
    have hX9 := hX.kp k9 hf8
    have eB9 : BkAt H9 d bk := BkAt.kp k9 hf8 eB8
    clear hf8 tb8 k9 eD2 hX eB8
    have hb60 : ∀ a ∈ r, ∀ y ∈ a.1, y.natAbs < 2 ^ 60 := fun a ha y hy => by
      have := pbk a (pm.mem_iff.mp ha) y hy
      omega
    -- due
    refine ⟨by show 0 ≤ sizeLine; decide, fun G eG => ?_⟩
    have sG := same_upd (o := .lst []) eG
    have eG0 := upd_same (H := H9) (a := G) (o := HO.lst [])
    have hf10 := hf9.same sG
    have tb10 := tb9.ext sG
    have hX10 := hX9.same sG
    have eB10 := sG _ _ eB9
    have e10 := sG _ _ e9
    have nGf : G ≠ f := hf9.ne eG
    have nGl : G ≠ l := hf9.ne2 eG
    have nGD : G ≠ hD := Ne.symm (ne_of_none e9 eG)
    have nGd : G ≠ d := Ne.symm (ne_of_none eB9 eG)
    generalize upd H9 G (.lst []) = H10 at hf10 tb10 hX10 eB10 e10 eG0
    clear sG hf9 tb9 hX9 eB9 e9 eG
    refine ⟨d, _, eB10, trivial, fun od => ?_⟩
    generalize hHx : upd H10 d (.frz od (.dT (bk.map enc))) = Hx
    have xd : Hx d = some (.frz od (.dT (bk.map enc))) := by rw [← hHx]; exact upd_same
    have eGx : Hx G = some (.lst []) := by rw [← hHx, upd_ne nGd]; exact eG0
    have ehx : Hx hD = some (.lst (hs.map V.int)) := by rw [← hHx, upd_ne (ne_of e10 eB10 (fun z => by cases z))]; exact e10
    refine ⟨_, rfl, d, od, rfl, .inr ⟨_, xd, ?_⟩⟩
    refine for_it walk_keysT (fun i σ H' => ∃ (y11 : Option V), σ = [some (.ref a), some (.ref f), some (.int n), some (.int far), some (.int off), some (.ref R), some (.ref D), some (.ref d), some (.ref x), some (.ref hD), some (.ref G), y11, none, none, none, none, none, none, none, none] ∧ SameBut G Hx H' ∧ H' G = some (.lst ((wsums (bk.take i) hs).map V.int))) ⟨none, rfl, fun _ _ _ e => e, eGx⟩ (fun i σ H' _ ⟨_, _, s, _⟩ => s _ _ (Ne.symm nGd) xd) ?_ ?_
    · rintro i v σ H11 H11' hi ⟨y11, rfl, s11, e11⟩ ⟨rfl, key, vv, b, ekv, rfl, eb⟩
      obtain ⟨c, ec, rfl⟩ : ∃ c, bk[i]? = some c ∧ key = c.1.map Sum.inl := by
        rw [List.getElem?_map] at ekv
        cases e : bk[i]? with
        | none =>
          rw [e] at ekv
          cases ekv
        | some c =>
          rw [e] at ekv
          exact ⟨c, rfl, (congrArg Prod.fst (Option.some.inj ekv)).symm⟩
      have ebi : H11' b = some (.tup (c.1.map V.int)) := by
        rw [← kV_ints]
        exact eb
      have mc := List.mem_of_getElem? ec
      have la := (B.sz c mc).1
      have hix := (List.getElem?_eq_some_iff.mp ec).1
      have eh11 := s11 _ _ (Ne.symm nGD) ehx
      refine ⟨.ref G, rfl, .inl ⟨rfl, _, SqL.of e11⟩, .ref hD, rfl, .ref b, rfl, hD, b, hs.map V.int, c.1.map V.int, rfl, .inr ⟨SqL.of eh11, SqT.of ebi, fun Z eZ => ?_⟩⟩
      have lm : n = min (hs.map V.int).length (c.1.map V.int).length := by rw [List.length_map, List.length_map, la, lh, Nat.min_self]
      refine it_walk (walk_zipG (xs := hs.map V.int) (ys := c.1.map V.int) lm) (fun j H' => H' Z = some (.lst ((prods (c.1.take j) (hs.take j)).map V.int)) ∧ Same H11' H') ⟨upd_same, same_upd eZ⟩ (fun j H' _ ⟨_, s⟩ => ⟨SqL.of (s _ _ eh11), SqT.of (s _ _ ebi)⟩) ?_ ?_
      · rintro j v2 H12 H12' hj ⟨e12, s12⟩ ⟨U, x', y', rfl, nU, rfl, hx, hy⟩
        obtain ⟨xv, ex, rfl⟩ := int_at hx
        obtain ⟨yv, ey, rfl⟩ := int_at hy
        have sU := same_upd (o := .tup [V.int xv, .int yv]) nU
        have hyb := pbk c mc yv (List.mem_of_getElem? ey)
        refine ⟨U, _, rfl, SqT.of upd_same, rfl, _, _, rfl, _, _, rfl, rfl, rfl, .int xv, rfl, .int yv, rfl, _, _, rfl, rfl, .inr ⟨by omega, by omega⟩, ?_⟩
        refine ⟨_, sU _ _ e12, ?_, ?_, Same.updN (s12.trans sU) eZ⟩
        · rw [List.length_map]
          refine small1000 ?_
          unfold prods
          rw [List.length_zipWith, List.length_take, List.length_take]
          omega
        · rw [upd_same, prods_take ey ex, List.map_append]
          show some (HO.lst (_ ++ [V.int (xv * yv)])) = some (HO.lst (_ ++ [V.int (yv * xv)]))
          rw [Int.mul_comm xv yv]
      · rintro H12 ⟨e12, s12⟩
        rw [List.take_of_length_le (by omega), List.take_of_length_le (by omega)] at e12
        refine ⟨Z, _, rfl, SqL.of e12, ?_⟩
        refine ⟨G, _, _, rfl, rfl, s12 _ _ e11, ?_, ?_⟩
        · rw [List.length_map]
          unfold wsums
          rw [List.length_map, List.length_take]
          exact small1000 (by omega)
        · refine ⟨_, rfl, fun c o ne e => by rw [upd_ne ne]; exact s12 _ _ (s11 _ _ ne e), ?_⟩
          rw [upd_same]
          unfold wsums
          rw [List.take_succ, ec, List.map_append, List.map_append]
          rfl
    rintro σ H11 ⟨y11, rfl, s11, e11⟩
    rw [List.length_map, List.take_length] at e11
    refine ⟨s11 _ _ (Ne.symm nGd) xd, ?_⟩
    have L12 : Lw C f l x d hD n r bk hs (TsL P1 P2 P3) (upd H11 d (.dT (bk.map enc))) ∧ (upd H11 d (.dT (bk.map enc))) G = some (.lst ((wsums bk hs).map V.int)) := by
      have sb : SameBut G H10 (upd H11 d (.dT (bk.map enc))) := fun b o ne e => by
        by_cases z : b = d
        · subst z
          rw [eB10] at e
          rw [upd_same]
          exact e
        · rw [upd_ne z]
          exact s11 _ _ ne (by rw [← hHx, upd_ne z]; exact e)
      refine ⟨⟨?_, Tabs.butO sb eG0 (fun ps z => by cases z) (fun c q z => by cases z) tb10, ?_, sb _ _ (Ne.symm nGd) eB10, sb _ _ (Ne.symm nGD) e10⟩, ?_⟩
      · obtain ⟨ns, i1, n1, m1, c1, a1', b1, b2, b3⟩ := hf10
        exact ⟨ns, i1, n1, m1, c1, a1', sb _ _ (Ne.symm nGf) b1, sb _ _ (Ne.symm nGl) b2, b3⟩
      · obtain ⟨dx, p, us', h1, h2, h3⟩ := hX10
        exact ⟨dx, p, us', sb _ _ (ne_of h1 eG0 (fun z => by cases z)) h1, sb _ _ (ne_of h2 eG0 (fun z => by cases z)) h2, h3.keep fun b xs e => sb _ _ (ne_of e eG0 (fun z => by cases z)) e⟩
      · rw [upd_ne nGd]
        exact e11
    obtain ⟨L12, e12⟩ := L12
    generalize upd H11 d (.dT (bk.map enc)) = H12 at L12 e12
    clear s11 e11 xd eGx ehx hHx hf10 tb10 hX10 eB10 e10 eG0 nGf nGl nGD nGd
    -- the ends
    refine ⟨fun σ H' => ∃ Y : Addr, σ = [some (.ref a), some (.ref f), some (.int n), some (.int far), some (.int off), some (.ref R), some (.ref D), some (.ref d), some (.ref x), some (.ref hD), some (.ref G), y11, some (.ref Y), none, none, none, none, none, none, none] ∧ Lw C f l x d hD n r bk hs (TsL P1 P2 P3) H' ∧ H' Y = some (.lst [endO min (wsums r hs), endO max (wsums r hs)]), ?_, ?_⟩
    · refine ⟨.ref G, rfl, by show 0 ≤ sizeLine; decide, fun Z eZ => ?_⟩
      have sZ := same_upd (o := .lst []) eZ
      refine ⟨.list ((wsums bk hs).map .int), .list ([].map .int), .lst (SqL.of (sZ _ _ e12)) (dp_ints _), .lst (SqL.of upd_same) (dp_ints []), shaped_lst (ints_lay _) (Nat.le_trans (ints_depth _) (by decide)), shaped_lst (ints_lay []) (Nat.le_trans (ints_depth []) (by decide)), ?_⟩
      have eqv : PyData.eqv (.list ((wsums bk hs).map .int)) (.list ([].map .int)) = decide (wsums bk hs = []) := by
        simp only [PyData.eqv]
        exact ints_eqv _ _
      rw [eqv]
      have e13 := sZ _ _ e12
      have L13 := L12.same sZ
      have pw : (wsums r hs).Perm (wsums bk hs) := pm.map _
      generalize upd H12 Z (.lst []) = H13 at e13 L13
      cases hws : wsums bk hs with
      | nil =>
        rw [decide_eq_true rfl]
        refine ⟨_, rfl, iteF ?_⟩
        refine ⟨by show 2 ≤ sizeLine; decide, fun Y eY => ?_⟩
        have er : wsums r hs = [] := by
          rw [hws] at pw
          exact pw.eq_nil
        refine ⟨Y, rfl, L13.same (same_upd eY), ?_⟩
        rw [upd_same, er]
        rfl
      | cons w0 ws =>
        rw [decide_eq_false (by simp)]
        refine ⟨_, rfl, iteT ?_⟩
        rw [hws] at e13 pw
        refine ⟨.ref G, rfl, G, w0 :: ws, rfl, SqL.of e13, Nat.zero_lt_succ _, fun m hm hx => ⟨.ref G, rfl, G, w0 :: ws, rfl, SqL.of e13, Nat.zero_lt_succ _, fun m' hm' hx' => ?_⟩⟩
        refine ⟨by show 2 ≤ sizeLine; decide, fun Y eY => ?_⟩
        refine ⟨Y, rfl, L13.same (same_upd eY), ?_⟩
        have q1 := end_of (g := min) (pw.mem_iff.mpr hm) fun k ms e => fold_min (by rw [← e]; exact pw.mem_iff.mpr hm) fun y hy => hx y (pw.mem_iff.mp (by rw [e]; exact hy))
        have q2 := end_of (g := max) (pw.mem_iff.mpr hm') fun k ms e => fold_max (by rw [← e]; exact pw.mem_iff.mpr hm') fun y hy => hx' y (pw.mem_iff.mp (by rw [e]; exact hy))
        rw [upd_same, q1, q2]
    clear L12 e12
    rintro σ H13 ⟨Y, rfl, L13, eY⟩
    have hb1000 : ∀ y ∈ hs, y.natAbs < 2 ^ 1000 := fun y hy => Nat.lt_of_lt_of_le (hb y hy) (Nat.pow_le_pow_right (by decide) (by decide))
    -- handed
    refine ⟨.ref hD, rfl, hD, _, rfl, .inl (SqL.of L13.hl), fun c ec => ?_⟩
    have sc := same_upd (o := .lst (hs.map V.int)) ec
    have hc := upd_same (H := H13) (a := c) (o := HO.lst (hs.map V.int))
    have L14 := L13.same sc
    have eY14 := sc _ _ eY
    generalize upd H13 c (.lst (hs.map V.int)) = H14 at hc L14 eY14
    clear sc ec L13 eY
    -- told
    obtain ⟨dx, px, us', k1, k2, k3⟩ := id L14.sum
    refine ⟨.ref x, rfl, x, dx, _, rfl, k1, rfl, .ref c, rfl, ?_⟩
    refine ⟨x, c, n, r, hs, rfl, L14.sum, wr, hc, n8, by omega, hb60, hb1000, fun _ H15 s15 => ?_, fun ne => absurd lh ne⟩
    have L15 := L14.same s15
    refine ⟨.ref x, rfl, x, dx, _, rfl, s15 _ _ k1, rfl, .ref c, rfl, ?_⟩
    refine ⟨x, c, n, r, hs, rfl, L15.sum, wr, s15 _ _ hc, n8, by omega, hb60, hb1000, fun _ H16 s16 => ?_, fun ne => absurd lh ne⟩
    refine ⟨by show 2 ≤ sizeLine; decide, fun X eX => ?_⟩
    have sX := same_upd (o := .lst [endO min (wsums r hs), endO max (wsums r hs)]) eX
    have eX17 := upd_same (H := H16) (a := X) (o := HO.lst [endO min (wsums r hs), endO max (wsums r hs)])
    have s17 := (s15.trans s16).trans sX
    have L17 := L14.same s17
    have eY17 := s17 _ _ eY14
    have hc17 := s17 _ _ hc
    generalize upd H16 X (.lst [endO min (wsums r hs), endO max (wsums r hs)]) = H17 at eX17 L17 eY17 hc17
    clear L14 L15 s15 s16 sX eX s17 eY14 hc k1 k2 k3
    have eo : ∀ (g : Int → Int → Int) (ws : List Int), endO g ws = .non ∨ ∃ m, endO g ws = .int m := fun g ws => by
      cases ws with
      | nil => exact .inl rfl
      | cons w0 ws => exact .inr ⟨_, rfl⟩
    refine ⟨.ref X, rfl, .ref Y, rfl, .ref X, .ref Y, rfl, .inr (.inr ⟨X, Y, _, _, rfl, rfl, eX17, eY17, rfl, by show 2 ≤ 1000; decide, fun j u v f1 f2 => ?_⟩), fun H18 s18 => ⟨true, rfl, iteF ?_⟩⟩
    · rw [f1] at f2
      cases (Option.some.inj f2)
      match j, f1 with
      | 0, f1 =>
        cases (Option.some.inj f1)
        rcases eo min (wsums r hs) with e | ⟨m, e⟩
        · rw [e]; exact .inl ⟨rfl, .inr (.inr (.inr rfl))⟩
        · rw [e]; exact .inl ⟨rfl, .inl ⟨_, rfl⟩⟩
      | 1, f1 =>
        cases (Option.some.inj f1)
        rcases eo max (wsums r hs) with e | ⟨m, e⟩
        · rw [e]; exact .inl ⟨rfl, .inr (.inr (.inr rfl))⟩
        · rw [e]; exact .inl ⟨rfl, .inl ⟨_, rfl⟩⟩
      | j + 2, f1 => simp at f1
    have L18 := L17.same s18
    have hc18 := s18 _ _ hc17
    refine ⟨.ref c, rfl, .ref hD, rfl, .list (hs.map .int), .list (hs.map .int), .lst (SqL.of hc18) (dp_ints _), .lst (SqL.of L18.hl) (dp_ints _), shaped_lst (ints_lay _) (Nat.le_trans (ints_depth _) (by decide)), shaped_lst (ints_lay _) (Nat.le_trans (ints_depth _) (by decide)), ?_⟩
    have eqv2 : PyData.eqv (.list (hs.map .int)) (.list (hs.map .int)) = true := by
      simp only [PyData.eqv]
      rw [ints_eqv]
      exact decide_eq_true rfl
    rw [eqv2]
    refine ⟨_, rfl, iteF ?_⟩
    clear eX17 L17 eY17 hc17 s18 hc18 eqv2 eo
    -- the least powers
    refine ⟨fun σ H' => ∃ v : V, σ = [some (.ref a), some (.ref f), some (.int n), some (.int far), some (.int off), some (.ref R), some (.ref D), some (.ref d), some (.ref x), some (.ref hD), some (.ref G), y11, some (.ref Y), some (.ref c), some (.ref X), some v, none, none, none, none] ∧ Lw C f l x d hD n r bk hs (TsL P1 P2 P3) H' ∧ ((r = [] ∧ v = .non) ∨ (r ≠ [] ∧ ∃ p, v = .ref p ∧ H' p = some (.tup ((lowP n r).map V.int)))), ?_, ?_⟩
    · refine ⟨.ref d, rfl, fun B0 eB0 => ?_⟩
      have sB := same_upd (o := .dT []) eB0
      have L19 := L18.same sB
      refine ⟨d, B0, _, rfl, rfl, L19.book, upd_same, _, rfl, ite2 (fun z => ?_) (fun z => ?_)⟩
      · have b0 : bk ≠ [] := fun h => by rw [h] at z; simp at z
        have r0 : r ≠ [] := fun h => b0 (by rw [h] at pm; exact pm.nil_eq.symm)
        generalize upd H18 B0 (.dT []) = H19 at L19
        refine ⟨.int n, rfl, n, rfl, by omega, by omega, fun Z eZ => ?_⟩
        refine lc_range (fun j H' => H' Z = some (.lst (((lowP n r).take j).map V.int)) ∧ Same H19 H') ⟨upd_same, same_upd eZ⟩ ?_ ?_
        · rintro k H20 hk ⟨e20, s20⟩
          have hk : k < n := hk
          have e0 : (0 : Int) + (k : Int) = (k : Int) := by omega
          rw [e0]
          have L20 := L19.same s20
          refine ⟨rfl, d, _, L20.book, trivial, fun od => ?_⟩
          generalize hHx : upd H20 d (.frz od (.dT (bk.map enc))) = Hx
          have xd : Hx d = some (.frz od (.dT (bk.map enc))) := by rw [← hHx]; exact upd_same
          refine ⟨_, rfl, d, od, rfl, .inr ⟨_, xd, fun W eW => ?_⟩⟩
          have nWd : W ≠ d := Ne.symm (ne_of_none xd eW)
          refine lc_it walk_keysT (fun i H' => H' W = some (.lst ((colP (bk.take i) k).map V.int)) ∧ Same Hx H') ⟨upd_same, same_upd eW⟩ (fun i H' _ ⟨_, s⟩ => s _ _ xd) ?_ ?_
          · rintro i v H21 H21' hi ⟨e21, s21⟩ ⟨rfl, key, vv, b, ekv, rfl, eb⟩
            obtain ⟨q1, eq1, rfl⟩ : ∃ c, bk[i]? = some c ∧ key = c.1.map Sum.inl := by
              rw [List.getElem?_map] at ekv
              cases e : bk[i]? with
              | none =>
                rw [e] at ekv
                cases ekv
              | some c =>
                rw [e] at ekv
                exact ⟨c, rfl, (congrArg Prod.fst (Option.some.inj ekv)).symm⟩
            have ebi : H21' b = some (.tup (q1.1.map V.int)) := by
              rw [← kV_ints]
              exact eb
            have la := (B.sz q1 (List.mem_of_getElem? eq1)).1
            have hix := (List.getElem?_eq_some_iff.mp eq1).1
            have ep : (q1.1.map V.int)[k]? = some (V.int (q1.1.getD k 0)) := by
              rw [List.getElem?_map, List.getElem?_eq_getElem (show k < q1.1.length by omega), List.getD_eq_getElem?_getD, List.getElem?_eq_getElem (show k < q1.1.length by omega)]
              rfl
            refine ⟨rfl, .ref b, rfl, .int k, rfl, b, _, k, _, rfl, rfl, SqT.of ebi, atI_nat ep, ?_⟩
            refine ⟨_, e21, by rw [List.length_map]; unfold colP; rw [List.length_map, List.length_take]; exact small1000 (by omega), ?_, Same.updN s21 eW⟩
            rw [upd_same]
            unfold colP
            rw [List.take_succ, eq1, List.map_append, List.map_append]
            rfl
          · rintro H21 ⟨e21, s21⟩
            rw [List.length_map, List.take_length] at e21
            refine ⟨s21 _ _ xd, ?_⟩
            have sU : Same H20 (upd H21 d (.dT (bk.map enc))) := unlock_same (by rw [hHx]; exact s21) L20.book
            have eWu : (upd H21 d (.dT (bk.map enc))) W = some (.lst ((colP bk k).map V.int)) := by
              rw [upd_ne nWd]
              exact e21
            have cp : (colP r k).Perm (colP bk k) := pm.map _
            have ne : colP r k ≠ [] := fun h => r0 (List.map_eq_nil_iff.mp h)
            refine ⟨W, colP bk k, rfl, SqL.of eWu, Nat.pos_of_ne_zero (fun h => ne (by rw [List.eq_nil_of_length_eq_zero h] at cp; exact cp.eq_nil)), fun m hm hx => ?_⟩
            have em : m = foldI min (colP r k) := by
              have h1 := (foldI_min ne).2 m (cp.mem_iff.mpr hm)
              have h2 := hx _ (cp.mem_iff.mp (foldI_min ne).1)
              omega
            have el : (lowP n r)[k]? = some m := by
              unfold lowP
              rw [List.getElem?_map, List.getElem?_range hk, em]
              rfl
            refine ⟨_, sU _ _ e20, by rw [List.length_map, List.length_take]; exact small1000 (by omega), ?_, Same.updN (s20.trans sU) eZ⟩
            rw [upd_same, List.take_succ, el, List.map_append]
            rfl
        · rintro H20 ⟨e20, s20⟩
          have ll : (lowP n r).length = n := by unfold lowP; rw [List.length_map, List.length_range]
          rw [List.take_of_length_le (by omega)] at e20
          refine ⟨Z, _, rfl, .inl ⟨SqL.of e20, fun p ep => ?_⟩⟩
          exact ⟨_, rfl, L19.same (s20.trans (same_upd ep)), .inr ⟨r0, p, rfl, upd_same⟩⟩
      · have b0 : bk = [] := by
          cases bk with
          | nil => rfl
          | cons b0 bk => exact absurd rfl z
        have r0 : r = [] := by
          rw [b0] at pm
          exact pm.eq_nil
        exact ⟨_, rfl, L19, .inl ⟨r0, rfl⟩⟩
    clear L18
    rintro σ H19 ⟨v, rfl, L19, hv⟩
    refine ⟨fun σ H' => σ = [some (.ref a), some (.ref f), some (.int n), some (.int far), some (.int off), some (.ref R), some (.ref D), some (.ref d), some (.ref x), some (.ref hD), some (.ref G), y11, some (.ref Y), some (.ref c), some (.ref X), some v, none, none, none, none] ∧ Lw C f l x d hD n r bk hs (TsL P1 P2 P3) H', ?_, ?_⟩
    · obtain ⟨dx, px, us', k1, k2, k3⟩ := id L19.sum
      refine ⟨.ref x, rfl, x, dx, _, rfl, k1, rfl, ?_⟩
      refine ⟨x, n, r, rfl, L19.sum, wr, n8, by omega, fun r0 => ?_, fun r0 p H20 s20 hp => ?_⟩
      · rcases hv with ⟨_, rfl⟩ | ⟨h, _⟩
        · refine ⟨.non, rfl, .non, .non, rfl, .inl ⟨rfl, .inr (.inr (.inr rfl))⟩, fun H20 s20 => ⟨true, rfl, iteF ?_⟩⟩
          exact ⟨rfl, L19.same s20⟩
        · exact absurd r0 h
      · rcases hv with ⟨h, _⟩ | ⟨_, p', rfl, hp'⟩
        · exact absurd h r0
        · have ll : (lowP n r).length = n := by unfold lowP; rw [List.length_map, List.length_range]
          refine ⟨.ref p', rfl, .ref p, .ref p', rfl, .inr (.inl ⟨p, p', _, _, rfl, rfl, hp, s20 _ _ hp', rfl, by rw [List.length_map, ll]; omega, fun j u1 v1 f1 f2 => ?_⟩), fun H21 s21 => ⟨true, rfl, iteF ?_⟩⟩
          · rw [f1] at f2
            cases (Option.some.inj f2)
            obtain ⟨z, _, rfl⟩ := int_at f1
            exact .inl ⟨rfl, .inl ⟨z, rfl⟩⟩
          · exact ⟨rfl, (L19.same s20).same s21⟩
    clear L19 hv
    rintro σ H20 ⟨rfl, L20⟩
    -- the worths
    refine ⟨fun σ H' => σ = [some (.ref a), some (.ref f), some (.int n), some (.int far), some (.int off), some (.ref R), some (.ref D), some (.ref d), some (.ref x), some (.ref hD), some (.ref G), y11, some (.ref Y), some (.ref c), some (.ref X), some v, none, none, none, none] ∧ Lw C f l x d hD n r bk hs (TsL P1 P2 P3) H', ?_, ?_⟩
    · refine ⟨.int far, rfl, _, _, rfl, rfl, _, rfl, ite2 (fun z => ?_) (fun z => ?_)⟩
      · have z : far < 9 := of_decide_eq_true z
        have eo := hoff.1 z
        refine ⟨.ref f, rfl, .ref x, rfl, .ref d, rfl, .int n, rfl, f, l, x, d, n, _, r, bk, _, rfl, L20.feed, L20.tb, L20.sum, L20.book, n8, cn, B, hM, lb12, fun b hb j hj => ?_, fun H21 k21 hf21 tb21 => ⟨true, rfl, iteF ?_⟩⟩
        · have la := (B.sz b hb).1
          have mj : gI b.1 j ∈ b.1 := by
            rw [gI_of (List.getElem?_eq_getElem (show j < b.1.length by omega))]
            exact List.getElem_mem _
          have := pbk b hb _ mj
          omega
        · exact ⟨rfl, L20.kp k21 hf21 tb21 nDf⟩
      · exact ⟨rfl, L20⟩
    clear L20
    rintro σ H21 ⟨rfl, L21⟩
    exact ⟨.ref x, rfl, .ref hD, rfl, .int n, rfl, x, hD, n, r, hs, rfl, L21.tb, L21.sum, wr, by omega, hb60, n8, L21.hl, lh, hb1000, fun H' => q H'⟩
end
end Bw
set_option Elab.async false
set_option linter.all false
set_option maxRecDepth 100000
set_option maxHeartbeats 2000000
/-! ### the end where several defs hold lambdas -/
namespace LamX
open PySem PySem.Spec PyProof.Rows L2
theorem walk_ofOwns {l : PySem.W.OpenLaw} {n k : Nat} {q : Program} {loose : List Str} {XP : (Str → Option Value) → Heap → Prop} {YP : World → Heap → Prop} {d : DefRec} {K : Params → PySem.W.Frag} {CX : World → CXT} {x : Str}
    (hn : l.most = some n) (hn2 : n ≤ sizeLine) (hdf : d.params.defaults = []) (hr : Room k callerA) (hY : ∀ (w : World) (h : Heap), YP w h → (K w.params).In h)
    (F : ∀ (w : World) (mg : Str → Option Value) (fa : Addr) (h : Heap), YP w h → (K w.params).In h → h.Ns mainGlobals mg → mg d.name = some (.ref fa) → (∀ (y : Str) (f : Addr), ((recsOf q).any fun e => e.name == y) = true → mg y = some (.ref f) → OwnTab (K w.params) f h) → LawAtS l w (K w.params) (CX w) k n x mg fa h)
    (hCX : ∀ (w : World) (H : Hp) (s : Shared) (e : Value) (s' : Shared), CX w [] H s (fun _ _ _ => False) e s' → False) :
    PySem.W.WalkO q loose XP YP l.row.toRowW d [] (fun f vs => PySem.call f vs) := by
  refine Att.attach_callB hn hdf fun w s₀ s₁ mg mb fa o pm cd doc a vs ns G Y ho hd hcd hmg hobj hints hlen hbits hg => ?_
  have KX := hY w _ Y
  have own : ∀ (y : Str) (f : Addr), ((recsOf q).any fun e => e.name == y) = true → mg y = some (.ref f) → OwnTab (K w.params) f s₁.heap := fun y f hrec hmy c P o1 fd1 e dd vs1 sl k1 k2 k3 k4 k5 => by
    obtain ⟨dL, hm, hn1⟩ := List.any_eq_true.mp hrec
    have hn2 : dL.name = y := beq_iff_eq.mp hn1
    obtain ⟨a', o', fd', c', P', h1, h2, h3, h4, h5, h6⟩ := G.T.tab dL hm
    rw [hn2, hmy] at h1
    cases h1
    have g1 := KX _ _ k1
    rw [g1] at h2
    cases h2
    rw [k2] at h3
    cases h3
    rw [k3] at h4
    cases h4
    obtain ⟨⟨oc, vc, e1, _, e3, e4⟩, hP⟩ := h6
    have g2 := KX _ _ k4
    rw [g2] at e1
    cases e1
    cases e3
    rw [k5] at e4
    cases e4
    exact hP
  obtain ⟨fd, cs, sp, hT, nT, C, hb, hsp, hF⟩ := F w mg fa _ Y KX G.T.g hmg own
  exact law_callTs KX G.T.g G.T.b G.T.builtins G.T.nolimit hg hT nT C G.T.bmain hobj hints (Nat.le_trans hlen hn2) hr hF hb (fun H hH hS => hsp H a ns hlen hbits hH hS) fun H e s' => hCX w H s₁ e s'
end LamX
set_option Elab.async false
set_option linter.all false
set_option maxRecDepth 100000
set_option maxHeartbeats 4000000
namespace Bw
open PySem PySem.Spec PyProof.Rows L2
theorem all_mk {l : PySem.W.OpenLaw} {w : World} {K : PySem.W.Frag} {h : Heap} {mg : Str → Option Value} {fa : Addr} (X : K.In h) (G : h.Ns mainGlobals mg) (hfa : mg "law" = some (.ref fa)) (own : LamX.OwnTab K fa h) (own_law_worth_so : ∀ f, mg "_law_worth_so" = some (.ref f) → LamX.OwnTab K f h) (own_law_lengths_so : ∀ f, mg "_law_lengths_so" = some (.ref f) → LamX.OwnTab K f h)
    {C_BudError : Addr}
    {C_BadSum : Addr}
    {C_NoPart : Addr}
    {C_NoPlace : Addr}
    {C_Lacking : Addr}
    {C_NothingLeft : Addr}
    {C_Sum : Addr}
    {od_common an_common : Option Addr} {sl_common : Array (Option Value)} {oc_common kV_common dc_common pm_common cd_common ct_common : Value} {f_common : Addr}
    {od_power_of an_power_of : Option Addr} {sl_power_of : Array (Option Value)} {oc_power_of kV_power_of dc_power_of pm_power_of cd_power_of ct_power_of : Value} {f_power_of : Addr}
    {od_lowest_terms an_lowest_terms : Option Addr} {sl_lowest_terms : Array (Option Value)} {oc_lowest_terms kV_lowest_terms dc_lowest_terms pm_lowest_terms cd_lowest_terms ct_lowest_terms : Value} {f_lowest_terms : Addr}
    {od_gathered an_gathered : Option Addr} {sl_gathered : Array (Option Value)} {oc_gathered kV_gathered dc_gathered pm_gathered cd_gathered ct_gathered : Value} {f_gathered : Addr}
    {od_lowest_powers an_lowest_powers : Option Addr} {sl_lowest_powers : Array (Option Value)} {oc_lowest_powers kV_lowest_powers dc_lowest_powers pm_lowest_powers cd_lowest_powers ct_lowest_powers : Value} {f_lowest_powers : Addr}
    {od_highest_powers an_highest_powers : Option Addr} {sl_highest_powers : Array (Option Value)} {oc_highest_powers kV_highest_powers dc_highest_powers pm_highest_powers cd_highest_powers ct_highest_powers : Value} {f_highest_powers : Addr}
    {od_weighed an_weighed : Option Addr} {sl_weighed : Array (Option Value)} {oc_weighed kV_weighed dc_weighed pm_weighed cd_weighed ct_weighed : Value} {f_weighed : Addr}
    {od_worth_at an_worth_at : Option Addr} {sl_worth_at : Array (Option Value)} {oc_worth_at kV_worth_at dc_worth_at pm_worth_at cd_worth_at ct_worth_at : Value} {f_worth_at : Addr}
    {od_check_width an_check_width : Option Addr} {sl_check_width : Array (Option Value)} {oc_check_width kV_check_width dc_check_width pm_check_width cd_check_width ct_check_width : Value} {f_check_width : Addr}
    {od_law_feed an_law_feed : Option Addr} {sl_law_feed : Array (Option Value)} {oc_law_feed kV_law_feed dc_law_feed pm_law_feed cd_law_feed ct_law_feed : Value} {f_law_feed : Addr}
    {od_law_draw an_law_draw : Option Addr} {sl_law_draw : Array (Option Value)} {oc_law_draw kV_law_draw dc_law_draw pm_law_draw cd_law_draw ct_law_draw : Value} {f_law_draw : Addr}
    {od_law_pick an_law_pick : Option Addr} {sl_law_pick : Array (Option Value)} {oc_law_pick kV_law_pick dc_law_pick pm_law_pick cd_law_pick ct_law_pick : Value} {f_law_pick : Addr}
    {od_law_same an_law_same : Option Addr} {sl_law_same : Array (Option Value)} {oc_law_same kV_law_same dc_law_same pm_law_same cd_law_same ct_law_same : Value} {f_law_same : Addr}
    {od_law_word an_law_word : Option Addr} {sl_law_word : Array (Option Value)} {oc_law_word kV_law_word dc_law_word pm_law_word cd_law_word ct_law_word : Value} {f_law_word : Addr}
    {od_law_gcd an_law_gcd : Option Addr} {sl_law_gcd : Array (Option Value)} {oc_law_gcd kV_law_gcd dc_law_gcd pm_law_gcd cd_law_gcd ct_law_gcd : Value} {f_law_gcd : Addr}
    {od_law_low an_law_low : Option Addr} {sl_law_low : Array (Option Value)} {oc_law_low kV_law_low dc_law_low pm_law_low cd_law_low ct_law_low : Value} {f_law_low : Addr}
    {od_law_add an_law_add : Option Addr} {sl_law_add : Array (Option Value)} {oc_law_add kV_law_add dc_law_add pm_law_add cd_law_add ct_law_add : Value} {f_law_add : Addr}
    {od_law_mul an_law_mul : Option Addr} {sl_law_mul : Array (Option Value)} {oc_law_mul kV_law_mul dc_law_mul pm_law_mul cd_law_mul ct_law_mul : Value} {f_law_mul : Addr}
    {od_law_pow an_law_pow : Option Addr} {sl_law_pow : Array (Option Value)} {oc_law_pow kV_law_pow dc_law_pow pm_law_pow cd_law_pow ct_law_pow : Value} {f_law_pow : Addr}
    {od_law_great_number an_law_great_number : Option Addr} {sl_law_great_number : Array (Option Value)} {oc_law_great_number kV_law_great_number dc_law_great_number pm_law_great_number cd_law_great_number ct_law_great_number : Value} {f_law_great_number : Addr}
    {od_law_powers an_law_powers : Option Addr} {sl_law_powers : Array (Option Value)} {oc_law_powers kV_law_powers dc_law_powers pm_law_powers cd_law_powers ct_law_powers : Value} {f_law_powers : Addr}
    {od_law_terms an_law_terms : Option Addr} {sl_law_terms : Array (Option Value)} {oc_law_terms kV_law_terms dc_law_terms pm_law_terms cd_law_terms ct_law_terms : Value} {f_law_terms : Addr}
    {od_law_book an_law_book : Option Addr} {sl_law_book : Array (Option Value)} {oc_law_book kV_law_book dc_law_book pm_law_book cd_law_book ct_law_book : Value} {f_law_book : Addr}
    {od_law_worth an_law_worth : Option Addr} {sl_law_worth : Array (Option Value)} {oc_law_worth kV_law_worth dc_law_worth pm_law_worth cd_law_worth ct_law_worth : Value} {f_law_worth : Addr}
    {od_law_worth_so an_law_worth_so : Option Addr} {sl_law_worth_so : Array (Option Value)} {oc_law_worth_so kV_law_worth_so dc_law_worth_so pm_law_worth_so ct_law_worth_so : Value} {f_law_worth_so : Addr}
    {cc_law_worth_so Pt_law_worth_so : Addr} {oc2_law_worth_so : Value} {od2_law_worth_so : Option Addr} {vs_law_worth_so : Array Value} {sl2_law_worth_so : Array (Option Value)}
    {od_law_lengths_so an_law_lengths_so : Option Addr} {sl_law_lengths_so : Array (Option Value)} {oc_law_lengths_so kV_law_lengths_so dc_law_lengths_so pm_law_lengths_so ct_law_lengths_so : Value} {f_law_lengths_so : Addr}
    {cc_law_lengths_so Pt_law_lengths_so : Addr} {oc2_law_lengths_so : Value} {od2_law_lengths_so : Option Addr} {vs_law_lengths_so : Array Value} {sl2_law_lengths_so : Array (Option Value)}
    {od_law an_law : Option Addr} {sl_law : Array (Option Value)} {oc_law kV_law dc_law pm_law ct_law : Value} {f_law : Addr}
    {cc_law Pt_law : Addr} {oc2_law : Value} {od2_law : Option Addr} {vs_law : Array Value} {sl2_law : Array (Option Value)}
    {od_bud_init an_bud_init : Option Addr} {sl_bud_init : Array (Option Value)} {oc_bud_init kV_bud_init dc_bud_init pm_bud_init cd_bud_init ct_bud_init : Value} {f_bud_init : Addr}
    {od_bad_init an_bad_init : Option Addr} {sl_bad_init : Array (Option Value)} {oc_bad_init kV_bad_init dc_bad_init pm_bad_init cd_bad_init ct_bad_init : Value} {f_bad_init : Addr}
    {od_part_init an_part_init : Option Addr} {sl_part_init : Array (Option Value)} {oc_part_init kV_part_init dc_part_init pm_part_init cd_part_init ct_part_init : Value} {f_part_init : Addr}
    {od_m_worth an_m_worth : Option Addr} {sl_m_worth : Array (Option Value)} {oc_m_worth kV_m_worth dc_m_worth pm_m_worth cd_m_worth ct_m_worth : Value} {f_m_worth : Addr}
    {od_m_least an_m_least : Option Addr} {sl_m_least : Array (Option Value)} {oc_m_least kV_m_least dc_m_least pm_m_least cd_m_least ct_m_least : Value} {f_m_least : Addr}
    {od_m_greatest an_m_greatest : Option Addr} {sl_m_greatest : Array (Option Value)} {oc_m_greatest kV_m_greatest dc_m_greatest pm_m_greatest cd_m_greatest ct_m_greatest : Value} {f_m_greatest : Addr}
    {od_m_lowest an_m_lowest : Option Addr} {sl_m_lowest : Array (Option Value)} {oc_m_lowest kV_m_lowest dc_m_lowest pm_m_lowest cd_m_lowest ct_m_lowest : Value} {f_m_lowest : Addr}
    {t_WIDE : Tok}
    {nm_BadSum q_BadSum : Str} {N_BadSum : Addr} {bs_BadSum : List Value} {sn_BadSum : List Str} {sub_BadSum : List Value} {ab_BadSum : Bool} {col_BadSum : Option Bool} {dd_BadSum : Option Addr} {m0_BadSum m1_BadSum m2_BadSum m3_BadSum m5_BadSum : Option Value}
    {nm_NoPart q_NoPart : Str} {N_NoPart : Addr} {bs_NoPart : List Value} {sn_NoPart : List Str} {sub_NoPart : List Value} {ab_NoPart : Bool} {col_NoPart : Option Bool} {dd_NoPart : Option Addr} {m0_NoPart m1_NoPart m2_NoPart m3_NoPart m5_NoPart : Option Value}
    {od_init an_init odT : Option Addr} {sl_init slT : Array (Option Value)} {oc_init kV_init dc_init pm_init cd_init ct_init ocT : Value} {f_init T_init e_init : Addr} {nT nE : Nat} {odE : Option Addr} {slE : Array (Option Value)}
    (a_BudError : PySem.W.nsIn K mainGlobals "BudError" = some (some (.ref C_BudError)))
    (a_BadSum : PySem.W.nsIn K mainGlobals "BadSum" = some (some (.ref C_BadSum)))
    (a_NoPart : PySem.W.nsIn K mainGlobals "NoPart" = some (some (.ref C_NoPart)))
    (a_NoPlace : PySem.W.nsIn K mainGlobals "NoPlace" = some (some (.ref C_NoPlace)))
    (a_Lacking : PySem.W.nsIn K mainGlobals "Lacking" = some (some (.ref C_Lacking)))
    (a_NothingLeft : PySem.W.nsIn K mainGlobals "NothingLeft" = some (some (.ref C_NothingLeft)))
    (a_Sum : PySem.W.nsIn K mainGlobals "Sum" = some (some (.ref C_Sum)))
    (a_common : PySem.W.nsIn K mainGlobals "common" = some (some (.ref f_common)))
    (l_common : K.lookup f_common = some ⟨oc_common, od_common, .func (PySem.W.fnOf "common" "common" (defArgs s_common) (defBody s_common) (defScope s_common) .none kV_common dc_common pm_common an_common cd_common ct_common), sl_common⟩)
    (c_common : PySem.W.codeIn K cd_common "common" = true)
    (k_common : PySem.W.keepIn K (.ref f_common) = true)
    (a_power_of : PySem.W.nsIn K mainGlobals "power_of" = some (some (.ref f_power_of)))
    (l_power_of : K.lookup f_power_of = some ⟨oc_power_of, od_power_of, .func (PySem.W.fnOf "power_of" "power_of" (defArgs s_power_of) (defBody s_power_of) (defScope s_power_of) .none kV_power_of dc_power_of pm_power_of an_power_of cd_power_of ct_power_of), sl_power_of⟩)
    (c_power_of : PySem.W.codeIn K cd_power_of "power_of" = true)
    (k_power_of : PySem.W.keepIn K (.ref f_power_of) = true)
    (a_lowest_terms : PySem.W.nsIn K mainGlobals "lowest_terms" = some (some (.ref f_lowest_terms)))
    (l_lowest_terms : K.lookup f_lowest_terms = some ⟨oc_lowest_terms, od_lowest_terms, .func (PySem.W.fnOf "lowest_terms" "lowest_terms" (defArgs s_lowest_terms) (defBody s_lowest_terms) (defScope s_lowest_terms) .none kV_lowest_terms dc_lowest_terms pm_lowest_terms an_lowest_terms cd_lowest_terms ct_lowest_terms), sl_lowest_terms⟩)
    (c_lowest_terms : PySem.W.codeIn K cd_lowest_terms "lowest_terms" = true)
    (k_lowest_terms : PySem.W.keepIn K (.ref f_lowest_terms) = true)
    (a_gathered : PySem.W.nsIn K mainGlobals "gathered" = some (some (.ref f_gathered)))
    (l_gathered : K.lookup f_gathered = some ⟨oc_gathered, od_gathered, .func (PySem.W.fnOf "gathered" "gathered" (defArgs s_gathered) (defBody s_gathered) (defScope s_gathered) .none kV_gathered dc_gathered pm_gathered an_gathered cd_gathered ct_gathered), sl_gathered⟩)
    (c_gathered : PySem.W.codeIn K cd_gathered "gathered" = true)
    (k_gathered : PySem.W.keepIn K (.ref f_gathered) = true)
    (a_lowest_powers : PySem.W.nsIn K mainGlobals "lowest_powers" = some (some (.ref f_lowest_powers)))
    (l_lowest_powers : K.lookup f_lowest_powers = some ⟨oc_lowest_powers, od_lowest_powers, .func (PySem.W.fnOf "lowest_powers" "lowest_powers" (defArgs s_lowest_powers) (defBody s_lowest_powers) (defScope s_lowest_powers) .none kV_lowest_powers dc_lowest_powers pm_lowest_powers an_lowest_powers cd_lowest_powers ct_lowest_powers), sl_lowest_powers⟩)
    (c_lowest_powers : PySem.W.codeIn K cd_lowest_powers "lowest_powers" = true)
    (k_lowest_powers : PySem.W.keepIn K (.ref f_lowest_powers) = true)
    (a_highest_powers : PySem.W.nsIn K mainGlobals "highest_powers" = some (some (.ref f_highest_powers)))
    (l_highest_powers : K.lookup f_highest_powers = some ⟨oc_highest_powers, od_highest_powers, .func (PySem.W.fnOf "highest_powers" "highest_powers" (defArgs s_highest_powers) (defBody s_highest_powers) (defScope s_highest_powers) .none kV_highest_powers dc_highest_powers pm_highest_powers an_highest_powers cd_highest_powers ct_highest_powers), sl_highest_powers⟩)
    (c_highest_powers : PySem.W.codeIn K cd_highest_powers "highest_powers" = true)
    (k_highest_powers : PySem.W.keepIn K (.ref f_highest_powers) = true)
    (a_weighed : PySem.W.nsIn K mainGlobals "weighed" = some (some (.ref f_weighed)))
    (l_weighed : K.lookup f_weighed = some ⟨oc_weighed, od_weighed, .func (PySem.W.fnOf "weighed" "weighed" (defArgs s_weighed) (defBody s_weighed) (defScope s_weighed) .none kV_weighed dc_weighed pm_weighed an_weighed cd_weighed ct_weighed), sl_weighed⟩)
    (c_weighed : PySem.W.codeIn K cd_weighed "weighed" = true)
    (k_weighed : PySem.W.keepIn K (.ref f_weighed) = true)
    (a_worth_at : PySem.W.nsIn K mainGlobals "worth_at" = some (some (.ref f_worth_at)))
    (l_worth_at : K.lookup f_worth_at = some ⟨oc_worth_at, od_worth_at, .func (PySem.W.fnOf "worth_at" "worth_at" (defArgs s_worth_at) (defBody s_worth_at) (defScope s_worth_at) .none kV_worth_at dc_worth_at pm_worth_at an_worth_at cd_worth_at ct_worth_at), sl_worth_at⟩)
    (c_worth_at : PySem.W.codeIn K cd_worth_at "worth_at" = true)
    (k_worth_at : PySem.W.keepIn K (.ref f_worth_at) = true)
    (a_check_width : PySem.W.nsIn K mainGlobals "check_width" = some (some (.ref f_check_width)))
    (l_check_width : K.lookup f_check_width = some ⟨oc_check_width, od_check_width, .func (PySem.W.fnOf "check_width" "check_width" (defArgs s_check_width) (defBody s_check_width) (defScope s_check_width) .none kV_check_width dc_check_width pm_check_width an_check_width cd_check_width ct_check_width), sl_check_width⟩)
    (c_check_width : PySem.W.codeIn K cd_check_width "check_width" = true)
    (k_check_width : PySem.W.keepIn K (.ref f_check_width) = true)
    (a_law_feed : PySem.W.nsIn K mainGlobals "_law_feed" = some (some (.ref f_law_feed)))
    (l_law_feed : K.lookup f_law_feed = some ⟨oc_law_feed, od_law_feed, .func (PySem.W.fnOf "_law_feed" "_law_feed" (defArgs s_law_feed) (defBody s_law_feed) (defScope s_law_feed) .none kV_law_feed dc_law_feed pm_law_feed an_law_feed cd_law_feed ct_law_feed), sl_law_feed⟩)
    (c_law_feed : PySem.W.codeIn K cd_law_feed "_law_feed" = true)
    (k_law_feed : PySem.W.keepIn K (.ref f_law_feed) = true)
    (a_law_draw : PySem.W.nsIn K mainGlobals "_law_draw" = some (some (.ref f_law_draw)))
    (l_law_draw : K.lookup f_law_draw = some ⟨oc_law_draw, od_law_draw, .func (PySem.W.fnOf "_law_draw" "_law_draw" (defArgs s_law_draw) (defBody s_law_draw) (defScope s_law_draw) .none kV_law_draw dc_law_draw pm_law_draw an_law_draw cd_law_draw ct_law_draw), sl_law_draw⟩)
    (c_law_draw : PySem.W.codeIn K cd_law_draw "_law_draw" = true)
    (k_law_draw : PySem.W.keepIn K (.ref f_law_draw) = true)
    (a_law_pick : PySem.W.nsIn K mainGlobals "_law_pick" = some (some (.ref f_law_pick)))
    (l_law_pick : K.lookup f_law_pick = some ⟨oc_law_pick, od_law_pick, .func (PySem.W.fnOf "_law_pick" "_law_pick" (defArgs s_law_pick) (defBody s_law_pick) (defScope s_law_pick) .none kV_law_pick dc_law_pick pm_law_pick an_law_pick cd_law_pick ct_law_pick), sl_law_pick⟩)
    (c_law_pick : PySem.W.codeIn K cd_law_pick "_law_pick" = true)
    (k_law_pick : PySem.W.keepIn K (.ref f_law_pick) = true)
    (a_law_same : PySem.W.nsIn K mainGlobals "_law_same" = some (some (.ref f_law_same)))
    (l_law_same : K.lookup f_law_same = some ⟨oc_law_same, od_law_same, .func (PySem.W.fnOf "_law_same" "_law_same" (defArgs s_law_same) (defBody s_law_same) (defScope s_law_same) .none kV_law_same dc_law_same pm_law_same an_law_same cd_law_same ct_law_same), sl_law_same⟩)
    (c_law_same : PySem.W.codeIn K cd_law_same "_law_same" = true)
    (k_law_same : PySem.W.keepIn K (.ref f_law_same) = true)
    (a_law_word : PySem.W.nsIn K mainGlobals "_law_word" = some (some (.ref f_law_word)))
    (l_law_word : K.lookup f_law_word = some ⟨oc_law_word, od_law_word, .func (PySem.W.fnOf "_law_word" "_law_word" (defArgs s_law_word) (defBody s_law_word) (defScope s_law_word) .none kV_law_word dc_law_word pm_law_word an_law_word cd_law_word ct_law_word), sl_law_word⟩)
    (c_law_word : PySem.W.codeIn K cd_law_word "_law_word" = true)
    (k_law_word : PySem.W.keepIn K (.ref f_law_word) = true)
    (a_law_gcd : PySem.W.nsIn K mainGlobals "_law_gcd" = some (some (.ref f_law_gcd)))
    (l_law_gcd : K.lookup f_law_gcd = some ⟨oc_law_gcd, od_law_gcd, .func (PySem.W.fnOf "_law_gcd" "_law_gcd" (defArgs s_law_gcd) (defBody s_law_gcd) (defScope s_law_gcd) .none kV_law_gcd dc_law_gcd pm_law_gcd an_law_gcd cd_law_gcd ct_law_gcd), sl_law_gcd⟩)
    (c_law_gcd : PySem.W.codeIn K cd_law_gcd "_law_gcd" = true)
    (k_law_gcd : PySem.W.keepIn K (.ref f_law_gcd) = true)
    (a_law_low : PySem.W.nsIn K mainGlobals "_law_low" = some (some (.ref f_law_low)))
    (l_law_low : K.lookup f_law_low = some ⟨oc_law_low, od_law_low, .func (PySem.W.fnOf "_law_low" "_law_low" (defArgs s_law_low) (defBody s_law_low) (defScope s_law_low) .none kV_law_low dc_law_low pm_law_low an_law_low cd_law_low ct_law_low), sl_law_low⟩)
    (c_law_low : PySem.W.codeIn K cd_law_low "_law_low" = true)
    (k_law_low : PySem.W.keepIn K (.ref f_law_low) = true)
    (a_law_add : PySem.W.nsIn K mainGlobals "_law_add" = some (some (.ref f_law_add)))
    (l_law_add : K.lookup f_law_add = some ⟨oc_law_add, od_law_add, .func (PySem.W.fnOf "_law_add" "_law_add" (defArgs s_law_add) (defBody s_law_add) (defScope s_law_add) .none kV_law_add dc_law_add pm_law_add an_law_add cd_law_add ct_law_add), sl_law_add⟩)
    (c_law_add : PySem.W.codeIn K cd_law_add "_law_add" = true)
    (k_law_add : PySem.W.keepIn K (.ref f_law_add) = true)
    (a_law_mul : PySem.W.nsIn K mainGlobals "_law_mul" = some (some (.ref f_law_mul)))
    (l_law_mul : K.lookup f_law_mul = some ⟨oc_law_mul, od_law_mul, .func (PySem.W.fnOf "_law_mul" "_law_mul" (defArgs s_law_mul) (defBody s_law_mul) (defScope s_law_mul) .none kV_law_mul dc_law_mul pm_law_mul an_law_mul cd_law_mul ct_law_mul), sl_law_mul⟩)
    (c_law_mul : PySem.W.codeIn K cd_law_mul "_law_mul" = true)
    (k_law_mul : PySem.W.keepIn K (.ref f_law_mul) = true)
    (a_law_pow : PySem.W.nsIn K mainGlobals "_law_pow" = some (some (.ref f_law_pow)))
    (l_law_pow : K.lookup f_law_pow = some ⟨oc_law_pow, od_law_pow, .func (PySem.W.fnOf "_law_pow" "_law_pow" (defArgs s_law_pow) (defBody s_law_pow) (defScope s_law_pow) .none kV_law_pow dc_law_pow pm_law_pow an_law_pow cd_law_pow ct_law_pow), sl_law_pow⟩)
    (c_law_pow : PySem.W.codeIn K cd_law_pow "_law_pow" = true)
    (k_law_pow : PySem.W.keepIn K (.ref f_law_pow) = true)
    (a_law_great_number : PySem.W.nsIn K mainGlobals "_law_great_number" = some (some (.ref f_law_great_number)))
    (l_law_great_number : K.lookup f_law_great_number = some ⟨oc_law_great_number, od_law_great_number, .func (PySem.W.fnOf "_law_great_number" "_law_great_number" (defArgs s_law_great_number) (defBody s_law_great_number) (defScope s_law_great_number) .none kV_law_great_number dc_law_great_number pm_law_great_number an_law_great_number cd_law_great_number ct_law_great_number), sl_law_great_number⟩)
    (c_law_great_number : PySem.W.codeIn K cd_law_great_number "_law_great_number" = true)
    (k_law_great_number : PySem.W.keepIn K (.ref f_law_great_number) = true)
    (a_law_powers : PySem.W.nsIn K mainGlobals "_law_powers" = some (some (.ref f_law_powers)))
    (l_law_powers : K.lookup f_law_powers = some ⟨oc_law_powers, od_law_powers, .func (PySem.W.fnOf "_law_powers" "_law_powers" (defArgs s_law_powers) (defBody s_law_powers) (defScope s_law_powers) .none kV_law_powers dc_law_powers pm_law_powers an_law_powers cd_law_powers ct_law_powers), sl_law_powers⟩)
    (c_law_powers : PySem.W.codeIn K cd_law_powers "_law_powers" = true)
    (k_law_powers : PySem.W.keepIn K (.ref f_law_powers) = true)
    (a_law_terms : PySem.W.nsIn K mainGlobals "_law_terms" = some (some (.ref f_law_terms)))
    (l_law_terms : K.lookup f_law_terms = some ⟨oc_law_terms, od_law_terms, .func (PySem.W.fnOf "_law_terms" "_law_terms" (defArgs s_law_terms) (defBody s_law_terms) (defScope s_law_terms) .none kV_law_terms dc_law_terms pm_law_terms an_law_terms cd_law_terms ct_law_terms), sl_law_terms⟩)
    (c_law_terms : PySem.W.codeIn K cd_law_terms "_law_terms" = true)
    (k_law_terms : PySem.W.keepIn K (.ref f_law_terms) = true)
    (a_law_book : PySem.W.nsIn K mainGlobals "_law_book" = some (some (.ref f_law_book)))
    (l_law_book : K.lookup f_law_book = some ⟨oc_law_book, od_law_book, .func (PySem.W.fnOf "_law_book" "_law_book" (defArgs s_law_book) (defBody s_law_book) (defScope s_law_book) .none kV_law_book dc_law_book pm_law_book an_law_book cd_law_book ct_law_book), sl_law_book⟩)
    (c_law_book : PySem.W.codeIn K cd_law_book "_law_book" = true)
    (k_law_book : PySem.W.keepIn K (.ref f_law_book) = true)
    (a_law_worth : PySem.W.nsIn K mainGlobals "_law_worth" = some (some (.ref f_law_worth)))
    (l_law_worth : K.lookup f_law_worth = some ⟨oc_law_worth, od_law_worth, .func (PySem.W.fnOf "_law_worth" "_law_worth" (defArgs s_law_worth) (defBody s_law_worth) (defScope s_law_worth) .none kV_law_worth dc_law_worth pm_law_worth an_law_worth cd_law_worth ct_law_worth), sl_law_worth⟩)
    (c_law_worth : PySem.W.codeIn K cd_law_worth "_law_worth" = true)
    (k_law_worth : PySem.W.keepIn K (.ref f_law_worth) = true)
    (a_law_worth_so : PySem.W.nsIn K mainGlobals "_law_worth_so" = some (some (.ref f_law_worth_so)))
    (l_law_worth_so : K.lookup f_law_worth_so = some ⟨oc_law_worth_so, od_law_worth_so, .func (PySem.W.fnOf "_law_worth_so" "_law_worth_so" (defArgs s_law_worth_so) (defBody s_law_worth_so) (defScope s_law_worth_so) .none kV_law_worth_so dc_law_worth_so pm_law_worth_so an_law_worth_so (.ref cc_law_worth_so) ct_law_worth_so), sl_law_worth_so⟩)
    (c_law_worth_so : PySem.W.codeIn K (.ref cc_law_worth_so) "_law_worth_so" = true)
    (k_law_worth_so : PySem.W.keepIn K (.ref f_law_worth_so) = true)
    (a_law_lengths_so : PySem.W.nsIn K mainGlobals "_law_lengths_so" = some (some (.ref f_law_lengths_so)))
    (l_law_lengths_so : K.lookup f_law_lengths_so = some ⟨oc_law_lengths_so, od_law_lengths_so, .func (PySem.W.fnOf "_law_lengths_so" "_law_lengths_so" (defArgs s_law_lengths_so) (defBody s_law_lengths_so) (defScope s_law_lengths_so) .none kV_law_lengths_so dc_law_lengths_so pm_law_lengths_so an_law_lengths_so (.ref cc_law_lengths_so) ct_law_lengths_so), sl_law_lengths_so⟩)
    (c_law_lengths_so : PySem.W.codeIn K (.ref cc_law_lengths_so) "_law_lengths_so" = true)
    (k_law_lengths_so : PySem.W.keepIn K (.ref f_law_lengths_so) = true)
    (a_law : PySem.W.nsIn K mainGlobals "law" = some (some (.ref f_law)))
    (l_law : K.lookup f_law = some ⟨oc_law, od_law, .func (PySem.W.fnOf "law" "law" (defArgs s_law) (defBody s_law) (defScope s_law) .none kV_law dc_law pm_law an_law (.ref cc_law) ct_law), sl_law⟩)
    (c_law : PySem.W.codeIn K (.ref cc_law) "law" = true)
    (k_law : PySem.W.keepIn K (.ref f_law) = true)
    (a_bud_init : PySem.W.findIn K (.ref C_BudError) "__init__" = some (some (.ref f_bud_init)))
    (l_bud_init : K.lookup f_bud_init = some ⟨oc_bud_init, od_bud_init, .func (PySem.W.fnOf "__init__" "BudError.__init__" (defArgs s_bud_init) (defBody s_bud_init) (defScope s_bud_init) .none kV_bud_init dc_bud_init pm_bud_init an_bud_init cd_bud_init ct_bud_init), sl_bud_init⟩)
    (c_bud_init : PySem.W.codeIn K cd_bud_init "BudError.__init__" = true)
    (k_bud_init : PySem.W.keepIn K (.ref f_bud_init) = true)
    (a_bad_init : PySem.W.findIn K (.ref C_BadSum) "__init__" = some (some (.ref f_bad_init)))
    (l_bad_init : K.lookup f_bad_init = some ⟨oc_bad_init, od_bad_init, .func (PySem.W.fnOf "__init__" "BadSum.__init__" (defArgs s_bad_init) (defBody s_bad_init) (defScope s_bad_init) .none kV_bad_init dc_bad_init pm_bad_init an_bad_init cd_bad_init ct_bad_init), sl_bad_init⟩)
    (c_bad_init : PySem.W.codeIn K cd_bad_init "BadSum.__init__" = true)
    (k_bad_init : PySem.W.keepIn K (.ref f_bad_init) = true)
    (a_part_init : PySem.W.findIn K (.ref C_NoPart) "__init__" = some (some (.ref f_part_init)))
    (l_part_init : K.lookup f_part_init = some ⟨oc_part_init, od_part_init, .func (PySem.W.fnOf "__init__" "NoPart.__init__" (defArgs s_part_init) (defBody s_part_init) (defScope s_part_init) .none kV_part_init dc_part_init pm_part_init an_part_init cd_part_init ct_part_init), sl_part_init⟩)
    (c_part_init : PySem.W.codeIn K cd_part_init "NoPart.__init__" = true)
    (k_part_init : PySem.W.keepIn K (.ref f_part_init) = true)
    (a_m_worth : PySem.W.findIn K (.ref C_Sum) "worth" = some (some (.ref f_m_worth)))
    (l_m_worth : K.lookup f_m_worth = some ⟨oc_m_worth, od_m_worth, .func (PySem.W.fnOf "worth" "Sum.worth" (defArgs s_worth) (defBody s_worth) (defScope s_worth) .none kV_m_worth dc_m_worth pm_m_worth an_m_worth cd_m_worth ct_m_worth), sl_m_worth⟩)
    (c_m_worth : PySem.W.codeIn K cd_m_worth "Sum.worth" = true)
    (k_m_worth : PySem.W.keepIn K (.ref f_m_worth) = true)
    (a_m_least : PySem.W.findIn K (.ref C_Sum) "least" = some (some (.ref f_m_least)))
    (l_m_least : K.lookup f_m_least = some ⟨oc_m_least, od_m_least, .func (PySem.W.fnOf "least" "Sum.least" (defArgs s_least) (defBody s_least) (defScope s_least) .none kV_m_least dc_m_least pm_m_least an_m_least cd_m_least ct_m_least), sl_m_least⟩)
    (c_m_least : PySem.W.codeIn K cd_m_least "Sum.least" = true)
    (k_m_least : PySem.W.keepIn K (.ref f_m_least) = true)
    (a_m_greatest : PySem.W.findIn K (.ref C_Sum) "greatest" = some (some (.ref f_m_greatest)))
    (l_m_greatest : K.lookup f_m_greatest = some ⟨oc_m_greatest, od_m_greatest, .func (PySem.W.fnOf "greatest" "Sum.greatest" (defArgs s_greatest) (defBody s_greatest) (defScope s_greatest) .none kV_m_greatest dc_m_greatest pm_m_greatest an_m_greatest cd_m_greatest ct_m_greatest), sl_m_greatest⟩)
    (c_m_greatest : PySem.W.codeIn K cd_m_greatest "Sum.greatest" = true)
    (k_m_greatest : PySem.W.keepIn K (.ref f_m_greatest) = true)
    (a_m_lowest : PySem.W.findIn K (.ref C_Sum) "lowest" = some (some (.ref f_m_lowest)))
    (l_m_lowest : K.lookup f_m_lowest = some ⟨oc_m_lowest, od_m_lowest, .func (PySem.W.fnOf "lowest" "Sum.lowest" (defArgs s_lowest) (defBody s_lowest) (defScope s_lowest) .none kV_m_lowest dc_m_lowest pm_m_lowest an_m_lowest cd_m_lowest ct_m_lowest), sl_m_lowest⟩)
    (c_m_lowest : PySem.W.codeIn K cd_m_lowest "Sum.lowest" = true)
    (k_m_lowest : PySem.W.keepIn K (.ref f_m_lowest) = true)
    (z_len : PySem.W.nsIn K mainGlobals "len" = some none)
    (z_range : PySem.W.nsIn K mainGlobals "range" = some none)
    (z_zip : PySem.W.nsIn K mainGlobals "zip" = some none)
    (z_all : PySem.W.nsIn K mainGlobals "all" = some none)
    (z_any : PySem.W.nsIn K mainGlobals "any" = some none)
    (z_sorted : PySem.W.nsIn K mainGlobals "sorted" = some none)
    (z_isinstance : PySem.W.nsIn K mainGlobals "isinstance" = some none)
    (z_bool : PySem.W.nsIn K mainGlobals "bool" = some none)
    (z_tuple : PySem.W.nsIn K mainGlobals "tuple" = some none)
    (z_list : PySem.W.nsIn K mainGlobals "list" = some none)
    (z_dict : PySem.W.nsIn K mainGlobals "dict" = some none)
    (z_str : PySem.W.nsIn K mainGlobals "str" = some none)
    (z_min : PySem.W.nsIn K mainGlobals "min" = some none)
    (z_max : PySem.W.nsIn K mainGlobals "max" = some none)
    (z_sum : PySem.W.nsIn K mainGlobals "sum" = some none)
    (z_int : PySem.W.nsIn K mainGlobals "int" = some none)
    (z_abs : PySem.W.nsIn K mainGlobals "abs" = some none)
    (z_ZeroDivisionError : PySem.W.nsIn K mainGlobals "ZeroDivisionError" = some none)
    (z_ValueError : PySem.W.nsIn K mainGlobals "ValueError" = some none)
    (i_WIDE : PySem.W.nsIn K mainGlobals "WIDE" = some (some (.int 400 t_WIDE)))
    (sg : PySem.W.specialIn K (.ref C_BudError) "__getattribute__" = some (some (.builtin "type.__getattribute__")))
    (tyB : PySem.W.typeIn K (.ref C_BudError) = some (.type "type"))
    (rdB : PySem.W.readsIn K C_BudError (.type "type") = true)
    (fcB : PySem.W.findCls K (.ref C_BudError) (.type "type") "__init__" = some (.val (.ref f_bud_init)))
    (vv : PySem.W.findCls K (.type "ValueError") (.type "type") "__init__" = some (.val (.builtin "ValueError.__init__")))
    (eB : PySem.W.subIn K (.ref C_BudError) (.type "BaseException") = some true)
    (hB : PySem.W.hasDictIn K C_BudError = true)
    (eC_NoPart : PySem.W.subIn K (.ref C_NoPart) (.type "BaseException") = some true)
    (tC_NoPart : PySem.W.typeIn K (.ref C_NoPart) = some (.type "type"))
    (hC_NoPart : PySem.W.hasDictIn K C_NoPart = true)
    (eC_NoPlace : PySem.W.subIn K (.ref C_NoPlace) (.type "BaseException") = some true)
    (tC_NoPlace : PySem.W.typeIn K (.ref C_NoPlace) = some (.type "type"))
    (hC_NoPlace : PySem.W.hasDictIn K C_NoPlace = true)
    (eC_Lacking : PySem.W.subIn K (.ref C_Lacking) (.type "BaseException") = some true)
    (tC_Lacking : PySem.W.typeIn K (.ref C_Lacking) = some (.type "type"))
    (hC_Lacking : PySem.W.hasDictIn K C_Lacking = true)
    (eC_NothingLeft : PySem.W.subIn K (.ref C_NothingLeft) (.type "BaseException") = some true)
    (tC_NothingLeft : PySem.W.typeIn K (.ref C_NothingLeft) = some (.type "type"))
    (hC_NothingLeft : PySem.W.hasDictIn K C_NothingLeft = true)
    (xL_BadSum : K.lookup C_BadSum = some (excClassObj nm_BadSum q_BadSum C_BadSum N_BadSum bs_BadSum [.ref C_BudError, .type "ValueError", .type "Exception", .type "BaseException", .type "object"] true sn_BadSum sub_BadSum ab_BadSum col_BadSum dd_BadSum m0_BadSum m1_BadSum m2_BadSum m3_BadSum m5_BadSum "ValueError.__new__"))
    (sa_BadSum : PySem.W.findIn K (.ref C_BadSum) "__setattr__" = some (some (.builtin "object.__setattr__")))
    (ga_BadSum : PySem.W.findIn K (.ref C_BadSum) "__getattribute__" = some (some (.builtin "BaseException.__getattribute__")))
    (gg_BadSum : PySem.W.findIn K (.ref C_BadSum) "__getattr__" = some none)
    (nw_BadSum : PySem.W.findIn K (.ref C_BadSum) "word" = some none)
    (tI_BadSum : PySem.W.typeIn K (.ref f_bad_init) = some (.type "function"))
    (kC_BadSum : PySem.W.keepIn K (.ref C_BadSum) = true)
    (eC_BadSum : PySem.W.subIn K (.ref C_BadSum) (.type "BaseException") = some true)
    (tC_BadSum : PySem.W.typeIn K (.ref C_BadSum) = some (.type "type"))
    (hC_BadSum : PySem.W.hasDictIn K C_BadSum = true)
    (sC_BadSum : PySem.W.subIn K (.ref C_BadSum) (.ref C_BudError) = some true)
    (xL_NoPart : K.lookup C_NoPart = some (excClassObj nm_NoPart q_NoPart C_NoPart N_NoPart bs_NoPart [.type "ZeroDivisionError", .type "ArithmeticError", .type "Exception", .type "BaseException", .type "object"] true sn_NoPart sub_NoPart ab_NoPart col_NoPart dd_NoPart m0_NoPart m1_NoPart m2_NoPart m3_NoPart m5_NoPart "ZeroDivisionError.__new__"))
    (sa_NoPart : PySem.W.findIn K (.ref C_NoPart) "__setattr__" = some (some (.builtin "object.__setattr__")))
    (ga_NoPart : PySem.W.findIn K (.ref C_NoPart) "__getattribute__" = some (some (.builtin "BaseException.__getattribute__")))
    (gg_NoPart : PySem.W.findIn K (.ref C_NoPart) "__getattr__" = some none)
    (nw_NoPart : PySem.W.findIn K (.ref C_NoPart) "word" = some none)
    (tI_NoPart : PySem.W.typeIn K (.ref f_part_init) = some (.type "function"))
    (kC_NoPart : PySem.W.keepIn K (.ref C_NoPart) = true)
    (s0_NoPart : PySem.W.subIn K (.ref C_NoPart) (.ref C_BudError) = some false)
    (vv_NoPart : PySem.W.findCls K (.type "ZeroDivisionError") (.type "type") "__init__" = some (.val (.builtin "ZeroDivisionError.__init__")))
    (sNoPart_NoPart : PySem.W.subIn K (.ref C_NoPart) (.ref C_NoPart) = some true)
    (sNoPlace_NoPart : PySem.W.subIn K (.ref C_NoPart) (.ref C_NoPlace) = some false)
    (sLacking_NoPart : PySem.W.subIn K (.ref C_NoPart) (.ref C_Lacking) = some false)
    (sNothingLeft_NoPart : PySem.W.subIn K (.ref C_NoPart) (.ref C_NothingLeft) = some false)
    (a_init : PySem.W.findIn K (.ref C_Sum) "__init__" = some (some (.ref f_init)))
    (l_init : K.lookup f_init = some ⟨oc_init, od_init, .func (PySem.W.fnOf "__init__" "Sum.__init__" (defArgs s_init) (defBody s_init) (defScope s_init) (.ref T_init) kV_init dc_init pm_init an_init cd_init ct_init), sl_init⟩)
    (c_init : PySem.W.codeIn K cd_init "Sum.__init__" = true)
    (k_init : PySem.W.keepIn K (.ref f_init) = true)
    (lT : K.lookup T_init = some ⟨ocT, odT, .seq #[.ref e_init] nT, slT⟩)
    (fn_init : PySem.W.isFn K (.ref f_init) = true)
    (lE : K.lookup e_init = some ⟨.type "tuple", odE, .seq #[] nE, slE⟩)
    (mk : PySem.W.makesIn K C_Sum = true)
    (kc : PySem.W.keepIn K (.ref C_Sum) = true)
    (pg : PySem.W.plainGet K C_Sum Str.empty = true)
    (hd : PySem.W.hasDictIn K C_Sum = true)
    (po : PySem.W.plainOver K C_Sum = true)
    (sa : PySem.W.findIn K (.ref C_Sum) "__setattr__" = some (some (.builtin "object.__setattr__")))
    (nw : PySem.W.findIn K (.ref C_Sum) "width" = some none)
    (np : PySem.W.findIn K (.ref C_Sum) "products" = some none)
    (hcl : PySem.W.findIn K (.ref C_Sum) "__class__" = some (some (.builtin "object.__class__")))
    (hgt : PySem.W.specialIn K (.builtin "object.__class__") "__get__" = some (some (.builtin "getset_descriptor.__get__")))
    (htk : PySem.W.takesIn K (.builtin "object.__class__") = some true)
    (hmr : PySem.W.mroIn K C_Sum (.type "object") = some true)
    (slf : PySem.W.kitOne K (.ref C_Sum) (.ref C_Sum) = some true)
    (fn_m_worth : PySem.W.isFn K (.ref f_m_worth) = true)
    (fn_m_least : PySem.W.isFn K (.ref f_m_least) = true)
    (fn_m_greatest : PySem.W.isFn K (.ref f_m_greatest) = true)
    (fn_m_lowest : PySem.W.isFn K (.ref f_m_lowest) = true)
    (cl_law : K.lookup cc_law = some ⟨oc2_law, od2_law, .fields vs_law, sl2_law⟩)
    (v11_law : vs_law[11]? = some (.ref Pt_law))
    (hd_law : PySem.W.codeHdIn K cc_law Pt_law = true)
    (nP_law : K.lookup Pt_law = none)
    (cl_law_worth_so : K.lookup cc_law_worth_so = some ⟨oc2_law_worth_so, od2_law_worth_so, .fields vs_law_worth_so, sl2_law_worth_so⟩)
    (v11_law_worth_so : vs_law_worth_so[11]? = some (.ref Pt_law_worth_so))
    (hd_law_worth_so : PySem.W.codeHdIn K cc_law_worth_so Pt_law_worth_so = true)
    (nP_law_worth_so : K.lookup Pt_law_worth_so = none)
    (cl_law_lengths_so : K.lookup cc_law_lengths_so = some ⟨oc2_law_lengths_so, od2_law_lengths_so, .fields vs_law_lengths_so, sl2_law_lengths_so⟩)
    (v11_law_lengths_so : vs_law_lengths_so[11]? = some (.ref Pt_law_lengths_so))
    (hd_law_lengths_so : PySem.W.codeHdIn K cc_law_lengths_so Pt_law_lengths_so = true)
    (nP_law_lengths_so : K.lookup Pt_law_lengths_so = none)
    (nPP_law_law_worth_so : Pt_law ≠ Pt_law_worth_so)
    (nPP_law_law_lengths_so : Pt_law ≠ Pt_law_lengths_so)
    (nPP_law_worth_so_law_lengths_so : Pt_law_worth_so ≠ Pt_law_lengths_so)
    : LamX.LawAtS l w K CX0 11 63 "_law_script" mg fa h := by
  have e := hfa.symm.trans (PySem.W.mg_of X G a_law)
  cases e
  have T : Tx mg := { len := PySem.W.mg_none_of X G z_len, range := PySem.W.mg_none_of X G z_range, zip := PySem.W.mg_none_of X G z_zip, all := PySem.W.mg_none_of X G z_all, any := PySem.W.mg_none_of X G z_any, sorted := PySem.W.mg_none_of X G z_sorted, isinstance := PySem.W.mg_none_of X G z_isinstance, bool := PySem.W.mg_none_of X G z_bool, tuple := PySem.W.mg_none_of X G z_tuple, list := PySem.W.mg_none_of X G z_list, dict := PySem.W.mg_none_of X G z_dict, str := PySem.W.mg_none_of X G z_str, min := PySem.W.mg_none_of X G z_min, max := PySem.W.mg_none_of X G z_max, sum := PySem.W.mg_none_of X G z_sum, int := PySem.W.mg_none_of X G z_int, abs := PySem.W.mg_none_of X G z_abs, ZeroDivisionError := PySem.W.mg_none_of X G z_ZeroDivisionError, ValueError := PySem.W.mg_none_of X G z_ValueError, WIDE := ⟨_, PySem.W.mg_of X G i_WIDE⟩ }
  have F_common := fun_mk (st := s_common) l_common c_common k_common
  have b_common := F_common.binds (ps := ["one", "other"]) fun _ _ _ _ _ _ us hl => match us, hl with | [_, _], _ => rfl
  have F_power_of := fun_mk (st := s_power_of) l_power_of c_power_of k_power_of
  have b_power_of := F_power_of.binds (ps := ["base", "many"]) fun _ _ _ _ _ _ us hl => match us, hl with | [_, _], _ => rfl
  have F_lowest_terms := fun_mk (st := s_lowest_terms) l_lowest_terms c_lowest_terms k_lowest_terms
  have b_lowest_terms := F_lowest_terms.binds (ps := ["top", "under", "root"]) fun _ _ _ _ _ _ us hl => match us, hl with | [_, _, _], _ => rfl
  have F_gathered := fun_mk (st := s_gathered) l_gathered c_gathered k_gathered
  have b_gathered := F_gathered.binds (ps := ["terms"]) fun _ _ _ _ _ _ us hl => match us, hl with | [_], _ => rfl
  have F_lowest_powers := fun_mk (st := s_lowest_powers) l_lowest_powers c_lowest_powers k_lowest_powers
  have b_lowest_powers := F_lowest_powers.binds (ps := ["products"]) fun _ _ _ _ _ _ us hl => match us, hl with | [_], _ => rfl
  have F_highest_powers := fun_mk (st := s_highest_powers) l_highest_powers c_highest_powers k_highest_powers
  have b_highest_powers := F_highest_powers.binds (ps := ["products"]) fun _ _ _ _ _ _ us hl => match us, hl with | [_], _ => rfl
  have F_weighed := fun_mk (st := s_weighed) l_weighed c_weighed k_weighed
  have b_weighed := F_weighed.binds (ps := ["products", "numbers"]) fun _ _ _ _ _ _ us hl => match us, hl with | [_, _], _ => rfl
  have F_worth_at := fun_mk (st := s_worth_at) l_worth_at c_worth_at k_worth_at
  have b_worth_at := F_worth_at.binds (ps := ["products", "parts"]) fun _ _ _ _ _ _ us hl => match us, hl with | [_, _], _ => rfl
  have F_check_width := fun_mk (st := s_check_width) l_check_width c_check_width k_check_width
  have b_check_width := F_check_width.binds (ps := ["width", "other"]) fun _ _ _ _ _ _ us hl => match us, hl with | [_, _], _ => rfl
  have F_law_feed := fun_mk (st := s_law_feed) l_law_feed c_law_feed k_law_feed
  have b_law_feed := F_law_feed.binds (ps := ["_law_script"]) fun _ _ _ _ _ _ us hl => match us, hl with | [_], _ => rfl
  have F_law_draw := fun_mk (st := s_law_draw) l_law_draw c_law_draw k_law_draw
  have b_law_draw := F_law_draw.binds (ps := ["_law_feed_here", "_law_many"]) fun _ _ _ _ _ _ us hl => match us, hl with | [_, _], _ => rfl
  have F_law_pick := fun_mk (st := s_law_pick) l_law_pick c_law_pick k_law_pick
  have b_law_pick := F_law_pick.binds (ps := ["_law_feed_here", "_law_row"]) fun _ _ _ _ _ _ us hl => match us, hl with | [_, _], _ => rfl
  have F_law_same := fun_mk (st := s_law_same) l_law_same c_law_same k_law_same
  have b_law_same := F_law_same.binds (ps := ["_law_found", "_law_due"]) fun _ _ _ _ _ _ us hl => match us, hl with | [_, _], _ => rfl
  have F_law_word := fun_mk (st := s_law_word) l_law_word c_law_word k_law_word
  have b_law_word := F_law_word.binds (ps := ["_law_asked"]) fun _ _ _ _ _ _ us hl => match us, hl with | [_], _ => rfl
  have F_law_gcd := fun_mk (st := s_law_gcd) l_law_gcd c_law_gcd k_law_gcd
  have b_law_gcd := F_law_gcd.binds (ps := ["_law_one", "_law_other"]) fun _ _ _ _ _ _ us hl => match us, hl with | [_, _], _ => rfl
  have F_law_low := fun_mk (st := s_law_low) l_law_low c_law_low k_law_low
  have b_law_low := F_law_low.binds (ps := ["_law_top", "_law_under"]) fun _ _ _ _ _ _ us hl => match us, hl with | [_, _], _ => rfl
  have F_law_add := fun_mk (st := s_law_add) l_law_add c_law_add k_law_add
  have b_law_add := F_law_add.binds (ps := ["_law_one", "_law_other"]) fun _ _ _ _ _ _ us hl => match us, hl with | [_, _], _ => rfl
  have F_law_mul := fun_mk (st := s_law_mul) l_law_mul c_law_mul k_law_mul
  have b_law_mul := F_law_mul.binds (ps := ["_law_one", "_law_other"]) fun _ _ _ _ _ _ us hl => match us, hl with | [_, _], _ => rfl
  have F_law_pow := fun_mk (st := s_law_pow) l_law_pow c_law_pow k_law_pow
  have b_law_pow := F_law_pow.binds (ps := ["_law_one", "_law_many"]) fun _ _ _ _ _ _ us hl => match us, hl with | [_, _], _ => rfl
  have F_law_great_number := fun_mk (st := s_law_great_number) l_law_great_number c_law_great_number k_law_great_number
  have b_law_great_number := F_law_great_number.binds (ps := ["_law_feed_here"]) fun _ _ _ _ _ _ us hl => match us, hl with | [_], _ => rfl
  have F_law_powers := fun_mk (st := s_law_powers) l_law_powers c_law_powers k_law_powers
  have b_law_powers := F_law_powers.binds (ps := ["_law_feed_here", "_law_width"]) fun _ _ _ _ _ _ us hl => match us, hl with | [_, _], _ => rfl
  have F_law_terms := fun_mk (st := s_law_terms) l_law_terms c_law_terms k_law_terms
  have b_law_terms := F_law_terms.binds (ps := ["_law_feed_here", "_law_width", "_law_most"]) fun _ _ _ _ _ _ us hl => match us, hl with | [_, _, _], _ => rfl
  have F_law_book := fun_mk (st := s_law_book) l_law_book c_law_book k_law_book
  have b_law_book := F_law_book.binds (ps := ["_law_terms_here"]) fun _ _ _ _ _ _ us hl => match us, hl with | [_], _ => rfl
  have F_law_worth := fun_mk (st := s_law_worth) l_law_worth c_law_worth k_law_worth
  have b_law_worth := F_law_worth.binds (ps := ["_law_book_here", "_law_parts"]) fun _ _ _ _ _ _ us hl => match us, hl with | [_, _], _ => rfl
  have F_law_worth_so := fun_mk (st := s_law_worth_so) l_law_worth_so c_law_worth_so k_law_worth_so
  have b_law_worth_so := F_law_worth_so.binds (ps := ["_law_feed_here", "_law_found", "_law_book_here", "_law_width"]) fun _ _ _ _ _ _ us hl => match us, hl with | [_, _, _, _], _ => rfl
  have F_law_lengths_so := fun_mk (st := s_law_lengths_so) l_law_lengths_so c_law_lengths_so k_law_lengths_so
  have b_law_lengths_so := F_law_lengths_so.binds (ps := ["_law_found", "_law_heights", "_law_width"]) fun _ _ _ _ _ _ us hl => match us, hl with | [_, _, _], _ => rfl
  have F_law := fun_mk (st := s_law) l_law c_law k_law
  have F_bud_init := fun_mk (st := s_bud_init) l_bud_init c_bud_init k_bud_init
  have b_bud_init := F_bud_init.binds (ps := ["self", "word"]) fun _ _ _ _ _ _ us hl => match us, hl with | [_, _], _ => rfl
  have F_bad_init := fun_mk (st := s_bad_init) l_bad_init c_bad_init k_bad_init
  have b_bad_init := F_bad_init.binds (ps := ["self"]) fun _ _ _ _ _ _ us hl => match us, hl with | [_], _ => rfl
  have F_part_init := fun_mk (st := s_part_init) l_part_init c_part_init k_part_init
  have b_part_init := F_part_init.binds (ps := ["self"]) fun _ _ _ _ _ _ us hl => match us, hl with | [_], _ => rfl
  have F_m_worth := fun_mk (st := s_worth) l_m_worth c_m_worth k_m_worth
  have b_m_worth := F_m_worth.binds (ps := ["self", "parts"]) fun _ _ _ _ _ _ us hl => match us, hl with | [_, _], _ => rfl
  have F_m_least := fun_mk (st := s_least) l_m_least c_m_least k_m_least
  have b_m_least := F_m_least.binds (ps := ["self", "numbers"]) fun _ _ _ _ _ _ us hl => match us, hl with | [_, _], _ => rfl
  have F_m_greatest := fun_mk (st := s_greatest) l_m_greatest c_m_greatest k_m_greatest
  have b_m_greatest := F_m_greatest.binds (ps := ["self", "numbers"]) fun _ _ _ _ _ _ us hl => match us, hl with | [_, _], _ => rfl
  have F_m_lowest := fun_mk (st := s_lowest) l_m_lowest c_m_lowest k_m_lowest
  have b_m_lowest := F_m_lowest.binds (ps := ["self"]) fun _ _ _ _ _ _ us hl => match us, hl with | [_], _ => rfl
  have g_common := PySem.W.mg_of X G a_common
  have g_power_of := PySem.W.mg_of X G a_power_of
  have g_lowest_terms := PySem.W.mg_of X G a_lowest_terms
  have g_gathered := PySem.W.mg_of X G a_gathered
  have g_lowest_powers := PySem.W.mg_of X G a_lowest_powers
  have g_highest_powers := PySem.W.mg_of X G a_highest_powers
  have g_weighed := PySem.W.mg_of X G a_weighed
  have g_worth_at := PySem.W.mg_of X G a_worth_at
  have g_check_width := PySem.W.mg_of X G a_check_width
  have g_law_feed := PySem.W.mg_of X G a_law_feed
  have g_law_draw := PySem.W.mg_of X G a_law_draw
  have g_law_pick := PySem.W.mg_of X G a_law_pick
  have g_law_same := PySem.W.mg_of X G a_law_same
  have g_law_word := PySem.W.mg_of X G a_law_word
  have g_law_gcd := PySem.W.mg_of X G a_law_gcd
  have g_law_low := PySem.W.mg_of X G a_law_low
  have g_law_add := PySem.W.mg_of X G a_law_add
  have g_law_mul := PySem.W.mg_of X G a_law_mul
  have g_law_pow := PySem.W.mg_of X G a_law_pow
  have g_law_great_number := PySem.W.mg_of X G a_law_great_number
  have g_law_powers := PySem.W.mg_of X G a_law_powers
  have g_law_terms := PySem.W.mg_of X G a_law_terms
  have g_law_book := PySem.W.mg_of X G a_law_book
  have g_law_worth := PySem.W.mg_of X G a_law_worth
  have g_law_worth_so := PySem.W.mg_of X G a_law_worth_so
  have g_law_lengths_so := PySem.W.mg_of X G a_law_lengths_so
  have g_law := PySem.W.mg_of X G a_law
  have TB : ClsFn K mg "BudError" "__init__" C_BudError f_bud_init := ⟨PySem.W.mg_of X G a_BudError, sg, tyB, rdB, fcB, k_bud_init⟩
  have ox_BadSum : OexC K C_BadSum := ⟨⟨nm_BadSum, q_BadSum, N_BadSum, bs_BadSum, _, sn_BadSum, sub_BadSum, ab_BadSum, col_BadSum, dd_BadSum, m0_BadSum, m1_BadSum, m2_BadSum, m3_BadSum, m5_BadSum, xL_BadSum, rfl⟩, sa_BadSum, eC_BadSum, tC_BadSum, kC_BadSum⟩
  have T_BadSum : ErrC K mg "BadSum" C_BadSum f_bad_init C_BudError := ⟨PySem.W.mg_of X G a_BadSum, ox_BadSum, a_bad_init, tI_BadSum, nw_BadSum, ⟨ga_BadSum, gg_BadSum, eC_BadSum, hC_BadSum⟩, PySem.W.exm_ref eB hB tyB sC_BadSum⟩
  have ox_NoPart : OexB K C_NoPart "ZeroDivisionError" "ZeroDivisionError.__new__" "ZeroDivisionError.__init__" [.type "ZeroDivisionError", .type "ArithmeticError", .type "Exception", .type "BaseException", .type "object"] := ⟨⟨nm_NoPart, q_NoPart, N_NoPart, bs_NoPart, sn_NoPart, sub_NoPart, ab_NoPart, col_NoPart, dd_NoPart, m0_NoPart, m1_NoPart, m2_NoPart, m3_NoPart, m5_NoPart, xL_NoPart⟩, PySem.F.excBase_ZeroDivisionError, PySem.F.store_ZeroDivisionError, by decide, sa_NoPart, eC_NoPart, tC_NoPart, kC_NoPart⟩
  have ea_NoPart : PySem.W.exmAny K (.ref C_NoPart) [.ref C_NoPart, .ref C_NoPlace, .ref C_Lacking, .ref C_NothingLeft] = some true := by
    unfold PySem.W.exmAny PySem.W.exmAny PySem.W.exmAny PySem.W.exmAny PySem.W.exmAny
    rw [PySem.W.exm_ref eC_NoPart hC_NoPart tC_NoPart sNoPart_NoPart, PySem.W.exm_ref eC_NoPlace hC_NoPlace tC_NoPlace sNoPlace_NoPart, PySem.W.exm_ref eC_Lacking hC_Lacking tC_Lacking sLacking_NoPart, PySem.W.exm_ref eC_NothingLeft hC_NothingLeft tC_NothingLeft sNothingLeft_NoPart]
    rfl
  have T_NoPart : ErrB K mg "NoPart" C_NoPart f_part_init C_BudError [.ref C_NoPart, .ref C_NoPlace, .ref C_Lacking, .ref C_NothingLeft] "ZeroDivisionError" "ZeroDivisionError.__new__" "ZeroDivisionError.__init__" [.type "ZeroDivisionError", .type "ArithmeticError", .type "Exception", .type "BaseException", .type "object"] := ⟨PySem.W.mg_of X G a_NoPart, ox_NoPart, a_part_init, tI_NoPart, nw_NoPart, ⟨ga_NoPart, gg_NoPart, eC_NoPart, hC_NoPart⟩, PySem.W.exm_ref eB hB tyB s0_NoPart, ea_NoPart⟩
  have S : SumC K mg C_Sum := ⟨PySem.W.mg_of X G a_Sum, ⟨pg, hd, po, sa⟩, nw, np, hcl, hgt, htk, hmr, slf, kc⟩
  have F_init : FunD K "__init__" "Sum.__init__" (defArgs s_init) (defBody s_init) (defScope s_init) [.ref e_init] [] f_init _ := ⟨⟨oc_init, od_init, .ref T_init, kV_init, dc_init, pm_init, an_init, cd_init, ct_init, sl_init, rfl, l_init, c_init, .inr ⟨by simp, T_init, _, [.ref e_init], nT, rfl, lT, rfl, .cons rfl .nil⟩, .inl rfl⟩, k_init⟩
  obtain ⟨ds, vds, b_init⟩ := F_init.binds1 (ps := ["self", "width", "terms"]) 3 1 (by simp) rfl (fun T kV doc pm an cdv ct us its hl hi => match us, its, hl, hi with | [_, _, _], [_], _, _ => ⟨_, rfl, rfl⟩)
  have vds : Vals [] ds := vds
  cases vds
  have kbG : KBinds K (PySem.W.fnOf "greatest" "Sum.greatest" (defArgs s_greatest) (defBody s_greatest) (defScope s_greatest) .none kV_m_greatest dc_m_greatest pm_m_greatest an_m_greatest cd_m_greatest ct_m_greatest) ["self", "numbers"] ["numbers"] oneL oneL := by
    refine ⟨fun s us ws _ hl => ?_, fun {vs us zs ws} r1 r2 => ?_⟩
    · match us, ws, hl with
      | [_], [_], _ => exact .of_eq rfl
    · match vs, us, zs, ws, r1, r2 with
      | _, _, _, _, .cons a .nil, .cons b .nil => exact .cons a (.cons b .nil)
      | _, _, _, _, .nil, _ => exact .nil
      | _, _, _, _, .cons _ .nil, .nil => exact .nil
      | _, _, _, _, .cons _ .nil, .cons _ (.cons _ _) => exact .nil
      | _, _, _, _, .cons _ (.cons _ _), _ => exact .nil
  have hcs : ∀ p ∈ [(cc_law, Pt_law), (cc_law_worth_so, Pt_law_worth_so), (cc_law_lengths_so, Pt_law_lengths_so)], p = (cc_law, Pt_law) ∨ p = (cc_law_worth_so, Pt_law_worth_so) ∨ p = (cc_law_lengths_so, Pt_law_lengths_so) := fun p hp => by
    simpa using hp
  refine ⟨PySem.W.fnOf "law" "law" (defArgs s_law) (defBody s_law) (defScope s_law) .none kV_law dc_law pm_law an_law (.ref cc_law) ct_law, [(cc_law, Pt_law), (cc_law_worth_so, Pt_law_worth_so), (cc_law_lengths_so, Pt_law_lengths_so)], spLaw K Pt_law Pt_law_worth_so Pt_law_lengths_so, fun p hp => ?_, fun p hp => ?_, fun p hp => ?_, fun s v => .of_eq rfl, fun H a ns hl _ hT hS => ⟨a, ns, rfl, hS, hl, hT _ (List.mem_cons_self ..), hT _ (List.mem_cons_of_mem _ (List.mem_cons_self ..)), hT _ (List.mem_cons_of_mem _ (List.mem_cons_of_mem _ (List.mem_cons_self ..))), fun _ => rfl⟩, fun base _ _ TBs => ?_⟩
  · rcases hcs p hp with e | e | e
    · rw [e]
      exact own cc_law Pt_law _ _ _ _ _ _ l_law rfl rfl cl_law v11_law
    · rw [e]
      exact own_law_worth_so _ g_law_worth_so cc_law_worth_so Pt_law_worth_so _ _ _ _ _ _ l_law_worth_so rfl rfl cl_law_worth_so v11_law_worth_so
    · rw [e]
      exact own_law_lengths_so _ g_law_lengths_so cc_law_lengths_so Pt_law_lengths_so _ _ _ _ _ _ l_law_lengths_so rfl rfl cl_law_lengths_so v11_law_lengths_so
  · rcases hcs p hp with e | e | e
    · rw [e]
      exact nP_law
    · rw [e]
      exact nP_law_worth_so
    · rw [e]
      exact nP_law_lengths_so
  · rcases hcs p hp with e | e | e
    · rw [e]
      exact PySem.W.codeHd_of_K X hd_law
    · rw [e]
      exact PySem.W.codeHd_of_K X hd_law_worth_so
    · rw [e]
      exact PySem.W.codeHd_of_K X hd_law_lengths_so
  have FBI : FnOk l.prog w K mg base CX0 1 f_bud_init _ ["self", "word"] (spBudInit K) := ok_budinit F_bud_init T vv
  have FS : FnOk l.prog w K mg base CX0 2 f_bad_init _ ["self"] (spErrInit K "bad sum") := ok_badinit F_bad_init T TB FBI b_bud_init
  have FN : FnOk l.prog w K mg base CX0 1 f_part_init _ ["self"] (spErrInitB0 K zdB zdN zdI zdL "no part") := ok_partinit F_part_init T vv_NoPart
  have cDraw : Cal l.prog w K mg base CX0 1 "_law_draw" ["_law_feed_here", "_law_many"] spDraw := ⟨_, _, ok_draw F_law_draw T, g_law_draw, k_law_draw, b_law_draw⟩
  have cFeed : Cal l.prog w K mg base CX0 1 "_law_feed" ["_law_script"] (spFeed K) := ⟨_, _, ok_feed F_law_feed T, g_law_feed, k_law_feed, b_law_feed⟩
  have cPick : Cal l.prog w K mg base CX0 2 "_law_pick" ["_law_feed_here", "_law_row"] spPick := ⟨_, _, ok_pick (j := 0) F_law_pick T cDraw, g_law_pick, k_law_pick, b_law_pick⟩
  have cGreat : Cal l.prog w K mg base CX0 3 "_law_great_number" ["_law_feed_here"] spGreat := ⟨_, _, ok_great F_law_great_number T cDraw cPick, g_law_great_number, k_law_great_number, b_law_great_number⟩
  have cPowers : Cal l.prog w K mg base CX0 3 "_law_powers" ["_law_feed_here", "_law_width"] spPowers := ⟨_, _, ok_powers F_law_powers T cDraw cPick, g_law_powers, k_law_powers, b_law_powers⟩
  have cTerms : Cal l.prog w K mg base CX0 4 "_law_terms" ["_law_feed_here", "_law_width", "_law_most"] spTerms := ⟨_, _, ok_terms F_law_terms T cDraw cPick cGreat cPowers, g_law_terms, k_law_terms, b_law_terms⟩
  have cSame : Cal l.prog w K mg base CX0 4 "_law_same" ["_law_found", "_law_due"] (spSame 3) := ⟨_, _, ok_same F_law_same T g_law_same b_law_same 3, g_law_same, k_law_same, b_law_same⟩
  have cBook : Cal l.prog w K mg base CX0 1 "_law_book" ["_law_terms_here"] spBook := ⟨_, _, ok_book F_law_book T, g_law_book, k_law_book, b_law_book⟩
  have cLGcd : Cal l.prog w K mg base CX0 1 "_law_gcd" ["_law_one", "_law_other"] spCom := ⟨_, _, ok_lgcd F_law_gcd T, g_law_gcd, k_law_gcd, b_law_gcd⟩
  have cLLow : Cal l.prog w K mg base CX0 2 "_law_low" ["_law_top", "_law_under"] spLLow := ⟨_, _, ok_llow F_law_low T cLGcd, g_law_low, k_law_low, b_law_low⟩
  have cLMul : Cal l.prog w K mg base CX0 3 "_law_mul" ["_law_one", "_law_other"] (spPP fun t _ x _ => t * x) := ⟨_, _, ok_lmulP F_law_mul T cLLow, g_law_mul, k_law_mul, b_law_mul⟩
  have cLAdd : Cal l.prog w K mg base CX0 3 "_law_add" ["_law_one", "_law_other"] (spPP fun t u x y => t * y + x * u) := ⟨_, _, ok_ladd F_law_add T cLLow, g_law_add, k_law_add, b_law_add⟩
  have cLPow : Cal l.prog w K mg base CX0 3 "_law_pow" ["_law_one", "_law_many"] spLPow := ⟨_, _, ok_lpow F_law_pow T cLLow, g_law_pow, k_law_pow, b_law_pow⟩
  have cLWorth : Cal l.prog w K mg base CX0 4 "_law_worth" ["_law_book_here", "_law_parts"] spLWorth := ⟨_, _, ok_lworth F_law_worth T cLMul cLAdd cLPow, g_law_worth, k_law_worth, b_law_worth⟩
  have cGath : Cal l.prog w K mg base CX0 1 "gathered" ["terms"] (spGath K) := ⟨_, _, ok_gath F_gathered T, g_gathered, k_gathered, b_gathered⟩
  have cCom : Cal l.prog w K mg base CX0 1 "common" ["one", "other"] spCom := ⟨_, _, ok_common F_common T, g_common, k_common, b_common⟩
  have cPow : Cal l.prog w K mg base CX0 1 "power_of" ["base", "many"] spPow := ⟨_, _, ok_power F_power_of T, g_power_of, k_power_of, b_power_of⟩
  have cLowT : Cal l.prog w K mg base CX0 2 "lowest_terms" ["top", "under", "root"] spLow := ⟨_, _, ok_lowest F_lowest_terms T cCom, g_lowest_terms, k_lowest_terms, b_lowest_terms⟩
  have cLow : Cal l.prog w K mg base CX0 1 "lowest_powers" ["products"] (spLowP min) := ⟨_, _, ok_lowest_powers F_lowest_powers T, g_lowest_powers, k_lowest_powers, b_lowest_powers⟩
  have cHigh : Cal l.prog w K mg base CX0 1 "highest_powers" ["products"] (spLowP max) := ⟨_, _, ok_highest_powers F_highest_powers T, g_highest_powers, k_highest_powers, b_highest_powers⟩
  have cWeigh : Cal l.prog w K mg base CX0 1 "weighed" ["products", "numbers"] spWeighed := ⟨_, _, ok_weighed F_weighed T, g_weighed, k_weighed, b_weighed⟩
  have cWAt : Cal l.prog w K mg base CX0 3 "worth_at" ["products", "parts"] spWAt := ⟨_, _, ok_wat F_worth_at T cLow cHigh cPow cLowT, g_worth_at, k_worth_at, b_worth_at⟩
  have cChk : CalX l.prog w K mg base 4 "check_width" ["width", "other"] (spCheckX C_BadSum) := ⟨_, _, ok_checkX F_check_width T T_BadSum FS b_bad_init, g_check_width, k_check_width, b_check_width⟩
  have FI : FnOk l.prog w K mg base CX0 2 f_init _ ["self", "width", "terms"] (spInit K C_Sum) := ok_init F_init T S cGath
  have mkI : Mk K C_Sum f_init := ⟨mk, a_init, fn_init, kc⟩
  have M : MakS l.prog w K mg base 2 C_Sum ["self", "width", "terms"] (spInit K C_Sum) := ⟨f_init, _, mkI, FI, S.gl, b_init⟩
  have mWorth : MetX l.prog w K mg base 5 C_Sum "worth" ["self", "parts"] (spWorthX C_Sum C_BadSum C_NoPart) := ⟨f_m_worth, _, S.cls, ⟨a_m_worth, fn_m_worth, k_m_worth⟩, ok_worth F_m_worth T S T_NoPart FN b_part_init cChk cLow cWAt, b_m_worth⟩
  have mLeast : MetX l.prog w K mg base 5 C_Sum "least" ["self", "numbers"] (spEndX min C_Sum C_BadSum) := ⟨f_m_least, _, S.cls, ⟨a_m_least, fn_m_least, k_m_least⟩, ok_least F_m_least T S cChk cWeigh, b_m_least⟩
  have FGr := ok_greatest (P := l.prog) (w := w) (base := base) F_m_greatest T S cChk cWeigh
  have mGreatest : MetX l.prog w K mg base 5 C_Sum "greatest" ["self", "numbers"] (spEndX max C_Sum C_BadSum) := ⟨f_m_greatest, _, S.cls, ⟨a_m_greatest, fn_m_greatest, k_m_greatest⟩, FGr, b_m_greatest⟩
  have mkG : MetK l.prog w K mg base 5 C_Sum "greatest" ["self", "numbers"] ["numbers"] (spEndX max C_Sum C_BadSum) := ⟨f_m_greatest, _, S.cls, ⟨a_m_greatest, fn_m_greatest, k_m_greatest⟩, FGr, kbG⟩
  have mLowest : MetS l.prog w K mg base 2 C_Sum "lowest" ["self"] (spLowestM C_Sum) := ⟨f_m_lowest, _, S.cls, ⟨a_m_lowest, fn_m_lowest, k_m_lowest⟩, ok_lowestM F_m_lowest T S cLow, b_m_lowest⟩
  have un_law : ∀ p ∈ ([(Pt_law, qL "law"), (Pt_law_worth_so, qL "_law_worth_so"), (Pt_law_lengths_so, qL "_law_lengths_so")] : List (Addr × Str)), p.1 = Pt_law → p.2 = qL "law" := fun p hp e => by
    simp only [List.mem_cons, List.not_mem_nil, or_false] at hp
    rcases hp with rfl | rfl | rfl
    · rfl
    · exact absurd e.symm nPP_law_law_worth_so
    · exact absurd e.symm nPP_law_law_lengths_so
  have un_law_worth_so : ∀ p ∈ ([(Pt_law, qL "law"), (Pt_law_worth_so, qL "_law_worth_so"), (Pt_law_lengths_so, qL "_law_lengths_so")] : List (Addr × Str)), p.1 = Pt_law_worth_so → p.2 = qL "_law_worth_so" := fun p hp e => by
    simp only [List.mem_cons, List.not_mem_nil, or_false] at hp
    rcases hp with rfl | rfl | rfl
    · exact absurd e nPP_law_law_worth_so
    · rfl
    · exact absurd e.symm nPP_law_worth_so_law_lengths_so
  have un_law_lengths_so : ∀ p ∈ ([(Pt_law, qL "law"), (Pt_law_worth_so, qL "_law_worth_so"), (Pt_law_lengths_so, qL "_law_lengths_so")] : List (Addr × Str)), p.1 = Pt_law_lengths_so → p.2 = qL "_law_lengths_so" := fun p hp e => by
    simp only [List.mem_cons, List.not_mem_nil, or_false] at hp
    rcases hp with rfl | rfl | rfl
    · exact absurd e nPP_law_law_lengths_so
    · exact absurd e nPP_law_worth_so_law_lengths_so
    · rfl
  have cWSo : Cal l.prog w K mg base CX0 10 "_law_worth_so" ["_law_feed_here", "_law_found", "_law_book_here", "_law_width"] (spWSo C_Sum (TsL Pt_law Pt_law_worth_so Pt_law_lengths_so)) := ⟨_, _, ok_wso l_law_worth_so c_law_worth_so T S T_NoPart cDraw cLLow cSame cLWorth mWorth ⟨F_law_word, g_law_word, b_law_word, PySem.W.mg_of X G a_BudError, PySem.W.mg_of X G a_NoPart, PySem.W.mg_of X G a_NoPlace, PySem.W.mg_of X G a_Lacking, PySem.W.mg_of X G a_NothingLeft, TBs _ (List.mem_cons_of_mem _ (List.mem_cons_self ..)), List.mem_cons_of_mem _ (List.mem_cons_self ..), un_law_worth_so⟩, g_law_worth_so, k_law_worth_so, b_law_worth_so⟩
  have cLSo : Cal l.prog w K mg base CX0 10 "_law_lengths_so" ["_law_found", "_law_heights", "_law_width"] (spLSo C_Sum (TsL Pt_law Pt_law_worth_so Pt_law_lengths_so)) := ⟨_, _, ok_lso l_law_lengths_so c_law_lengths_so T S T_BadSum mWorth mLeast mGreatest ⟨F_law_word, g_law_word, b_law_word, PySem.W.mg_of X G a_BudError, PySem.W.mg_of X G a_NoPart, PySem.W.mg_of X G a_NoPlace, PySem.W.mg_of X G a_Lacking, PySem.W.mg_of X G a_NothingLeft, TBs _ (List.mem_cons_of_mem _ (List.mem_cons_of_mem _ (List.mem_cons_self ..))), List.mem_cons_of_mem _ (List.mem_cons_of_mem _ (List.mem_cons_self ..)), un_law_lengths_so⟩, g_law_lengths_so, k_law_lengths_so, b_law_lengths_so⟩
  exact ok_law l_law c_law T S cFeed cDraw cPick cTerms cBook cGreat M mLeast mkG mLowest cSame cWSo cLSo
end Bw
set_option Elab.async false
set_option linter.all false
open PySem PySem.W PyProof.Rows
set_option maxRecDepth 100000 in
set_option maxHeartbeats 0 in
theorem PySem.Challenge.cw_budwright_k06_sums_worth_at_parts_holds : PySem.Challenge.rw_budwright_k06_sums_worth_at_parts.Holds := by
  w_on; o_law
  refine HandSHeadRun.head_any (r := OpenLaw.row PySem.Challenge.rw_budwright_k06_sums_worth_at_parts) (q := Hd.qv) (H := Hd.hk) (ob := Hd.ob) (M := 7000) (loose := Hd.names) (d := HandSHeadRun.topDef (OpenLaw.row PySem.Challenge.rw_budwright_k06_sums_worth_at_parts).prog 55) (kwd := []) Hd.ob_eq (by kernel_rfl) (fun s => by kernel_rfl) Hd.run (by kernel_rfl) (by kernel_rfl) (by kernel_rfl) (by rfl) (by first | assumption | decide +kernel) (by decide +kernel) ⟨rfl, rfl, rfl, rfl, rfl, by decide +kernel⟩ ?hw ?hc
  case hw => w_witness2
  refine LamX.walk_ofOwns (l := PySem.Challenge.rw_budwright_k06_sums_worth_at_parts) (n := 63) (k := 11) (x := "_law_script") (K := Hd.K) (CX := fun _ => L2.CX0) rfl (by decide) (by kernel_rfl) ⟨rfl, by decide, by decide⟩ (fun w h Y => PySem.W.kIn_of Y) ?F (fun _ _ _ _ _ h => h)
  case F =>
    k_fill
    intro w mg fa h YP KX G hmg0 own
    have hmg : mg ("law" : PySem.Str) = some (.ref fa) := by
      have e : (HandSHeadRun.topDef (OpenLaw.row PySem.Challenge.rw_budwright_k06_sums_worth_at_parts).prog 55).name = ("law" : PySem.Str) := by kernel_rfl
      rw [← e]
      exact hmg0
    refine' Bw.all_mk KX G hmg (own "law" _ (by first | rfl | decide +kernel) hmg) (fun f hf => own "_law_worth_so" f (by first | rfl | decide +kernel) hf) (fun f hf => own "_law_lengths_so" f (by first | rfl | decide +kernel) hf) ?a_BudError ?a_BadSum ?a_NoPart ?a_NoPlace ?a_Lacking ?a_NothingLeft ?a_Sum ?a_common ?l_common ?c_common ?k_common ?a_power_of ?l_power_of ?c_power_of ?k_power_of ?a_lowest_terms ?l_lowest_terms ?c_lowest_terms ?k_lowest_terms ?a_gathered ?l_gathered ?c_gathered ?k_gathered ?a_lowest_powers ?l_lowest_powers ?c_lowest_powers ?k_lowest_powers ?a_highest_powers ?l_highest_powers ?c_highest_powers ?k_highest_powers ?a_weighed ?l_weighed ?c_weighed ?k_weighed ?a_worth_at ?l_worth_at ?c_worth_at ?k_worth_at ?a_check_width ?l_check_width ?c_check_width ?k_check_width ?a_law_feed ?l_law_feed ?c_law_feed ?k_law_feed ?a_law_draw ?l_law_draw ?c_law_draw ?k_law_draw ?a_law_pick ?l_law_pick ?c_law_pick ?k_law_pick ?a_law_same ?l_law_same ?c_law_same ?k_law_same ?a_law_word ?l_law_word ?c_law_word ?k_law_word ?a_law_gcd ?l_law_gcd ?c_law_gcd ?k_law_gcd ?a_law_low ?l_law_low ?c_law_low ?k_law_low ?a_law_add ?l_law_add ?c_law_add ?k_law_add ?a_law_mul ?l_law_mul ?c_law_mul ?k_law_mul ?a_law_pow ?l_law_pow ?c_law_pow ?k_law_pow ?a_law_great_number ?l_law_great_number ?c_law_great_number ?k_law_great_number ?a_law_powers ?l_law_powers ?c_law_powers ?k_law_powers ?a_law_terms ?l_law_terms ?c_law_terms ?k_law_terms ?a_law_book ?l_law_book ?c_law_book ?k_law_book ?a_law_worth ?l_law_worth ?c_law_worth ?k_law_worth ?a_law_worth_so ?l_law_worth_so ?c_law_worth_so ?k_law_worth_so ?a_law_lengths_so ?l_law_lengths_so ?c_law_lengths_so ?k_law_lengths_so ?a_law ?l_law ?c_law ?k_law ?a_bud_init ?l_bud_init ?c_bud_init ?k_bud_init ?a_bad_init ?l_bad_init ?c_bad_init ?k_bad_init ?a_part_init ?l_part_init ?c_part_init ?k_part_init ?a_m_worth ?l_m_worth ?c_m_worth ?k_m_worth ?a_m_least ?l_m_least ?c_m_least ?k_m_least ?a_m_greatest ?l_m_greatest ?c_m_greatest ?k_m_greatest ?a_m_lowest ?l_m_lowest ?c_m_lowest ?k_m_lowest ?z_len ?z_range ?z_zip ?z_all ?z_any ?z_sorted ?z_isinstance ?z_bool ?z_tuple ?z_list ?z_dict ?z_str ?z_min ?z_max ?z_sum ?z_int ?z_abs ?z_ZeroDivisionError ?z_ValueError ?i_WIDE ?sg ?tyB ?rdB ?fcB ?vv ?eB ?hB ?eC_NoPart ?tC_NoPart ?hC_NoPart ?eC_NoPlace ?tC_NoPlace ?hC_NoPlace ?eC_Lacking ?tC_Lacking ?hC_Lacking ?eC_NothingLeft ?tC_NothingLeft ?hC_NothingLeft ?xL_BadSum ?sa_BadSum ?ga_BadSum ?gg_BadSum ?nw_BadSum ?tI_BadSum ?kC_BadSum ?eC_BadSum ?tC_BadSum ?hC_BadSum ?sC_BadSum ?xL_NoPart ?sa_NoPart ?ga_NoPart ?gg_NoPart ?nw_NoPart ?tI_NoPart ?kC_NoPart ?s0_NoPart ?vv_NoPart ?sNoPart_NoPart ?sNoPlace_NoPart ?sLacking_NoPart ?sNothingLeft_NoPart ?a_init ?l_init ?c_init ?k_init ?lT ?fn_init ?lE ?mk ?kc ?pg ?hd ?po ?sa ?nw ?np ?hcl ?hgt ?htk ?hmr ?slf ?fn_m_worth ?fn_m_least ?fn_m_greatest ?fn_m_lowest ?cl_law ?v11_law ?hd_law ?nP_law ?cl_law_worth_so ?v11_law_worth_so ?hd_law_worth_so ?nP_law_worth_so ?cl_law_lengths_so ?v11_law_lengths_so ?hd_law_lengths_so ?nP_law_lengths_so ?nPP_law_law_worth_so ?nPP_law_law_lengths_so ?nPP_law_worth_so_law_lengths_so
    (case a_BudError => k_is)
    (case a_BadSum => k_is)
    (case a_NoPart => k_is)
    (case a_NoPlace => k_is)
    (case a_Lacking => k_is)
    (case a_NothingLeft => k_is)
    (case a_Sum => k_is)
    (case a_common => k_is)
    (case l_common => k_is)
    (case c_common => k_is)
    (case k_common => k_is)
    (case a_power_of => k_is)
    (case l_power_of => k_is)
    (case c_power_of => k_is)
    (case k_power_of => k_is)
    (case a_lowest_terms => k_is)
    (case l_lowest_terms => k_is)
    (case c_lowest_terms => k_is)
    (case k_lowest_terms => k_is)
    (case a_gathered => k_is)
    (case l_gathered => k_is)
    (case c_gathered => k_is)
    (case k_gathered => k_is)
    (case a_lowest_powers => k_is)
    (case l_lowest_powers => k_is)
    (case c_lowest_powers => k_is)
    (case k_lowest_powers => k_is)
    (case a_highest_powers => k_is)
    (case l_highest_powers => k_is)
    (case c_highest_powers => k_is)
    (case k_highest_powers => k_is)
    (case a_weighed => k_is)
    (case l_weighed => k_is)
    (case c_weighed => k_is)
    (case k_weighed => k_is)
    (case a_worth_at => k_is)
    (case l_worth_at => k_is)
    (case c_worth_at => k_is)
    (case k_worth_at => k_is)
    (case a_check_width => k_is)
    (case l_check_width => k_is)
    (case c_check_width => k_is)
    (case k_check_width => k_is)
    (case a_law_feed => k_is)
    (case l_law_feed => k_is)
    (case c_law_feed => k_is)
    (case k_law_feed => k_is)
    (case a_law_draw => k_is)
    (case l_law_draw => k_is)
    (case c_law_draw => k_is)
    (case k_law_draw => k_is)
    (case a_law_pick => k_is)
    (case l_law_pick => k_is)
    (case c_law_pick => k_is)
    (case k_law_pick => k_is)
    (case a_law_same => k_is)
    (case l_law_same => k_is)
    (case c_law_same => k_is)
    (case k_law_same => k_is)
    (case a_law_word => k_is)
    (case l_law_word => k_is)
    (case c_law_word => k_is)
    (case k_law_word => k_is)
    (case a_law_gcd => k_is)
    (case l_law_gcd => k_is)
    (case c_law_gcd => k_is)
    (case k_law_gcd => k_is)
    (case a_law_low => k_is)
    (case l_law_low => k_is)
    (case c_law_low => k_is)
    (case k_law_low => k_is)
    (case a_law_add => k_is)
    (case l_law_add => k_is)
    (case c_law_add => k_is)
    (case k_law_add => k_is)
    (case a_law_mul => k_is)
    (case l_law_mul => k_is)
    (case c_law_mul => k_is)
    (case k_law_mul => k_is)
    (case a_law_pow => k_is)
    (case l_law_pow => k_is)
    (case c_law_pow => k_is)
    (case k_law_pow => k_is)
    (case a_law_great_number => k_is)
    (case l_law_great_number => k_is)
    (case c_law_great_number => k_is)
    (case k_law_great_number => k_is)
    (case a_law_powers => k_is)
    (case l_law_powers => k_is)
    (case c_law_powers => k_is)
    (case k_law_powers => k_is)
    (case a_law_terms => k_is)
    (case l_law_terms => k_is)
    (case c_law_terms => k_is)
    (case k_law_terms => k_is)
    (case a_law_book => k_is)
    (case l_law_book => k_is)
    (case c_law_book => k_is)
    (case k_law_book => k_is)
    (case a_law_worth => k_is)
    (case l_law_worth => k_is)
    (case c_law_worth => k_is)
    (case k_law_worth => k_is)
    (case a_law_worth_so => k_is)
    (case l_law_worth_so => k_is)
    (case c_law_worth_so => k_is)
    (case k_law_worth_so => k_is)
    (case a_law_lengths_so => k_is)
    (case l_law_lengths_so => k_is)
    (case c_law_lengths_so => k_is)
    (case k_law_lengths_so => k_is)
    (case a_law => k_is)
    (case l_law => k_is)
    (case c_law => k_is)
    (case k_law => k_is)
    (case a_bud_init => k_is)
    (case l_bud_init => k_is)
    (case c_bud_init => k_is)
    (case k_bud_init => k_is)
    (case a_bad_init => k_is)
    (case l_bad_init => k_is)
    (case c_bad_init => k_is)
    (case k_bad_init => k_is)
    (case a_part_init => k_is)
    (case l_part_init => k_is)
    (case c_part_init => k_is)
    (case k_part_init => k_is)
    (case a_m_worth => k_is)
    (case l_m_worth => k_is)
    (case c_m_worth => k_is)
    (case k_m_worth => k_is)
    (case a_m_least => k_is)
    (case l_m_least => k_is)
    (case c_m_least => k_is)
    (case k_m_least => k_is)
    (case a_m_greatest => k_is)
    (case l_m_greatest => k_is)
    (case c_m_greatest => k_is)
    (case k_m_greatest => k_is)
    (case a_m_lowest => k_is)
    (case l_m_lowest => k_is)
    (case c_m_lowest => k_is)
    (case k_m_lowest => k_is)
    (case z_len => k_is)
    (case z_range => k_is)
    (case z_zip => k_is)
    (case z_all => k_is)
    (case z_any => k_is)
    (case z_sorted => k_is)
    (case z_isinstance => k_is)
    (case z_bool => k_is)
    (case z_tuple => k_is)
    (case z_list => k_is)
    (case z_dict => k_is)
    (case z_str => k_is)
    (case z_min => k_is)
    (case z_max => k_is)
    (case z_sum => k_is)
    (case z_int => k_is)
    (case z_abs => k_is)
    (case z_ZeroDivisionError => k_is)
    (case z_ValueError => k_is)
    (case i_WIDE => k_is)
    (case sg => k_is)
    (case tyB => k_is)
    (case rdB => k_is)
    (case fcB => k_is)
    (case vv => k_is)
    (case eB => k_is)
    (case hB => k_is)
    (case eC_NoPart => k_is)
    (case tC_NoPart => k_is)
    (case hC_NoPart => k_is)
    (case eC_NoPlace => k_is)
    (case tC_NoPlace => k_is)
    (case hC_NoPlace => k_is)
    (case eC_Lacking => k_is)
    (case tC_Lacking => k_is)
    (case hC_Lacking => k_is)
    (case eC_NothingLeft => k_is)
    (case tC_NothingLeft => k_is)
    (case hC_NothingLeft => k_is)
    (case xL_BadSum => k_is)
    (case sa_BadSum => k_is)
    (case ga_BadSum => k_is)
    (case gg_BadSum => k_is)
    (case nw_BadSum => k_is)
    (case tI_BadSum => k_is)
    (case kC_BadSum => k_is)
    (case eC_BadSum => k_is)
    (case tC_BadSum => k_is)
    (case hC_BadSum => k_is)
    (case sC_BadSum => first | rfl | k_is)
    (case xL_NoPart => k_is)
    (case sa_NoPart => k_is)
    (case ga_NoPart => k_is)
    (case gg_NoPart => k_is)
    (case nw_NoPart => k_is)
    (case tI_NoPart => k_is)
    (case kC_NoPart => k_is)
    (case s0_NoPart => first | rfl | k_is)
    (case vv_NoPart => k_is)
    (case sNoPart_NoPart => first | rfl | k_is)
    (case sNoPlace_NoPart => first | rfl | k_is)
    (case sLacking_NoPart => first | rfl | k_is)
    (case sNothingLeft_NoPart => first | rfl | k_is)
    (case a_init => k_is)
    (case l_init => k_is)
    (case c_init => k_is)
    (case k_init => k_is)
    (case lT => k_is)
    (case fn_init => k_is)
    (case lE => k_is)
    (case mk => k_is)
    (case kc => k_is)
    (case pg => k_is)
    (case hd => k_is)
    (case po => k_is)
    (case sa => k_is)
    (case nw => k_is)
    (case np => k_is)
    (case hcl => k_is)
    (case hgt => k_is)
    (case htk => first | k_is | rfl)
    (case hmr => first | k_is | rfl)
    (case slf => first | k_is | rfl)
    (case fn_m_worth => k_is)
    (case fn_m_least => k_is)
    (case fn_m_greatest => k_is)
    (case fn_m_lowest => k_is)
    (case cl_law => k_is)
    (case v11_law => rfl)
    (case hd_law => first | k_is | rfl | decide +kernel)
    (case nP_law => first | rfl | k_is | decide +kernel)
    (case cl_law_worth_so => k_is)
    (case v11_law_worth_so => rfl)
    (case hd_law_worth_so => first | k_is | rfl | decide +kernel)
    (case nP_law_worth_so => first | rfl | k_is | decide +kernel)
    (case cl_law_lengths_so => k_is)
    (case v11_law_lengths_so => rfl)
    (case hd_law_lengths_so => first | k_is | rfl | decide +kernel)
    (case nP_law_lengths_so => first | rfl | k_is | decide +kernel)
    (case nPP_law_law_worth_so => first | decide | decide +kernel)
    (case nPP_law_law_lengths_so => first | decide | decide +kernel)
    (case nPP_law_worth_so_law_lengths_so => first | decide | decide +kernel)
