import PyProof.Rows.All
import Wide.All
import OpenK.AllK
import Wide.FinOn
import HandS.ForMost
import HandS.ForExc
import HandS.SortOrd
import HandS.SortRule
import HandS.SortKw
import HandS.Conv
import HandS.NamedTupSort
import KE.KDictPairs
import HandS.Codes
import HandS.IsInst
import HandS.Zip
import HandS.Walk
import HandS.TupAny
import HandS.TupMul
import HandS.Flow
import HandS.ExcInit
import HandS.OwnEq
import HandS.Style
import PyProof.InstEq
import HandS.ExcField
import HandS.CallSlots
import HandS.More
import HandS.Deep
import HandS.TupLe
import KE.KRevSl
import HandS.Lambda
import HandS.EndOwn
import HandS.NestedK
import KE.GoesMore
import KE.KExcInit
import KE.KTryMore
import HandS.Star
import KE.KStar
import HandS.MapObj
import KE.DataMinMax
import HandS.DictTup
import PyProof.DictMoreH
import HandS.TupLen
import HandS.DictComp
import HandS.SetFor
import PyProof.SetRoads
import HandS.Text
import HandS.RevTup
import HandS.Rev
import HandS.FStr
import PyProof.JoinWalk
import KE.KCallOwn
import PyProof.Conv_bool
import KE.KEqDict
import PyProof.StrLoop
import HandS.Defaults
import HandS.Wide
import HandS.Head2
import HandS.ExcIs
import PySem.Challenge.RW_budwright_k36_whole_friezes_are_whole
set_option Elab.async false
set_option linter.all false
set_option maxRecDepth 100000
set_option maxHeartbeats 4000000
namespace Bw
open PySem PySem.Spec PyProof.Rows L2
/-! ### tuples of ints in order -/
def IsTupI (h : Heap) (v : Value) (p : List Int) : Prop := ∃ a o its n, v = .ref a ∧ h.get? a = some o ∧ o.cls = .type "tuple" ∧ o.data = .seq its n ∧ IntsAre its.toList p
theorem IsTupI.keeps {h h' : Heap} {v : Value} {p : List Int} (x : IsTupI h v p) (k : ∀ b o, h.get? b = some o → o.cls = .type "tuple" → h'.get? b = some o) : IsTupI h' v p := by
  obtain ⟨a, o, its, n, e, ho, hc, hd, hi⟩ := x
  exact ⟨a, o, its, n, e, k _ _ ho hc, hc, hd, hi⟩
section
variable {prog : Program} {w : World} {A : Around} {s : Shared}
theorem kat_ints {b : Bool} {Q : Bool → Shared → Prop} : ∀ {ps : List Value} {p : List Int}, IntsAre ps p → ∀ {qs : List Value} {q : List Int}, IntsAre qs q → ∀ (i : Nat) (fin : Bool), fin = decide (ps.length < qs.length) → Q (HT.lexLt p q) s → PySem.W.KatLex prog w A b fin Q (ps.zip qs) i s
  | _, _, .nil, _, _, .nil, i, fin, hf, hq => by
    subst hf
    exact PySem.W.kat_nil hq
  | _, _, .nil, _, _, .cons _ _ _, i, fin, hf, hq => by
    have e : fin = true := by
      rw [hf]
      exact decide_eq_true (by rw [List.length_cons]; exact Nat.succ_pos _)
    subst e
    exact PySem.W.kat_nil hq
  | _, _, .cons _ _ _, _, _, .nil, i, fin, hf, hq => by
    have e : fin = false := by
      rw [hf]
      exact decide_eq_false (by rw [List.length_nil]; omega)
    subst e
    exact PySem.W.kat_nil hq
  | _, _, .cons x t r, _, _, .cons y u r', i, fin, hf, hq => by
    rw [List.zip_cons_cons]
    refine PySem.W.kat_cons (SeqAt.EqAt.int_int _ _ _ _ prog w _ _ ?_)
    rw [HT.lexLt_cons] at hq
    refine PySem.W.kat_go (fun e1 => ?_) (fun e1 => ?_)
    · have ex : x = y := by simpa using e1
      rw [if_pos ex] at hq
      exact PySem.W.kat_yes (kat_ints r r' (i + 1) fin (by rw [hf, List.length_cons, List.length_cons]; congr 1; simp) hq)
    · have ex : ¬ x = y := by simpa using e1
      rw [if_neg ex] at hq
      exact PySem.W.kat_no (TS.oneLt_ints _ hq)
theorem tup_cmp {vs : List Value} {k : Value → List Int} (hp : ∀ v ∈ vs, IsTupI s.heap v (k v)) : SrtO.Cmp prog w A s (tuples' true) (fun p => p.1 ∈ vs) (SrtO.lt2 fun v u => HT.lexLt (k v) (k u)) := by
  intro p q hm hm'
  obtain ⟨a, o, its, n, e, ho, hc, hd, hi⟩ := hp _ hm
  obtain ⟨a', o', its', n', e', ho', hc', hd', hi'⟩ := hp _ hm'
  show wpAny (model prog w) A (keyLt' (tuples' true) p.1 q.1) (fun r s' => s' = s ∧ r = HT.lexLt (k p.1) (k q.1)) (fun _ _ => False) s
  generalize k p.1 = x at hi ⊢
  generalize k q.1 = y at hi' ⊢
  rw [e, e']
  exact PySem.W.kat_lt ho hd ho' hd' (kat_ints hi hi' 0 _ (by rw [Array.length_toList, Array.length_toList]) ⟨rfl, rfl⟩)
theorem firsts_tup {h : Heap} : ∀ {vs : List Value}, (∀ v ∈ vs, ∃ x p, IsTupI h v (x :: p)) → ∃ fs : List Value, PySem.W.KatTups h vs fs ∧ fs.length = vs.length ∧ ∀ f ∈ fs, ∃ x t, f = Value.int x t
  | [], _ => ⟨[], PySem.W.KatTups.nil, rfl, fun _ hm => by simp at hm⟩
  | v :: vs, hp => by
    obtain ⟨fs, h1, h2, h3⟩ := firsts_tup (vs := vs) fun v' hm => hp v' (List.mem_cons_of_mem _ hm)
    obtain ⟨x, p, a, o, its, n, e, ho, hc, hd, hi⟩ := hp v (List.mem_cons_self ..)
    subst e
    cases hl : its.toList with
    | nil =>
      rw [hl] at hi
      cases hi
    | cons f r =>
      rw [hl] at hi
      cases hi with
      | cons _ t hr =>
        refine ⟨.int x t :: fs, PySem.W.KatTups.cons ho hc hd (by rw [← Array.getElem?_toList, hl]; rfl) h1, by rw [List.length_cons, List.length_cons, h2], fun g hg => ?_⟩
        rcases List.mem_cons.mp hg with rfl | hg
        · exact ⟨x, t, rfl⟩
        · exact h3 g hg
theorem tups_sortable {a : Addr} {vs : List Value} {k : Value → List Int} (h0 : 0 < vs.length) (hp : ∀ v ∈ vs, IsTupI s.heap v (k v)) (hne : ∀ v ∈ vs, k v ≠ []) (ha : ∀ o, s.heap.get? a = some o → o.cls ≠ .type "tuple") : SrtO.SortableO prog w A s a vs fun v u => HT.lexLt (k v) (k u) := by
  intro h' keep
  have hp' : ∀ v ∈ vs, IsTupI h' v (k v) := fun v hm => (hp v hm).keeps fun b o e c => keep b o (fun z => by subst z; exact ha o e c) e
  obtain ⟨fs, h1, h2, h3⟩ := firsts_tup fun v hm => by
    have x := hp' v hm
    cases e : k v with
    | nil => exact absurd e (hne v hm)
    | cons y p =>
      rw [e] at x
      exact ⟨y, p, x⟩
  refine ⟨tuples' true, fun Q E hq => ?_, tup_cmp hp'⟩
  have e0 : (Value.type "int" != Value.type "tuple") = true := by decide +kernel
  refine PySem.W.kat_kind (T := .type "int") h1 (by rw [h2]; exact h0) (fun g hg => ?_) rfl (by rw [e0]; exact hq)
  obtain ⟨x, t, rfl⟩ := h3 g hg
  exact PySem.W.Looks.now
end
/-! ### as rules of the layer -/
def unInt : V → Int
  | .int i => i
  | _ => 0
def unRef : Value → Addr
  | .ref a => a
  | _ => 0
/-- the ints of the tuple at b -/
def keyOf (H : Hp) (b : Addr) : List Int := match H b with
  | some (.tup xs) => xs.map unInt
  | _ => []
theorem keyOf_at {H : Hp} {b : Addr} {q : List Int} (h : H b = some (.tup (q.map V.int))) : keyOf H b = q := by
  unfold keyOf
  rw [h]
  show (q.map V.int).map unInt = q
  rw [List.map_map]
  have e : unInt ∘ V.int = id := rfl
  rw [e, List.map_id]
theorem unRef_map : ∀ {us : List Value} {ts : List Addr}, us = ts.map Value.ref → us.map unRef = ts
  | _, ts, rfl => by
    rw [List.map_map]
    have e : unRef ∘ Value.ref = id := rfl
    rw [e, List.map_id]
theorem ref_map : ∀ {us : List Value} {ts : List Addr}, (∀ u ∈ us, u ∈ ts.map Value.ref) → us = (us.map unRef).map Value.ref
  | [], _, _ => rfl
  | u :: us, ts, h => by
    obtain ⟨t, _, e⟩ := List.mem_map.mp (h u (List.mem_cons_self ..))
    subst e
    show _ = Value.ref t :: (us.map unRef).map Value.ref
    rw [← ref_map (ts := ts) fun v hv => h v (List.mem_cons_of_mem _ hv)]
section
variable {X : Cx}
theorem tupI_of {pins : List (Addr × Obj)} {s : Shared} {σ : L2.St} {H : Hp} (I : L2.Inv X pins σ H s) {t : Addr} {q : List Int} (ht : H t = some (.tup (q.map V.int))) : IsTupI s.heap (.ref t) (keyOf H t) := by
  rw [keyOf_at ht]
  obtain ⟨_, its2, r2, o, ho, hc, n, hd⟩ := I.hok _ _ ht
  exact ⟨t, o, _, n, rfl, ho, hc, hd, r2.ints⟩
/-- sorted(xs), a list of tuples of ints: rising -/
def rSortTI (K : PySem.W.Frag) : List V → Hp → VK → Prop := fun vs H Q => ∃ (a : Addr) (ts : List Addr), vs = [V.ref a] ∧ SqL K H a (ts.map V.ref) ∧ (∀ t ∈ ts, ∃ q : List Int, H t = some (.tup (q.map V.int))) ∧ (2 ≤ ts.length → ∀ t ∈ ts, keyOf H t ≠ []) ∧
  ∀ (ts' : List Addr) (p : Addr), ts'.Perm ts → ts'.Pairwise (fun x y => HT.lexLt (keyOf H y) (keyOf H x) = false) → H p = none → Q (.ref p) (upd H p (.lst (ts'.map V.ref)))
theorem cr_sortTI {K : PySem.W.Frag} (hK : X.K = K := by rfl) : CallR X (.builtin "sorted") (rSortTI K) := by
  subst hK
  intro pins s σ H vs us Q I r h
  obtain ⟨a, ts, rfl, hs, hx, hne, q⟩ := h
  obtain ⟨its, rv, hl, hz⟩ := I.list hs
  obtain ⟨u, rfl, ru⟩ := vals1 r
  obtain rfl : u = Value.ref a := ru
  have ei := refs_at rv
  have lz : its.length ≤ sizeLine := by
    rw [← rv.length]
    exact hz
  have hk : ∀ (h₁ : Heap), (∀ b o, s.heap.get? b = some o → h₁.get? b = some o) → ∀ v ∈ its, IsTupI h₁ v (keyOf H (unRef v)) := fun h₁ kk v hv => by
    rw [ei] at hv
    obtain ⟨t, ht, rfl⟩ := List.mem_map.mp hv
    obtain ⟨q', hq'⟩ := hx t ht
    exact (tupI_of I hq').keeps fun b o e _ => kk b o e
  refine SrtO.sorted_ord (NtL.swo_lexL fun v => keyOf H (unRef v)) hl.isList lz (fun h2 h₁ a' ha kk => ?_) fun out hs hb => ?_
  · refine tups_sortable (s := { s with heap := h₁ }) (by omega) (hk h₁ fun b o e => (kk b o e).2) (fun v hv => ?_) fun o e => ?_
    · rw [ei] at hv h2
      obtain ⟨t, ht, rfl⟩ := List.mem_map.mp hv
      rw [List.length_map] at h2
      exact hne h2 t ht
    · have e' : some o = some (seqObj "list" its.toArray 0) := e.symm.trans ha
      cases e'
      intro c
      exact absurd (Value.type.inj c) (by decide)
  · have hm : ∀ u ∈ out, u ∈ ts.map Value.ref := fun u hu => by
      rw [← ei]
      exact hb.perm.mem_iff.mp hu
    have eo := ref_map hm
    have hp : (out.map unRef).Perm ts := by
      have z := hb.perm.map unRef
      rw [unRef_map ei] at z
      exact z
    obtain ⟨n, hn⟩ := PyProof.Rows.sortedAll_at s.heap its out.toArray
    refine ⟨.ref (s.heap.objs.size + 1), upd H (s.heap.objs.size + 1) (.lst ((out.map unRef).map V.ref)), I.laid (t' := s.toks) (fun b o e => PyProof.Rows.sortedAll_old e) (Nat.le_succ _) ⟨?_, out, n, ?_, hn⟩, rfl, q _ _ hp (List.pairwise_map.mpr hs) (I.hok.fresh (Nat.le_succ _))⟩
    · rw [List.length_map, hp.length_eq, ← List.length_map (f := V.ref)]
      exact hz
    · have z := vals_refs (out.map unRef)
      rw [← eo] at z
      exact z
/-- the key tuples of a dict, as they are collected -/
theorem acc_keys {P : Program} {w : World} {es : Array DictEntry} {ks : List (List Key × Addr × Value)} {acc : Array Value} (he : es.toList = ks.map (entryOfKey (tupleKind (mixKind P w)))) (it : ItemsOf (fun i v => ∃ en : DictEntry, es[i]? = some en ∧ v = en.key) acc es.size) :
    acc.toList = (ks.map fun x => x.2.1).map Value.ref := by
  have l1 : es.size = ks.length := size_of_entries he
  apply List.ext_getElem?
  intro j
  rw [List.getElem?_map, List.getElem?_map]
  cases hj : acc.toList[j]? with
  | none =>
    have h1 := List.getElem?_eq_none_iff.mp hj
    rw [Array.length_toList, it.1] at h1
    rw [List.getElem?_eq_none (show ks.length ≤ j by omega)]
    rfl
  | some v =>
    obtain ⟨en, hen, hv⟩ := it.2 j v (by rw [← Array.getElem?_toList]; exact hj)
    have qe := entry_at he j
    rw [hen] at qe
    cases hb : ks[j]? with
    | none =>
      rw [hb] at qe
      cases qe
    | some b =>
      rw [hb] at qe
      have e2 := Option.some.inj qe
      rw [hv, e2]
      rfl
/-- the keys of a dict, tuples of ints -/
def KeysI (kvs : List (List Key × V)) (ps : List (List Int)) : Prop := kvs.map (·.1) = ps.map (List.map Sum.inl)
/-- sorted(d, reverse=True), a dict whose keys are tuples of ints: falling -/
def rSortDT : List V → List V → Hp → VK → Prop := fun vs zs H Q => ∃ (d : Addr) (kvs : List (List Key × V)) (ps : List (List Int)), vs = [V.ref d] ∧ zs = [.bl true] ∧ Rd H d (.dT kvs) ∧ KeysI kvs ps ∧ (2 ≤ ps.length → ∀ q ∈ ps, q ≠ []) ∧
  ∀ (bs : List Addr) (p : Addr), (∀ b ∈ bs, ∃ q : List Int, H b = some (.tup (q.map V.int))) → (bs.map (keyOf H)).Perm ps → bs.Pairwise (fun x y => HT.lexLt (keyOf H x) (keyOf H y) = false) → H p = none → Q (.ref p) (upd H p (.lst (bs.map V.ref)))
theorem keys_kt {H : Hp} : ∀ {kvs : List (List Key × V)} {ks : List (List Key × Addr × Value)} {ps : List (List Int)}, KT H kvs ks → KeysI kvs ps → (∀ b ∈ ks.map (fun x => x.2.1), ∃ q : List Int, H b = some (.tup (q.map V.int))) ∧ (ks.map fun x => x.2.1).map (keyOf H) = ps
  | _, _, ps, .nil, h => by
    cases ps with
    | nil => exact ⟨fun b hb => by simp at hb, rfl⟩
    | cons q ps => cases h
  | _, _, ps, .cons (a := kv) (b := x) hx t, h => by
    cases ps with
    | nil => cases h
    | cons q ps =>
      have h' : kv.1 :: _ = q.map Sum.inl :: ps.map (List.map Sum.inl) := h
      obtain ⟨e1, e2⟩ := List.cons.inj h'
      obtain ⟨i1, i2⟩ := keys_kt t e2
      have hq : H x.2.1 = some (.tup (q.map V.int)) := by
        rw [hx.2.1, e1, List.map_map]
        rfl
      refine ⟨fun b hb => ?_, ?_⟩
      · rcases List.mem_cons.mp hb with rfl | hb
        · exact ⟨q, hq⟩
        · exact i1 b hb
      · show keyOf H x.2.1 :: _ = q :: ps
        rw [keyOf_at hq, i2]
theorem cr_sortDT (hc : X.calm = true) : CallRK X (.builtin "sorted") [Str.ofString "reverse"] rSortDT := by
  intro pins s σ H vs zs us ws Q I r rz h
  obtain ⟨d, kvs, ps, rfl, rfl, hd, hK, hne, q⟩ := h
  obtain rfl := Vals.ref1 r
  obtain ⟨w1, rfl, e1⟩ := vals1 rz
  obtain rfl : w1 = Value.bool true := e1
  obtain ⟨z, hs, ks, pr, o, es, ep, ho, hx, hdt, he, hn⟩ := (show ObjOk X.prog X.w H s.heap d (.dT kvs) from hd.ok I.hok)
  have l1 : es.size = ks.length := size_of_entries he
  have l2 : kvs.length = ks.length := Paired.length pr
  obtain ⟨k1, k2⟩ := keys_kt pr hK
  have l3 : ks.length = ps.length := by
    rw [← k2, List.length_map, List.length_map]
  show wpAny (model X.prog X.w) X.A (call (.builtin "sorted") [.ref d] [(Str.ofString "reverse", .bool true)]) _ _ _
  refine PyProof.Rows.call_function_entry_kw PyProof.Rows.kind_sorted PyProof.Rows.plain_sorted PyProof.Rows.entry_sorted (PyProof.Rows.args_sorted_rev _ _) ?_
  unfold Builtin.«sorted»
  refine wpAny_bind (m := checkCount "sorted" 1 1 _) (wpAny_pure ?_)
  refine wpAny_bind (PySem.W.kdu_collect (A := X.A.in1) (kdl_raw hs hx hdt) (I.ok.hd hc) ho (by omega) fun h' tk acc hk hacc => ?_)
  have ea := acc_keys he hacc
  generalize (ks.map fun x => x.2.1) = ts at ea k1 k2
  have I1 : Inv X pins σ H { s with heap := h', toks := tk } := I.kept hk
  have lts : ts.length = ps.length := by
    rw [← k2, List.length_map]
  have lz : acc.toList.length ≤ sizeLine := by
    rw [ea, List.length_map]
    omega
  refine wpAny_bind (wpAny_newList ?_ lz)
  have hoL : (h'.push (seqObj "list" acc.toList.toArray 0)).get? h'.objs.size = some (seqObj "list" acc.toList.toArray 0) := Heap.get?_push_size _ rfl
  show wpAny _ _ _ _ _ { s with heap := h'.push (seqObj "list" acc.toList.toArray 0), toks := tk }
  have kp : ∀ b o, h'.get? b = some o → b ≠ h'.objs.size ∧ (h'.push (seqObj "list" acc.toList.toArray 0)).get? b = some o := fun b o e => ⟨Nat.ne_of_lt (Heap.lt_size e), Heap.get?_push_of_some _ e⟩
  refine wpAny_bind (wpAny_holding (wpAny_call_entry_kw PyProof.Rows.slot_list_sort ⟨_, hoL, rfl⟩ PyProof.Rows.entry_list_sort (SrtR.list_sort_ordR (b := true) (s := { s with heap := h'.push (seqObj "list" acc.toList.toArray 0), toks := tk }) (NtL.swo_lexL fun v => keyOf H (unRef v)) hoL lz (fun h2 => ?_) fun out g1 g2 => ⟨_, rfl, ?_⟩) (PyProof.Rows.args_list_sort_rev _ _)))
  · refine tups_sortable (s := { s with heap := h'.push (seqObj "list" acc.toList.toArray 0), toks := tk }) (by omega) (fun v hv => ?_) (fun v hv => ?_) fun o e => ?_
    · rw [ea] at hv
      obtain ⟨t, ht, rfl⟩ := List.mem_map.mp hv
      obtain ⟨q', hq'⟩ := k1 t ht
      exact (tupI_of I1 hq').keeps fun b o e _ => (kp b o e).2
    · rw [ea] at hv
      obtain ⟨t, ht, rfl⟩ := List.mem_map.mp hv
      rw [ea, List.length_map, lts] at h2
      refine hne h2 _ ?_
      rw [← k2]
      exact List.mem_map.mpr ⟨t, ht, rfl⟩
    · have e' : some o = some (seqObj "list" acc.toList.toArray 0) := e.symm.trans hoL
      cases e'
      intro c
      exact absurd (Value.type.inj c) (by decide)
  · rw [if_pos rfl] at g2
    have hm : ∀ u ∈ out, u ∈ ts.map Value.ref := fun u hu => by
      rw [← ea]
      exact List.mem_reverse.mp (g2.perm.mem_iff.mp hu)
    have eo := ref_map hm
    have hp : (out.map unRef).Perm ts := by
      have z := (g2.perm.trans (List.reverse_perm _)).map unRef
      rw [unRef_map ea] at z
      exact z
    obtain ⟨n, hn'⟩ := PyProof.Rows.sortedHeap_at (vs := acc.toList) (out := out.toArray.reverse) hoL
    have er : (out.toArray.reverse) = (out.reverse).toArray := by simp
    refine wpAny_pure ⟨_, rfl, .ref h'.objs.size, upd H h'.objs.size (.lst ((out.map unRef).reverse.map V.ref)), I1.laid (t' := tk) (fun b u e => ?_) (Nat.le_refl _) ⟨?_, out.reverse, n, ?_, ?_⟩, rfl, q _ _ (fun b hb => k1 b (hp.mem_iff.mp (List.mem_reverse.mp hb))) ?_ ?_ (I1.hok.fresh (Nat.le_refl _))⟩
    · have hb : b < h'.objs.size := Heap.lt_size e
      rw [if_pos rfl, PyProof.Rows.sortedHeap_old (Nat.ne_of_lt hb) (by rw [size_push']; exact Nat.lt_succ_of_lt hb)]
      exact Heap.get?_push_of_some _ e
    · rw [List.length_map, List.length_reverse, hp.length_eq]
      omega
    · have z := vals_refs (out.map unRef).reverse
      rw [List.map_reverse, List.map_reverse, ← eo] at z
      rw [List.map_reverse]
      exact z
    · rw [if_pos rfl, ← er]
      exact hn'
    · rw [← k2]
      exact ((List.reverse_perm _).trans hp).map (keyOf H)
    · rw [List.pairwise_reverse]
      exact List.pairwise_map.mpr g1
end
end Bw
set_option Elab.async false
set_option linter.all false
set_option maxRecDepth 100000
set_option maxHeartbeats 4000000
namespace Bw
open PySem PySem.Spec PyProof.Rows L2
def mergeT (kvs more : List (List Key × V)) : List (List Key × V) := more.foldl (fun acc kv => putK acc kv.1 kv.2) kvs
/-- dict(xs), a list of pairs (key, value), the keys tuples: later ones win, at the first one's place -/
def rDictPT (K : PySem.W.Frag) : List V → Hp → VK → Prop := fun vs H Q => ∃ (a : Addr) (ts : List Addr) (its : List (List Key × Addr × V)), vs = [V.ref a] ∧ SqL K H a (ts.map V.ref) ∧
  Paired (fun t (x : List Key × Addr × V) => H t = some (.tup [.ref x.2.1, x.2.2]) ∧ H x.2.1 = some (.tup (x.1.map kV))) ts its ∧ ∀ p, H p = none → Q (.ref p) (upd H p (.dT (mergeT [] (its.map fun x => (x.1, x.2.2)))))
section
variable {X : Cx} {pins : List (Addr × Obj)} {s : Shared} {σ : L2.St} {H : Hp}
theorem pairsT_of (I : L2.Inv X pins σ H s) : ∀ {ts : List Addr} {its : List (List Key × Addr × V)}, Paired (fun t (x : List Key × Addr × V) => H t = some (.tup [.ref x.2.1, x.2.2]) ∧ H x.2.1 = some (.tup (x.1.map kV))) ts its →
    ∃ ps : List (List Key × Addr × Value), Paired (fun (x : List Key × Addr × V) (q : List Key × Addr × Value) => x.1 = q.1 ∧ H q.2.1 = some (.tup (q.1.map kV)) ∧ RelV x.2.2 q.2.2) its ps ∧ ps.length = ts.length ∧
      ∀ (j : Nat) (q : List Key × Addr × Value), ps[j]? = some q → ∃ t, ts[j]? = some t ∧ s.heap.IsTuple t #[.ref q.2.1, q.2.2]
  | _, _, .nil => ⟨[], .nil, rfl, fun j q e => by simp at e⟩
  | _, _, .cons (a := t) (b := x) h r => by
    obtain ⟨ps, r1, hl, hp⟩ := pairsT_of I r
    obtain ⟨_, us, rv, hT⟩ := I.hok _ _ h.1
    obtain ⟨u1, u2, rfl, e1, e2⟩ := vals2 rv
    obtain rfl : u1 = Value.ref x.2.1 := e1
    refine ⟨(x.1, x.2.1, u2) :: ps, .cons ⟨rfl, h.2, e2⟩ r1, by rw [List.length_cons, List.length_cons, hl], fun j q e => ?_⟩
    cases j with
    | zero =>
      cases (Option.some.inj e)
      exact ⟨t, rfl, hT⟩
    | succ j => exact hp j q e
theorem kt_merge {H' : Hp} : ∀ {its : List (List Key × Addr × V)} {ps : List (List Key × Addr × Value)} {kvs : List (List Key × V)} {xs : List (List Key × Addr × Value)}, Paired (fun (x : List Key × Addr × V) (q : List Key × Addr × Value) => x.1 = q.1 ∧ H' q.2.1 = some (.tup (q.1.map kV)) ∧ RelV x.2.2 q.2.2) its ps → KT H' kvs xs →
    KT H' (mergeT kvs (its.map fun x => (x.1, x.2.2))) (storedAllH xs ps)
  | _, _, _, _, .nil, k => k
  | _, _, kvs, xs, .cons (a := x) (b := q) h r, k => by
    have z := KT.put k q.1 h.2.1 h.2.2
    rw [← h.1] at z
    have z2 := kt_merge (kvs := putK kvs x.1 x.2.2) (xs := storedH xs x.1 q.2.1 q.2.2) r z
    show KT H' (mergeT (putK kvs x.1 x.2.2) _) (storedAllH (storedH xs q.1 q.2.1 q.2.2) _)
    rw [← h.1]
    exact z2
theorem putT_len (kvs : List (List Key × V)) (k : List Key) (v : V) : (putK kvs k v).length ≤ kvs.length + 1 := length_putK kvs k v
theorem mergeT_len : ∀ (more kvs : List (List Key × V)), (mergeT kvs more).length ≤ kvs.length + more.length
  | [], kvs => Nat.le_refl _
  | m :: more, kvs => by
    show (mergeT (putK kvs m.1 m.2) more).length ≤ _
    have h1 := mergeT_len more (putK kvs m.1 m.2)
    have h2 := putT_len kvs m.1 m.2
    rw [List.length_cons]
    omega
end
theorem cr_dictPT {X : Cx} {K : PySem.W.Frag} (hc : X.calm = true) (hu : X.A.units + 64 < cLine) (hK : X.K = K := by rfl) : CallR X (.type "dict") (rDictPT K) := by
  subst hK
  intro pins s σ H vs us Q I r h
  obtain ⟨a, ts, its, rfl, hs, hp, q⟩ := h
  obtain ⟨vs, rv, hl, hz⟩ := I.list hs
  obtain ⟨u, rfl, ru⟩ := vals1 r
  obtain rfl : u = Value.ref a := ru
  have ei := refs_at rv
  obtain ⟨o, n, ho, hcl, hd, hdat⟩ := hl
  obtain ⟨ps, r1, lp, hpt⟩ := pairsT_of I hp
  have lts : ts.length ≤ sizeLine := by
    rw [List.length_map] at hz
    exact hz
  let vps : List (Value × Value) := ps.map fun q => (Value.ref q.2.1, q.2.2)
  have lv : vps.length = ts.length := by
    show (ps.map _).length = _
    rw [List.length_map, lp]
  have hkey : ∀ x ∈ ps, H x.2.1 = some (.tup (x.1.map kV)) := by
    clear hpt lp lv vps hp q
    induction r1 with
    | nil => intro x hx; simp at hx
    | cons h t ih =>
      intro x hx
      rcases List.mem_cons.mp hx with rfl | hx
      · exact h.2.1
      · exact ih x hx
  refine call_dict_pairsH (knd := tupleKind (mixKind X.prog X.w)) (ps := ps) (PairArg.list a vs.toArray (fun j => (ts[j]?).getD 0) vps) (I.ok.hd hc) (show (X.A.in1.in1).units < cLine from ?_) ⟨⟨o, n, ho, hcl, hd, hdat⟩, ?_, fun j k v e => ?_⟩ ⟨by rw [lv, lp], fun i key v e => ?_⟩ (fun h' hk x hx => ?_) (by rw [lv]; exact lts) fun h' tk hd' hk => ?_
  · show X.A.units + 1 + 1 < cLine
    omega
  · rw [List.size_toArray, ei, List.length_map, lv]
  · obtain ⟨x, ex, e2⟩ : ∃ x, ps[j]? = some x ∧ (Value.ref x.2.1, x.2.2) = (k, v) := by
      have e' : (ps.map fun q => (Value.ref q.2.1, q.2.2))[j]? = some (k, v) := e
      rw [List.getElem?_map] at e'
      cases hx : ps[j]? with
      | none =>
        rw [hx] at e'
        cases e'
      | some x =>
        rw [hx] at e'
        exact ⟨x, rfl, Option.some.inj e'⟩
    cases e2
    obtain ⟨t, et, hT⟩ := hpt j x ex
    have eg : (ts[j]?).getD 0 = t := by
      rw [et]
      rfl
    refine ⟨?_, .inl ?_⟩
    · show vs.toArray[j]? = some (Value.ref ((ts[j]?).getD 0))
      rw [eg, ei, List.getElem?_toArray, List.getElem?_map, et]
      rfl
    · show s.heap.IsTuple ((ts[j]?).getD 0) _
      rw [eg]
      exact hT
  · have e' : (ps.map fun q => (Value.ref q.2.1, q.2.2))[i]? = some (key, v) := e
    rw [List.getElem?_map] at e'
    cases hx : ps[i]? with
    | none =>
      rw [hx] at e'
      cases e'
    | some x =>
      rw [hx] at e'
      cases (Option.some.inj e')
      exact ⟨x.1, x.2.1, rfl, rfl⟩
  · have hb := key_of I.hok (hkey x hx)
    obtain ⟨ob, items, m, h1, h2, h3, h4⟩ := hb
    exact ⟨ob, items, m, hk _ _ (Nat.ne_of_lt (Heap.lt_size h1)) (by simp) h1, h2, h3, h4⟩
  · have hm : (s.heap.objs.size == sysModules) = false := beq_eq_false_iff_ne.mpr (Nat.ne_of_gt I.big)
    obtain ⟨q', es, ep, hq, h2, h3, h4, _, h5⟩ := hd'
    have hlen : (mergeT [] (its.map fun x => (x.1, x.2.2))).length ≤ sizeLine := by
      have z := mergeT_len (its.map fun x => (x.1, x.2.2)) []
      rw [List.length_map, List.length_nil, ← Paired.length hp] at z
      omega
    have hf : H s.heap.objs.size = none := I.hok.fresh (Nat.le_refl _)
    refine ⟨.ref s.heap.objs.size, upd H s.heap.objs.size (.dT (mergeT [] (its.map fun x => (x.1, x.2.2)))), I.laid (t' := tk) (fun b o e => hk b o (by simp) e) (Nat.le_refl _) ⟨hlen, hm, storedAllH [] ps, (kt_merge r1 .nil).keeps fun b ys hb => ?_, q', es, ep, hq, h2, h3, h4, h5⟩, rfl, q _ hf⟩
    rw [upd_ne (ne_of_none hb hf)]
    exact hb
end Bw
set_option Elab.async false
set_option linter.all false
set_option maxRecDepth 100000
namespace Bw
open PySem PySem.Spec PyProof.Rows L2
/-! ### a def that may be called, by its name -/
structure Cal (P : Program) (w : World) (K : PySem.W.Frag) (mg : Str → Option Value) (base : Heap) (CX : CXT) (k : Nat) (x : Str) (ps : List Str) (sp : Sp) : Prop where
  ex : ∃ (f : Addr) (fd : FuncData), FnOk P w K mg base CX k f fd ps sp ∧ mg x = some (.ref f) ∧ PySem.W.keepIn K (.ref f) = true ∧ Binds K fd ps []
section
variable {X : Cx} {x : Str} {ps : List Str} {sp : Sp} {k : Nat} {e : Expr} {es : List Expr} {p pos : Pos} {t : TA}
theorem pe_cal (C : Cal X.prog X.w X.K X.mg X.base CX0 k x ps sp) (hr : Room k X.A) (hg : Gl X x) (ha : PA X (e :: es) t) (hdb : (x == ("__debug__" : Str)) = false := by decide) (he : starEach (e :: es) X.env = (false, eval e X.env) :: starEach es X.env := by rfl)
    (hpl : (backTo pos (starEach es X.env)).any (·.1) = false := by rfl) : PE X (.Call (.Name x p) (e :: es) [] pos) (tCall sp [] E0 t) := by
  obtain ⟨f, fd, F, hm, hk, hb⟩ := C.ex
  exact pe_call F hr hg hm hk hb .nil pass0 ha hdb he hpl
end
/-! ### the rules with the written part named: within comprehensions the reading must not hang on the block -/
section
variable {X : Cx} {K : PySem.W.Frag}
def rTupOf (K : PySem.W.Frag) : List V → Hp → VK → Prop := fun xs H Q => ∃ p ys, xs = [V.ref p] ∧ ((SqL K H p ys ∧ ∀ l, H l = none → Q (.ref l) (upd H l (.tup ys))) ∨ (SqT K H p ys ∧ Q (.ref p) H))
def rLstOf (K : PySem.W.Frag) : List V → Hp → VK → Prop := fun xs H Q => ∃ p ys, xs = [V.ref p] ∧ (SqL K H p ys ∨ SqT K H p ys) ∧ ∀ l, H l = none → Q (.ref l) (upd H l (.lst ys))
def rLenOf (K : PySem.W.Frag) : List V → Hp → VK → Prop := fun xs H Q => ∃ p ys, xs = [V.ref p] ∧ (SqL K H p ys ∨ SqT K H p ys) ∧ Q (.int ys.length) H
theorem c_tup (h : X.K = K := by rfl) : CallR X (.type "tuple") (rTupOf K) := by
  subst h
  exact call_tuple_of
theorem c_lst (h : X.K = K := by rfl) : CallR X (.type "list") (rLstOf K) := by
  subst h
  exact call_list_of
theorem c_len (h : X.K = K := by rfl) : CallR X (.builtin "len") (rLenOf K) := by
  subst h
  exact call_len_seq
theorem c_isi (h : X.K = K := by rfl) : CallR X (.builtin "isinstance") (rIsi K) := by
  subst h
  exact call_isi
theorem c_isiT (h : X.K = K := by rfl) : CallR X (.builtin "isinstance") (rIsiT K) := by
  subst h
  exact call_isiT
theorem c_all (hc : X.calm = true) (h : X.K = K := by rfl) : CallR X (.builtin "all") (rAll K) := by
  subst h
  exact cr_all hc
theorem c_any (hc : X.calm = true) (h : X.K = K := by rfl) : CallR X (.builtin "any") (rAny K) := by
  subst h
  exact cr_any hc
theorem i_list (h : X.K = K := by rfl) : IxR X (rIxL K) := by
  subst h
  exact ix_list
theorem i_tup (h : X.K = K := by rfl) : IxR X (rIxT K) := by
  subst h
  exact ix_tup
theorem l_list (h : X.K = K := by rfl) : SlR X (rSlL K) := by
  subst h
  exact sl_list
theorem l_tup (h : X.K = K := by rfl) : SlR X (rSlA K) := by
  subst h
  exact sl_tupA
theorem o_cat (h : X.K = K := by rfl) : OpR X (binaryOp .Add) (rCatA K) := by
  subst h
  exact op_catA
theorem o_in (h : X.K = K := by rfl) : OpR X (compareOp .In) (rIn K false) := by
  subst h
  exact op_in_seq
theorem o_notin (h : X.K = K := by rfl) : OpR X (compareOp .NotIn) (rIn K true) := by
  subst h
  exact op_notIn_seq
theorem p_list {tg l : Expr} {tl : TE} (hl : PE X l tl) (h : X.K = K := by rfl) : PI X tg l (iList K tl) := by
  subst h
  exact pi_list hl
theorem p_tup {tg l : Expr} {tl : TE} (hl : PE X l tl) (h : X.K = K := by rfl) : PI X tg l (iTup K tl) := by
  subst h
  exact pi_tup hl
theorem g_tup {es : List Expr} {k : Nat} {t : TGs} {n : Nat} {pos : Pos} (hc : X.calm = true) (h : PGs X es t) (hn : (assignEach es X.env).length = n := by rfl) (hst : (assignEach es X.env).findIdx? (·.1) = none := by rfl) (hK : X.K = K := by rfl) : PG X (.Tuple es k pos) (gTup K n t) := by
  subst hK
  exact pg_tup hc h hn hst
theorem pe_gint {x : Str} {pos : Pos} {i : Int} (hg : Gl X x) (hm : ∃ t, X.mg x = some (.int i t)) (hdb : (x == ("__debug__" : Str)) = false := by decide) : PE X (.Name x pos) (tC (.int i)) := by
  obtain ⟨t, hm⟩ := hm
  exact pe_glob hg hm ⟨t, rfl⟩ (hd := hdb)
end
/-! ### heaps -/
theorem same_upd {H : Hp} {p : Addr} {o : HO} (h : H p = none) : Same H (upd H p o) := fun b x e => by
  rw [upd_ne (ne_of_none e h)]
  exact e
/-- all but what stands at f is as it was -/
def SameBut (f : Addr) (H H' : Hp) : Prop := ∀ b o, b ≠ f → H b = some o → H' b = some o
theorem SameBut.refl (f : Addr) (H : Hp) : SameBut f H H := fun _ _ _ h => h
theorem SameBut.trans {f : Addr} {H H1 H2 : Hp} (a : SameBut f H H1) (b : SameBut f H1 H2) : SameBut f H H2 := fun c o n h => b c o n (a c o n h)
theorem SameBut.upd {f : Addr} {H H1 : Hp} {o : HO} (a : SameBut f H H1) : SameBut f H (upd H1 f o) := fun c o n h => by
  rw [upd_ne n]
  exact a c o n h
theorem SameBut.new {f p : Addr} {H H1 : Hp} {o : HO} (a : SameBut f H H1) (h : H1 p = none) : SameBut f H (L2.upd H1 p o) := fun c o n q => by
  have z := a c o n q
  rw [upd_ne (ne_of_none z h)]
  exact z
theorem _root_.L2.Same.but {f : Addr} {H H1 : Hp} (a : Same H H1) : SameBut f H H1 := fun c o _ h => a c o h
theorem SameBut.same {f : Addr} {H0 H H1 : Hp} (a : SameBut f H H1) (h : H0 f = none) (s : Same H0 H) : Same H0 H1 := fun c o q => a c o (ne_of_none q h) (s c o q)
/-! ### what the law draws from -/
def FeedAt (H : Hp) (f l : Addr) : Prop := ∃ (ns : List Int) (i : Nat) (n m c : Int), l ≠ f ∧ H f = some (.lst [.ref l, .int i, .int n, .int m, .int c]) ∧ H l = some (.lst (ns.map V.int)) ∧ i ≤ ns.length ∧ 0 ≤ n ∧ 0 ≤ m ∧ m < 2147483647
theorem FeedAt.same {H H' : Hp} {f l : Addr} (s : Same H H') (h : FeedAt H f l) : FeedAt H' f l := by
  obtain ⟨ns, i, n, m, c, a, b, d, r⟩ := h
  exact ⟨ns, i, n, m, c, a, s _ _ b, s _ _ d, r⟩
theorem FeedAt.put {H : Hp} {f l b : Addr} {o : HO} (h : FeedAt H f l) (n1 : b ≠ f) (n2 : b ≠ l) : FeedAt (upd H b o) f l := by
  obtain ⟨ns, i, n, m, c, a, b', d, r⟩ := h
  exact ⟨ns, i, n, m, c, a, by rw [upd_ne (Ne.symm n1)]; exact b', by rw [upd_ne (Ne.symm n2)]; exact d, r⟩
theorem FeedAt.ne {H : Hp} {f l p : Addr} (h : FeedAt H f l) (n : H p = none) : p ≠ f := by
  obtain ⟨_, _, _, _, _, _, b, _⟩ := h
  exact Ne.symm (ne_of_none b n)
theorem FeedAt.ne2 {H : Hp} {f l p : Addr} (h : FeedAt H f l) (n : H p = none) : p ≠ l := by
  obtain ⟨_, _, _, _, _, _, _, d, _⟩ := h
  exact Ne.symm (ne_of_none d n)
theorem FeedAt.tup {H : Hp} {f l p : Addr} {xs : List V} (h : FeedAt H f l) (n : H p = some (.tup xs)) : p ≠ f := by
  obtain ⟨_, _, _, _, _, _, b, _⟩ := h
  exact ne_of n b (by intro z; cases z)
theorem SameBut.updN {f b : Addr} {H H1 : Hp} {o : HO} (a : SameBut f H H1) (h : H b = none) : SameBut f H (L2.upd H1 b o) := fun c o n q => by
  rw [upd_ne (ne_of_none q h)]
  exact a c o n q
theorem int_at {ns : List Int} {i : Nat} {y : V} (h : (ns.map V.int)[i]? = some y) : ∃ u, ns[i]? = some u ∧ y = .int u := by
  rw [List.getElem?_map] at h
  cases e : ns[i]? with
  | none =>
    rw [e] at h
    cases h
  | some u =>
    rw [e] at h
    exact ⟨u, rfl, (Option.some.inj h).symm⟩
end Bw
set_option Elab.async false
set_option linter.all false
set_option maxRecDepth 100000
set_option maxHeartbeats 4000000
namespace Bw
open PySem PySem.Spec PyProof.Rows L2
theorem tuple_mul1 (l : Addr) (items : Array Value) (n : Nat) (dd : Option Addr) (sl : Array (Option Value)) (u : Tok) :
    Meets (Builtin.«tuple.__mul__» ⟨[.ref l, .int 1 u], []⟩) (fun _ R s => s.heap.get? l = some { cls := .type "tuple", dict := dd, data := .seq items n, slots := sl } ∧ R (.ok (.ret (Value.ref l))) s) :=
  .of_wp fun prog w A R s h => by
    obtain ⟨hp, g, d, tk, os⟩ := s
    obtain ⟨hl, h⟩ := h
    have f1 := AutoSeq1.idx_int
    have c1 : (items.isEmpty || (1 : Int) == 1) = true := by simp
    wp_walk using wpAny_loadPart' hl
    repeat (first
      | (refine wpAny_ite_true (decide_eq_true c1) ?_; wp_walk using wpAny_loadPart' hl)
      | (refine wpAny_ite_false (by decide) ?_; wp_walk using wpAny_loadPart' hl))
    exact ⟨_, rfl, h⟩
/-- t * k, k from 1 on -/
def rRep1 (K : PySem.W.Frag) : R2 := fun x y H Q => ∃ l k xs, x = .ref l ∧ y = .int k ∧ SqT K H l xs ∧ xs ≠ [] ∧ 1 ≤ k ∧ k ≤ 1000 ∧ xs.length ≤ 1000 ∧ (k = 1 → Q (.ref l) H) ∧ (2 ≤ k → ∀ p, H p = none → Q (.ref p) (upd H p (.tup (List.replicate k.toNat xs).flatten)))
theorem o_rep {X : Cx} {K : PySem.W.Frag} (hK : X.K = K := by rfl) : OpR X (binaryOp .Mult) (rRep1 K) := by
  subst hK
  intro pins s σ H x y v u Q I rx ry h
  obtain ⟨l, k, xs, rfl, rfl, hT, hne, h1, h2, hz, q1, q2⟩ := h
  by_cases hk : k = 1
  · subst hk
    cases rx
    obtain ⟨t, rfl⟩ := ry
    obtain ⟨its, r, ⟨⟨cls, dd, data, sl⟩, ho, hc, n, hd⟩, hs⟩ := I.tuple hT
    simp only at hc hd
    subst hc hd
    refine wpAny_binaryOp_repeat_ref (T := "tuple") (U := "int") (by decide) ⟨_, ho, rfl⟩ (fun s' => typeIs_int s' 1 t) noFill_tuple_mul F.fills_int_mul F.slot_int_rmul repeat_tuple F.slot_int_index.lookup
      (call_meets F.slot_int_rmul (typeIs_int s 1 t) F.entry_int_rmul (F.args_int_rmul_2 _ _) (int_rmul_tuple 1 t l its.toArray n dd sl)
        ⟨ho, rfl, ⟨_, ho, rfl⟩, call_meets F.slot_tuple_mul ⟨_, ho, rfl⟩ F.entry_tuple_mul (F.args_tuple_mul_2 _ _) (tuple_mul1 l its.toArray n dd sl t) ⟨ho, ?_⟩⟩)
    exact ⟨.ref l, H, I, rfl, q1 rfl⟩
  · exact op_repT pins s σ H _ _ v u Q I rx ry ⟨l, k, xs, rfl, rfl, hT, hne, by omega, h2, hz, q2 (by omega)⟩
end Bw
set_option Elab.async false
set_option linter.all false
set_option maxRecDepth 100000
set_option maxHeartbeats 4000000
namespace Bw
open PySem PySem.Spec PyProof.Rows L2
/-! ### t * k, k from 0 on -/
theorem tuple_mul0 (l : Addr) (items : Array Value) (n : Nat) (dd : Option Addr) (sl : Array (Option Value)) (u : Tok) (hne : items.isEmpty = false) :
    Meets (Builtin.«tuple.__mul__» ⟨[.ref l, .int 0 u], []⟩) (fun _ R s => s.heap.get? l = some { cls := .type "tuple", dict := dd, data := .seq items n, slots := sl } ∧ R (.ok (.ret (Value.ref s.heap.objs.size))) { s with heap := s.heap.push { cls := Value.type "tuple", data := Data.seq #[] }, toks := s.toks }) :=
  .of_wp fun prog w A R s h => by
    obtain ⟨hp, g, d, tk, os⟩ := s
    obtain ⟨hl, h⟩ := h
    have f1 := AutoSeq1.idx_int
    have c1 : (items.isEmpty || (0 : Int) == 1) = false := by rw [hne]; rfl
    have c2 : (decide ((0 : Int) ≤ 0) || items.isEmpty) = true := by simp
    wp_walk using wpAny_loadPart' hl
    repeat (first
      | (refine wpAny_ite_true (decide_eq_true c2) ?_; wp_walk using wpAny_loadPart' hl)
      | (refine wpAny_ite_false (by decide) ?_; wp_walk using wpAny_loadPart' hl)
      | (refine wpAny_ite_false (decide_eq_false (by rw [c1]; exact Bool.false_ne_true)) ?_; wp_walk using wpAny_loadPart' hl))
    exact ⟨_, rfl, h⟩
def rRepZ (K : PySem.W.Frag) : R2 := fun x y H Q => ∃ l k xs, x = .ref l ∧ y = .int k ∧ SqT K H l xs ∧ xs ≠ [] ∧ 0 ≤ k ∧ k ≤ 1000 ∧ xs.length ≤ 1000 ∧ (k = 0 → ∀ p, H p = none → Q (.ref p) (upd H p (.tup []))) ∧ (k = 1 → Q (.ref l) H) ∧ (2 ≤ k → ∀ p, H p = none → Q (.ref p) (upd H p (.tup (List.replicate k.toNat xs).flatten)))
theorem o_repZ {X : Cx} {K : PySem.W.Frag} (hK : X.K = K := by rfl) : OpR X (binaryOp .Mult) (rRepZ K) := by
  subst hK
  intro pins s σ H x y v u Q I rx ry h
  obtain ⟨l, k, xs, rfl, rfl, hT, hne, h1, h2, hz, q0, q1, q2⟩ := h
  by_cases hk : k = 0
  · subst hk
    cases rx
    obtain ⟨t, rfl⟩ := ry
    obtain ⟨its, r, ⟨⟨cls, dd, data, sl⟩, ho, hc, n, hd⟩, hs⟩ := I.tuple hT
    simp only at hc hd
    subst hc hd
    have hi : its.toArray.isEmpty = false := by
      cases its with
      | nil =>
        cases r
        exact absurd rfl hne
      | cons a b => rfl
    refine wpAny_binaryOp_repeat_ref (T := "tuple") (U := "int") (by decide) ⟨_, ho, rfl⟩ (fun s' => typeIs_int s' 0 t) noFill_tuple_mul F.fills_int_mul F.slot_int_rmul repeat_tuple F.slot_int_index.lookup
      (call_meets F.slot_int_rmul (typeIs_int s 0 t) F.entry_int_rmul (F.args_int_rmul_2 _ _) (int_rmul_tuple 0 t l its.toArray n dd sl)
        ⟨ho, rfl, ⟨_, ho, rfl⟩, call_meets F.slot_tuple_mul ⟨_, ho, rfl⟩ F.entry_tuple_mul (F.args_tuple_mul_2 _ _) (tuple_mul0 l its.toArray n dd sl t hi) ⟨ho, ?_⟩⟩)
    exact ⟨.ref s.heap.objs.size, _, I.laid (t' := s.toks) (o := .tup []) (fun b ob z => Heap.get?_push_of_some _ z) (Nat.le_refl _) ⟨Nat.zero_le _, [], .nil, IsTup.new _ _⟩, rfl, q0 rfl _ (I.hok.fresh (Nat.le_refl _))⟩
  · exact o_rep (X := X) rfl pins s σ H _ _ v u Q I rx ry ⟨l, k, xs, rfl, rfl, hT, hne, by omega, h2, hz, q1, q2⟩
/-! ### len(x), x == y, x != y of own instances -/
section
variable {X : Cx} {CX : CXT} {C f : Addr} {fd : FuncData} {ps : List Str} {sp : Sp} {n : Nat} {E : XK}
def rLenOwn (C : Addr) (sp : Sp) (E : XK) : List V → Hp → VK → Prop := fun xs H Q => ∃ a dx fs, xs = [V.ref a] ∧ H a = some (.ins C dx fs) ∧ sp [.ref a] H (fun z H' => ∃ i : Int, z = .int i ∧ 0 ≤ i ∧ i < 2 ^ 63 ∧ Q (.int i) H') E
theorem c_lenOwn (hs : PySem.W.findIn X.K (.ref C) "__len__" = some (some (.ref f))) (hf : PySem.W.isFn X.K (.ref f) = true) (F : FnOk X.prog X.w X.K X.mg X.base CX n f fd ps sp) (hr : Room (n + 1) X.A) (hb : Binds X.K fd ps []) (hx : Passes CX X E) : CallR X (.builtin "len") (rLenOwn C sp E) := by
  intro pins s σ H xs us Q I r h
  obtain ⟨a, dx, fs, rfl, ha, q⟩ := h
  obtain ⟨u, rfl, ru⟩ := vals1 r
  obtain rfl : u = Value.ref a := ru
  obtain ⟨mA, J, _⟩ := ins_get I.hok ha
  obtain ⟨od, J, _⟩ := J.look
  obtain ⟨m, hF⟩ := I.fr
  refine PySem.W.len_K hF I.ok.mod.kin J hs hf ?_
  have hl := F.len _ _ _ _ q
  refine wpAny_call (codeAny_mono (F.run X.A.in1 X.stack s H ⟨[.ref a], []⟩ [.ref a] [.ref a] _ E hr.in1 I.env0.in1 (by
    have z := hb s [.ref a] I.kIn (by simpa using hl)
    simpa using z) (.cons rfl .nil) q) fun r s' hq => ?_)
  cases r with
  | error e => exact hx pins σ H s e s' I hq
  | ok fl =>
    cases fl with
    | ret w =>
      obtain ⟨z, H', I', rz, i, ei, i0, i1, qz⟩ := I.after hq
      subst ei
      obtain ⟨t, rfl⟩ := (show ∃ t, w = Value.int i t from rz)
      exact ⟨⟨i0, i1⟩, .int i, H', I'.tok _, ⟨_, rfl⟩, qz⟩
    | next => exact False.elim hq
    | brk => exact False.elim hq
    | cont => exact False.elim hq
def rEqOwn (C : Addr) (sp : Sp) (E : XK) (neg : Bool) : R2 := fun x y H Q => ∃ a dx fs b dy gs, x = .ref a ∧ y = .ref b ∧ H a = some (.ins C dx fs) ∧ H b = some (.ins C dy gs) ∧ sp [.ref a, .ref b] H (fun z H' => ∃ c : Bool, z = .bl c ∧ Q (.bl (if neg then !c else c)) H') E
theorem own_run (F : FnOk X.prog X.w X.K X.mg X.base CX n f fd ps sp) {A : Around} (hr : Room n A) (hfr : A.frames = X.A.frames) (hb : Binds X.K fd ps []) (hx : Passes CX X E) {pins : List (Addr × Obj)} {s : Shared} {σ : L2.St} {H : Hp} {a b : Addr} {Q : Bool → Hp → Prop} (I : L2.Inv X pins σ H s)
    (q : sp [.ref a, .ref b] H (fun z H' => ∃ c : Bool, z = .bl c ∧ Q c H') E) : wpAny (model X.prog X.w) A (call (.ref f) [.ref a, .ref b]) (fun v s' => ∃ (c : Bool) (H' : Hp), v = .bool c ∧ L2.Inv X pins σ H' s' ∧ Q c H') X.xe s := by
  have hl := F.len _ _ _ _ q
  have e0 : Env0 X.prog X.w X.K X.mg X.base A X.stack s H := by
    have e := I.env0
    exact ⟨by rw [hfr]; exact e.frames, e.mod, e.bs, e.bsz, e.funs, e.frf, e.hok, e.bare⟩
  refine wpAny_call (codeAny_mono (F.run A X.stack s H ⟨[.ref a, .ref b], []⟩ [.ref a, .ref b] [.ref a, .ref b] _ E hr e0 (by
    have z := hb s [.ref a, .ref b] I.kIn (by simpa using hl)
    simpa using z) (.cons rfl (.cons rfl .nil)) q) fun r s' hq => ?_)
  cases r with
  | error e => exact hx pins σ H s e s' I hq
  | ok fl =>
    cases fl with
    | ret w =>
      obtain ⟨z, H', I', rz, c, ec, qc⟩ := I.after hq
      subst ec
      obtain rfl : w = Value.bool c := rz
      exact ⟨c, H', rfl, I', qc⟩
    | next => exact False.elim hq
    | brk => exact False.elim hq
    | cont => exact False.elim hq
theorem o_eqOwn (hs : PySem.W.findIn X.K (.ref C) "__eq__" = some (some (.ref f))) (hf : PySem.W.isFn X.K (.ref f) = true) (F : FnOk X.prog X.w X.K X.mg X.base CX n f fd ps sp) (hr : Room n X.A) (hb : Binds X.K fd ps []) (hx : Passes CX X E) : OpR X (compareOp .Eq) (rEqOwn C sp E false) := by
  intro pins s σ H x y v u Q I rx ry h
  obtain ⟨a, dx, fs, b, dy, gs, rfl, rfl, ha, hb', q⟩ := h
  cases rx
  cases ry
  obtain ⟨mA, J, _⟩ := ins_get I.hok ha
  obtain ⟨mB, J', _⟩ := ins_get I.hok hb'
  obtain ⟨od, J, _⟩ := J.look
  obtain ⟨od', J', _⟩ := J'.look
  obtain ⟨m, hF⟩ := I.fr
  show wpAny _ _ (richCompare .Eq (.ref a) (.ref b)) _ _ _
  refine PySem.W.cmp_K (op := .Eq) (tb := .ref C) hr.units0 hF I.ok.mod.kin J J'.type (by simp [PySem.W.notFirst]) hs hf ?_
  refine wpAny_mono (own_run F hr rfl hb hx I q) (fun v s' z => ?_) fun _ _ z => z
  obtain ⟨c, H', rfl, I', qc⟩ := z
  exact ⟨.bl c, H', I', rfl, qc⟩
end
end Bw
set_option Elab.async false
set_option linter.all false
set_option maxRecDepth 100000
set_option maxHeartbeats 4000000
namespace Bw
open PySem PySem.Spec PyProof.Rows L2
section
variable {prog : Program} {w : World} {A : Around} {E : Value → Shared → Prop} {s : Shared} {K : PySem.W.Frag} {x C f : Addr} {ox : Obj} {od : Option Obj} {b : Value}
theorem ifBound_ne {Q : Option Value → Shared → Prop} (X : K.In s.heap) (I : PySem.W.InstAt s.heap x ox C od) (hs : PySem.W.findIn K (.ref C) "__ne__" = some (some (.builtin "object.__ne__")))
    (h : wpAny (model prog w) A (call (.builtin "object.__ne__") [.ref x, b]) (fun v => Q (some v)) E s) : wpAny (model prog w) A (callSpecialIfBound? (.ref x) "__ne__" [b]) Q E s := by
  have S := F.cmp_object.ne
  simp only [callSpecialIfBound?, bindSpecialIfBound?]
  refine wpAny_holding (wpAny_bind (wpAny_bind (wpAny_bind (I.type.here ((PySem.W.looks_findIn X hs).here ?_)))))
  simp only [S.bind]
  refine wpAny_bind (wpAny_askSetting (wpAny_ite ?_))
  have fin : wpAny (model prog w) A (call (.builtin "object.__ne__") ([.ref x] ++ [b]) >>= fun v => pure (some v)) Q E s := wpAny_bind (wpAny_mono h (fun _ _ z => wpAny_pure z) fun _ _ z => z)
  split
  · exact wpAny_bind (wpAny_pure (wpAny_pure fin))
  · exact wpAny_tryCatch (wpAny_bind (wpAny_pure (wpAny_pure fin)))
theorem call_ne {Q : Value → Shared → Prop} (hu : A.units + 1 < cLine) (X : K.In s.heap) (I : PySem.W.InstAt s.heap x ox C od) (hob : PySem.W.mroIn K C (.type "object") = some true) (hs : PySem.W.findIn K (.ref C) "__eq__" = some (some (.ref f))) (hf : PySem.W.isFn K (.ref f) = true)
    (h : wpAny (model prog w) A.in1 (call (.ref f) [.ref x, b]) (fun v s' => ∃ c, v = .bool c ∧ Q (.bool !c) s') E s) : wpAny (model prog w) A (call (.builtin "object.__ne__") [.ref x, b]) Q E s := by
  have sub : PySem.W.Looks (model prog w) s.heap (isInstance (.ref x) (.type "object")) true := I.type.andThen (PySem.W.looks_mroIn X hob)
  refine wpAny_call (codeAny_call_builtin F.cmp_object.ne.plain F.cmpEntry_ne (PySem.W.check_slot F.cmpKind_ne F.cmpSplit_ne sub (F.cmpArgs_ne _ _) ?_))
  unfold Builtin.«object.__ne__»
  have one : wpAny (model prog w) A.in1 (callSpecialIfBound? (.ref x) "__eq__" [b]) (fun r s' => ∃ c, r = some (.bool c) ∧ Q (.bool !c) s') E s := PySem.W.ifBound_K X I hs hf (wpAny_mono h (fun v s' z => by
    obtain ⟨c, rfl, q⟩ := z
    exact ⟨c, rfl, q⟩) fun _ _ z => z)
  repeat (first | with_reducible refine wpAny_cRoomFor hu ?_ | (with_reducible refine wpAny_mono one (fun r s' z => ?_) (fun _ _ e => e); obtain ⟨c, rfl, q⟩ := z) | wp_step)
  exact q
theorem rich_ne {Q : Value → Shared → Prop} (hu : A.units + 1 < cLine) (X : K.In s.heap) (I : PySem.W.InstAt s.heap x ox C od) (hb : PySem.W.Looks (model prog w) s.heap (typeOf b) (.ref C)) (hob : PySem.W.mroIn K C (.type "object") = some true)
    (hn : PySem.W.findIn K (.ref C) "__ne__" = some (some (.builtin "object.__ne__"))) (hs : PySem.W.findIn K (.ref C) "__eq__" = some (some (.ref f))) (hf : PySem.W.isFn K (.ref f) = true)
    (h : wpAny (model prog w) A.in1 (call (.ref f) [.ref x, b]) (fun v s' => ∃ c, v = .bool c ∧ Q (.bool !c) s') E s) : wpAny (model prog w) A (richCompare .NotEq (.ref x) b) Q E s := by
  have one : wpAny (model prog w) A (tryCompare (.ref x) (cmpInfo .NotEq).2.1 b) (fun r s' => ∃ c : Bool, r = some (.bool !c) ∧ Q (.bool !c) s') E s := by
    unfold tryCompare
    have two : wpAny (model prog w) A (call (.builtin "object.__ne__") [.ref x, b]) (fun v s' => ∃ c : Bool, v = .bool !c ∧ Q (.bool !c) s') E s := by
      refine call_ne hu X I hob hs hf (wpAny_mono h (fun v s' z => ?_) fun _ _ z => z)
      obtain ⟨c, e, q⟩ := z
      exact ⟨c, e, c, rfl, q⟩
    refine wpAny_bind (ifBound_ne X I hn (wpAny_mono two (fun v s' y => ?_) fun _ _ y => y))
    obtain ⟨c, rfl, q⟩ := y
    exact wpAny_pure ⟨c, rfl, q⟩
  unfold richCompare
  simp only [oneThing_ref]
  refine wpAny_holding (wpAny_bind (wpAny_cRoomFor (by omega) ?_))
  refine wpAny_bind (I.type.here (wpAny_bind (hb.here ?_)))
  split
  · rename_i q
    simp at q
  · refine wpAny_bind (wpAny_pure ?_)
    simp only [Bool.false_eq_true, if_false]
    refine wpAny_bind (wpAny_mono one (fun r s' z => ?_) fun _ _ e => e)
    obtain ⟨c, rfl, hq⟩ := z
    exact wpAny_pure hq
end
section
variable {X : Cx} {CX : CXT} {C f : Addr} {fd : FuncData} {ps : List Str} {sp : Sp} {n : Nat} {E : XK}
theorem o_neOwn (hob : PySem.W.mroIn X.K C (.type "object") = some true) (hn : PySem.W.findIn X.K (.ref C) "__ne__" = some (some (.builtin "object.__ne__"))) (hs : PySem.W.findIn X.K (.ref C) "__eq__" = some (some (.ref f))) (hf : PySem.W.isFn X.K (.ref f) = true)
    (F : FnOk X.prog X.w X.K X.mg X.base CX n f fd ps sp) (hr : Room (n + 1) X.A) (hb : Binds X.K fd ps []) (hx : Passes CX X E) : OpR X (compareOp .NotEq) (rEqOwn C sp E true) := by
  intro pins s σ H x y v u Q I rx ry h
  obtain ⟨a, dx, fs, b, dy, gs, rfl, rfl, ha, hb', q⟩ := h
  cases rx
  cases ry
  obtain ⟨mA, J, _⟩ := ins_get I.hok ha
  obtain ⟨mB, J', _⟩ := ins_get I.hok hb'
  obtain ⟨od, J, _⟩ := J.look
  obtain ⟨od', J', _⟩ := J'.look
  show wpAny _ _ (richCompare .NotEq (.ref a) (.ref b)) _ _ _
  have hu : X.A.units + 1 < cLine := by
    have z := hr.un
    omega
  refine rich_ne hu I.kIn J J'.type hob hn hs hf (wpAny_mono (own_run F hr.in1 rfl hb hx I q) (fun v s' z => ?_) fun _ _ z => z)
  obtain ⟨c, H', rfl, I', qc⟩ := z
  exact ⟨c, rfl, .bl !c, H', I', rfl, qc⟩
end
end Bw
set_option Elab.async false
set_option linter.all false
set_option maxRecDepth 100000
set_option maxHeartbeats 4000000
namespace Bw
open PySem PySem.Spec PyProof.Rows L2
/-! ### zip of a list and a tuple, either way about: by what is asked of one side -/
structure Src (P : Program) (w : World) (i l : Addr) (St : Nat → Heap → Prop) (Sq : Array Value → Heap → Prop) : Prop where
  obj : ∀ k h, St k h → ∃ o, h.get? i = some o ∧ ∀ v, o.data ≠ .cell v
  keep : ∀ k h h', St k h → (∀ o, h.get? i = some o → h'.get? i = some o) → St k h'
  keepS : ∀ xs h h', Sq xs h → (∀ o, h.get? l = some o → h'.get? l = some o) → Sq xs h'
  item : ∀ (A : Around) (E : Value → Shared → Prop) (s : Shared) (k : Nat) (xs : Array Value) (x : Value) (Q : Value → Shared → Prop), St k s.heap → Sq xs s.heap → xs[k]? = some x →
    (∀ h', St (k + 1) h' → Heap.SameBut i s.heap h' → Q x { s with heap := h' }) → wpAny (model P w) A (Builtin.SmallTypes.nextOf (.ref i)) Q E s
  fin : ∀ (A : Around) (E : Value → Shared → Prop) (s : Shared) (k : Nat) (xs : Array Value) (Q : Value → Shared → Prop), A.handled = none → St k s.heap → Sq xs s.heap → xs[k]? = none →
    (∀ h' e, Heap.ExtBut i s.heap h' → (∃ o, h'.get? e = some o ∧ o.cls = .type "StopIteration") → E (.ref e) { s with heap := h' }) → wpAny (model P w) A (Builtin.SmallTypes.nextOf (.ref i)) Q E s
theorem src_list {P : Program} {w : World} {i l : Addr} : Src P w i l (fun k h => h.IsListIter i l k) (fun xs h => h.IsList l xs) where
  obj := fun k h st => by
    obtain ⟨o, e, _, d⟩ := st
    exact ⟨o, e, fun v q => by rw [d] at q; cases q⟩
  keep := fun k h h' st kp => st.at kp
  keepS := fun xs h h' st kp => st.at kp
  item := fun A E s k xs x Q st sq hx q => wpAny_nextOf_list_item st sq hx q
  fin := fun A E s k xs Q hh st sq hx q => wpAny_nextOf_list_end hh st sq hx q
theorem src_tup {P : Program} {w : World} {i l : Addr} : Src P w i l (fun k h => h.IsTupleIter i l k) (fun xs h => h.IsTuple l xs) where
  obj := fun k h st => by
    obtain ⟨o, e, _, d⟩ := st
    exact ⟨o, e, fun v q => by rw [d] at q; cases q⟩
  keep := fun k h h' st kp => st.at kp
  keepS := fun xs h h' st kp => by
    obtain ⟨o, e, z⟩ := st
    exact ⟨o, kp o e, z⟩
  item := fun A E s k xs x Q st sq hx q => RZ.nextOf_tuple_item st sq hx q
  fin := fun A E s k xs Q hh st sq hx q => RZ.nextOf_tuple_end hh st sq hx q
section
variable {P : Program} {w : World} {A : Around} {E : Value → Shared → Prop} {s : Shared} {z TI TO i1 i2 l1 l2 : Addr} {U1 U2 : Nat → Heap → Prop} {Z1 Z2 : Array Value → Heap → Prop}
theorem zipG_item {k : Nat} {xs ys : Array Value} {x y a b : Value} {Q : Value → Shared → Prop} (S1 : Src P w i1 l1 U1 Z1) (S2 : Src P w i2 l2 U2 Z2) (D : ZipApart z TI TO i1 i2 l1 l2)
    (hz : IsZip s.heap z TI TO .none) (hTI : IsPair s.heap TI (.ref i1) (.ref i2)) (hTO : IsPair s.heap TO a b) (h1 : U1 k s.heap) (h2 : U2 k s.heap) (hl1 : Z1 xs s.heap) (hl2 : Z2 ys s.heap) (hx : xs[k]? = some x) (hy : ys[k]? = some y)
    (hQ : ∀ h', IsZip h' z TI TO (rawInt s.heap.objs.size) → IsPair h' TO x y → U1 (k + 1) h' → U2 (k + 1) h' → IsPair h' s.heap.objs.size x y →
      (∀ c o, c ≠ z → c ≠ TO → c ≠ i1 → c ≠ i2 → s.heap.get? c = some o → h'.get? c = some o) → Q (.ref s.heap.objs.size) { s with heap := h' }) :
    wpAny (model P w) A (Builtin.«zip.__next__» ⟨[.ref z], []⟩) (fun fin s' => ∃ v, fin = .done (.ret v) ∧ Q v s') E s := by
  show wpAny _ _ (field (Value.ref z) 2 >>= _) _ _ _
  refine wpAny_bind (wpAny_field hz (rfl) (x := .bool false) rfl ?_); show wpAny _ _ (field (Value.ref z) 3 >>= _) _ _ _
  refine wpAny_bind (wpAny_field hz (rfl) (x := .ref TI) rfl ?_); refine wpAny_bind (wpAny_seqItems hTI (rfl) ?_)
  show wpAny _ _ (Builtin.SmallTypes.ownedTupleIsFree (Value.ref z) >>= _) _ _ _
  refine wpAny_bind ?_; unfold Builtin.SmallTypes.ownedTupleIsFree
  refine wpAny_bind (wpAny_field hz (rfl) (x := .none) rfl (wpAny_pure ?_)); simp only [if_true]
  refine wpAny_bind (wpAny_rule ?_); refine wpAny_bind (wpAny_field hz (rfl) (x := .ref TO) rfl ?_)
  refine wpAny_bind (wpAny_setField_rec hz (by simp) fun g1 z1 b1 => ?_); replace z1 : IsZip g1 z TI TO .ellipsis := z1
  refine wpAny_bind ?_; simp only [List.zipIdx_cons, List.zipIdx_nil, List.forIn_cons, List.forIn_nil]
  refine wpAny_bind (wpAny_bind (wpAny_onRaise ?_)); show wpAny _ _ (Builtin.SmallTypes.nextOf (Value.ref i1) >>= _) _ _ _
  refine wpAny_bind (S1.item _ _ _ k xs x _ (S1.keep _ _ _ h1 fun o e => b1.extBut _ _ D.i1z e) (S1.keepS _ _ _ hl1 fun o e => b1.extBut _ _ D.l1z e) hx fun g2 u1 b2 => wpAny_pure ?_)
  have p2 : IsPair g2 TO a b := b2.extBut _ _ D.TOi1 (b1.extBut _ _ D.TOz hTO)
  refine wpAny_bind (wpAny_seqItems p2 (rfl) ?_); refine wpAny_bind (wpAny_updateSeq_pair p2 fun g3 p3 b3 => ?_); replace p3 : IsPair g3 TO x b := p3
  refine wpAny_bind (wpAny_letGo (wpAny_pure ?_)); refine wpAny_bind (wpAny_bind (wpAny_onRaise ?_)); show wpAny _ _ (Builtin.SmallTypes.nextOf (Value.ref i2) >>= _) _ _ _
  refine wpAny_bind (S2.item _ _ _ k ys y _ (S2.keep _ _ _ h2 fun o e => b3.extBut _ _ D.TOi2.symm (b2.extBut _ _ D.i12.symm (b1.extBut _ _ D.i2z e)))
    (S2.keepS _ _ _ hl2 fun o e => b3.extBut _ _ D.l2TO (b2.extBut _ _ D.l2i1 (b1.extBut _ _ D.l2z e))) hy fun g4 u2 b4 => wpAny_pure ?_)
  have p4 : IsPair g4 TO x b := b4.extBut _ _ D.TOi2 p3
  refine wpAny_bind (wpAny_seqItems p4 (rfl) ?_); refine wpAny_bind (wpAny_updateSeq_pair p4 fun g5 p5 b5 => ?_); replace p5 : IsPair g5 TO x y := p5
  refine wpAny_bind (wpAny_letGo (wpAny_pure (wpAny_pure ?_))); refine wpAny_bind (wpAny_seqItems p5 (rfl) ?_); refine wpAny_bind (wpAny_newTuple ?_)
  have sz : g5.objs.size = s.heap.objs.size := by rw [b5.1, b4.1, b3.1, b2.1, b1.1]
  have z5 : IsZip g5 z TI TO .ellipsis := b5.extBut _ _ D.TOz.symm (b4.extBut _ _ D.i2z.symm (b3.extBut _ _ D.TOz.symm (b2.extBut _ _ D.i1z.symm z1)))
  have k5 : ∀ c o, c ≠ z → c ≠ TO → c ≠ i1 → c ≠ i2 → s.heap.get? c = some o → g5.get? c = some o := fun c o c1 c2 c3 c4 e => b5.extBut _ _ c2 (b4.extBut _ _ c4 (b3.extBut _ _ c2 (b2.extBut _ _ c3 (b1.extBut _ _ c1 e))))
  have v1 : U1 (k + 1) g5 := S1.keep _ _ _ u1 fun o e => b5.extBut _ _ D.TOi1.symm (b4.extBut _ _ D.i12 (b3.extBut _ _ D.TOi1.symm e))
  have v2 : U2 (k + 1) g5 := S2.keep _ _ _ u2 fun o e => b5.extBut _ _ D.TOi2.symm e
  have zl : z < g5.objs.size := Heap.lt_size z5
  show wpAny _ _ (Builtin.SmallTypes.ownedTupleHandOut (Value.ref z) (.ref g5.objs.size) >>= _) _ _ _
  refine wpAny_bind ?_; unfold Builtin.SmallTypes.ownedTupleHandOut
  have z6 : IsZip (g5.push { cls := .type "tuple", data := .seq #[x, y] }) z TI TO .ellipsis := Heap.get?_push_of_some _ z5
  refine wpAny_bind (wpAny_setField_rec z6 (by simp) fun g7 z7 b7 => ?_); replace z7 : IsZip g7 z TI TO (rawInt g5.objs.size) := z7
  refine wpAny_setField_rec z7 (by simp) fun g8 z8 b8 => ?_; replace z8 : IsZip g8 z TI TO (rawInt g5.objs.size) := z8
  have up : ∀ c o, c ≠ z → g5.get? c = some o → g8.get? c = some o := fun c o c1 e => b8.extBut _ _ c1 (b7.extBut _ _ c1 (Heap.get?_push_of_some _ e))
  have p8 : IsPair g8 g5.objs.size x y := b8.extBut _ _ (Nat.ne_of_gt zl) (b7.extBut _ _ (Nat.ne_of_gt zl) (Heap.get?_push_size _ rfl))
  rw [sz] at z8 p8
  refine wpAny_pure ⟨_, rfl, ?_⟩; show Q (.ref g5.objs.size) _; rw [sz]
  exact hQ g8 z8 (up _ _ D.TOz p5) (S1.keep _ _ _ v1 fun o e => up _ o D.i1z e) (S2.keep _ _ _ v2 fun o e => up _ o D.i2z e) p8 fun c o c1 c2 c3 c4 e => up c o c1 (k5 c o c1 c2 c3 c4 e)
theorem zipG_end {k : Nat} {xs ys : Array Value} {a b : Value} {Q : PySem.Fin → Shared → Prop} (S1 : Src P w i1 l1 U1 Z1) (S2 : Src P w i2 l2 U2 Z2) (hh : A.handled = none) (D : ZipApart z TI TO i1 i2 l1 l2)
    (hz : IsZip s.heap z TI TO .none) (hTI : IsPair s.heap TI (.ref i1) (.ref i2)) (hTO : IsPair s.heap TO a b) (h1 : U1 k s.heap) (h2 : U2 k s.heap) (hl1 : Z1 xs s.heap) (hl2 : Z2 ys s.heap) (hend : xs[k]? = none ∨ ys[k]? = none)
    (hE : ∀ h' e, (∀ c o, c ≠ z → c ≠ TO → c ≠ i1 → c ≠ i2 → s.heap.get? c = some o → h'.get? c = some o) → (∃ o, h'.get? e = some o ∧ o.cls = .type "StopIteration") → E (.ref e) { s with heap := h' }) :
    wpAny (model P w) A (Builtin.«zip.__next__» ⟨[.ref z], []⟩) Q E s := by
  show wpAny _ _ (field (Value.ref z) 2 >>= _) _ _ _
  refine wpAny_bind (wpAny_field hz (rfl) (x := .bool false) rfl ?_); show wpAny _ _ (field (Value.ref z) 3 >>= _) _ _ _
  refine wpAny_bind (wpAny_field hz (rfl) (x := .ref TI) rfl ?_); refine wpAny_bind (wpAny_seqItems hTI (rfl) ?_)
  show wpAny _ _ (Builtin.SmallTypes.ownedTupleIsFree (Value.ref z) >>= _) _ _ _
  refine wpAny_bind ?_; unfold Builtin.SmallTypes.ownedTupleIsFree
  refine wpAny_bind (wpAny_field hz (rfl) (x := .none) rfl (wpAny_pure ?_)); simp only [if_true]
  refine wpAny_bind (wpAny_rule ?_); refine wpAny_bind (wpAny_field hz (rfl) (x := .ref TO) rfl ?_)
  refine wpAny_bind (wpAny_setField_rec hz (by simp) fun g1 z1 b1 => ?_); replace z1 : IsZip g1 z TI TO .ellipsis := z1
  refine wpAny_bind ?_; simp only [List.zipIdx_cons, List.zipIdx_nil, List.forIn_cons, List.forIn_nil]
  refine wpAny_bind (wpAny_bind (wpAny_onRaise ?_)); show wpAny _ _ (Builtin.SmallTypes.nextOf (Value.ref i1) >>= _) _ _ _
  have j1 : U1 k g1 := S1.keep _ _ _ h1 fun o e => b1.extBut _ _ D.i1z e
  have m1 : Z1 xs g1 := S1.keepS _ _ _ hl1 fun o e => b1.extBut _ _ D.l1z e
  cases hx : xs[k]? with
  | none =>
    refine wpAny_bind (S1.fin _ _ _ k xs _ hh j1 m1 hx fun g2 e b2 he => ?_); obtain ⟨oe, hoe, hce⟩ := he
    have z2 : IsZip g2 z TI TO .ellipsis := b2 _ _ D.i1z.symm z1
    have ez : e ≠ z := fun q => by subst q; rw [z2] at hoe; cases hoe; simp at hce
    refine wpAny_setField_rec z2 (by simp) fun g3 _ b3 => hE g3 e (fun c o c1 _ c3 _ q => b3.extBut _ _ c1 (b2 _ _ c3 (b1.extBut _ _ c1 q))) ⟨oe, b3.extBut _ _ ez hoe, hce⟩
  | some x =>
    have hy : ys[k]? = none := by
      rcases hend with h | h
      · rw [hx] at h; cases h
      · exact h
    refine wpAny_bind (S1.item _ _ _ k xs x _ j1 m1 hx fun g2 u1 b2 => wpAny_pure ?_)
    have p2 : IsPair g2 TO a b := b2.extBut _ _ D.TOi1 (b1.extBut _ _ D.TOz hTO)
    refine wpAny_bind (wpAny_seqItems p2 (rfl) ?_); refine wpAny_bind (wpAny_updateSeq_pair p2 fun g3 p3 b3 => ?_)
    refine wpAny_bind (wpAny_letGo (wpAny_pure ?_)); refine wpAny_bind (wpAny_bind (wpAny_onRaise ?_)); show wpAny _ _ (Builtin.SmallTypes.nextOf (Value.ref i2) >>= _) _ _ _
    refine wpAny_bind (S2.fin _ _ _ k ys _ hh (S2.keep _ _ _ h2 fun o e => b3.extBut _ _ D.TOi2.symm (b2.extBut _ _ D.i12.symm (b1.extBut _ _ D.i2z e)))
      (S2.keepS _ _ _ hl2 fun o e => b3.extBut _ _ D.l2TO (b2.extBut _ _ D.l2i1 (b1.extBut _ _ D.l2z e))) hy fun g4 e b4 he => ?_)
    obtain ⟨oe, hoe, hce⟩ := he
    have z4 : IsZip g4 z TI TO .ellipsis := b4 _ _ D.i2z.symm (b3.extBut _ _ D.TOz.symm (b2.extBut _ _ D.i1z.symm z1))
    have ez : e ≠ z := fun q => by subst q; rw [z4] at hoe; cases hoe; simp at hce
    refine wpAny_setField_rec z4 (by simp) fun g5 _ b5 => hE g5 e (fun c o c1 c2 c3 c4 q => b5.extBut _ _ c1 (b4 _ _ c4 (b3.extBut _ _ c2 (b2.extBut _ _ c3 (b1.extBut _ _ c1 q))))) ⟨oe, b5.extBut _ _ ez hoe, hce⟩
end
/-! ### the step of the hand layer -/
/-- how a side is read off the hand layer's heap -/
structure Side (l : Addr) (K : PySem.W.Frag) (R : Hp → List V → Prop) (Sq : Array Value → Heap → Prop) : Prop where
  get : ∀ (X : Cx) (pins : List (Addr × Obj)) (σ : L2.St) (H : Hp) (s : Shared) (xs : List V), X.K = K → L2.Inv X pins σ H s → R H xs → ∃ its : List Value, Vals xs its ∧ Sq its.toArray s.heap ∧ l < s.heap.objs.size
  inj : ∀ (X : Cx) (pins : List (Addr × Obj)) (σ : L2.St) (H : Hp) (s : Shared) (xs ys : List V), X.K = K → L2.Inv X pins σ H s → R H xs → R H ys → xs = ys
theorem side_list {K : PySem.W.Frag} {a : Addr} : Side a K (fun H xs => SqL K H a xs) (fun arr h => h.IsList a arr) where
  get := fun X pins σ H s xs hK I r => by
    subst hK
    obtain ⟨its, rv, p, _⟩ := I.list r
    exact ⟨its, rv, p.isList, p.lt⟩
  inj := fun X pins σ H s xs ys hK I r r' => by
    subst hK
    exact I.list_inj r r'
theorem side_tup {K : PySem.W.Frag} {a : Addr} : Side a K (fun H xs => SqT K H a xs) (fun arr h => h.IsTuple a arr) where
  get := fun X pins σ H s xs hK I r => by
    subst hK
    obtain ⟨its, rv, p, _⟩ := I.tuple r
    obtain ⟨o, ho, _⟩ := id p
    exact ⟨its, rv, p, Heap.lt_size ho⟩
  inj := fun X pins σ H s xs ys hK I r r' => by
    subst hK
    exact I.tuple_inj r r'
def ItzG (R1 R2 : Hp → List V → Prop) : It :=
  ⟨fun i H => ∃ (xs ys : List V) (x y : V), R1 H xs ∧ R2 H ys ∧ xs[i]? = some x ∧ ys[i]? = some y,
    fun i H v H' => ∃ T x y, v = .ref T ∧ H T = none ∧ H' = upd H T (.tup [x, y]) ∧ (∀ xs, R1 H xs → xs[i]? = some x) ∧ ∀ ys, R2 H ys → ys[i]? = some y,
    fun i H => ∃ xs ys : List V, R1 H xs ∧ R2 H ys ∧ (xs.length ≤ i ∨ ys.length ≤ i)⟩
theorem turn_zipG {P : Program} {w : World} {K : PySem.W.Frag} {elts : List Expr} {kk : Nat} {tpos : Pos} {a b z TI TO i1 i2 : Addr} {R1 R2 : Hp → List V → Prop} {U1 U2 : Nat → Heap → Prop} {Z1 Z2 : Array Value → Heap → Prop}
    (S1 : Src P w i1 a U1 Z1) (S2 : Src P w i2 b U2 Z2) (L1 : Side a K R1 Z1) (L2' : Side b K R2 Z2) (D : ZipApart z TI TO i1 i2 a b) :
    Turn P w K (.Tuple elts kk tpos) (ItzG R1 R2) [z, TI, TO, i1, i2] z (fun i h => IsZip h z TI TO .none ∧ IsPair h TI (.ref i1) (.ref i2) ∧ (∃ x y, IsPair h TO x y) ∧ U1 i h ∧ U2 i h) where
  mem := by simp
  obj := fun i h st c hc => by
    obtain ⟨hz, hTI, ⟨x, y, hTO⟩, e1, e2⟩ := st
    have e' : c = z ∨ c = TI ∨ c = TO ∨ c = i1 ∨ c = i2 := by simpa using hc
    rcases e' with rfl | rfl | rfl | rfl | rfl
    · exact ⟨_, hz, fun v q => nomatch q⟩
    · exact ⟨_, hTI, fun v q => nomatch q⟩
    · exact ⟨_, hTO, fun v q => nomatch q⟩
    · exact S1.obj _ _ e1
    · exact S2.obj _ _ e2
  keep := fun i h h' st k => by
    obtain ⟨hz, hTI, ⟨x, y, hTO⟩, h1, h2⟩ := st
    exact ⟨k z (by simp) _ hz, k TI (by simp) _ hTI, ⟨x, y, k TO (by simp) _ hTO⟩, S1.keep _ _ _ h1 (k i1 (by simp)), S2.keep _ _ _ h2 (k i2 (by simp))⟩
  item := by
    intro X hP hw hK hc i pins s σ H E I hf st hg
    obtain ⟨hz, hTI, ⟨x0, y0, hTO⟩, h1, h2⟩ := st
    obtain ⟨xs, ys, x, y, hqx, hqy, hx, hy⟩ := hg
    obtain ⟨its, rv, p, _⟩ := L1.get X pins σ H s xs hK I hqx
    obtain ⟨its2, rv2, p2, _⟩ := L2'.get X pins σ H s ys hK I hqy
    obtain ⟨u, hu, ru⟩ := rv.get hx
    obtain ⟨u2, hu2, ru2⟩ := rv2.get hy
    have hzl : z < s.heap.objs.size := Heap.lt_size hz
    have hT : s.TypeIs (.ref z) "zip" := ⟨_, hz, rfl⟩
    unfold pyNext
    refine wpAny_bind (wpAny_attempt (wpAny_callSpecial?_slot (name := Str.ofString "__next__") hT F.slot_zip_next (wpAny_call_entry F.slot_zip_next hT F.entry_zip_next
      (zipG_item S1 S2 D hz hTI hTO h1 h2 p p2 (x := u) (y := u2) (by simpa using hu) (by simpa using hu2) fun h' z' TO' h1' h2' hT' hk => wpAny_pure ?_) (F.args_zip_next_1 _))))
    refine ⟨_, rfl, wpAny_letOwnedTupleGo_zip (s := { s with heap := h' }) z' fun h'' z'' sb => ?_⟩
    have hT2 : h''.get? s.heap.objs.size = some { cls := .type "tuple", data := .seq #[u, u2] } := ((sb.2 _ (Nat.ne_of_gt hzl)).trans hT')
    subst hP hw hK
    have new : ObjOk X.prog X.w (upd H s.heap.objs.size (.tup [x, y])) h'' s.heap.objs.size (.tup [x, y]) := ⟨by show 2 ≤ sizeLine; decide, [u, u2], .cons ru (.cons ru2 .nil), ⟨_, hT2, rfl, _, rfl⟩⟩
    have kk' : ∀ (c : Addr) (o : Obj), c ∉ [z, TI, TO, i1, i2] → s.heap.get? c = some o → h''.get? c = some o := fun c o hb q => (sb.2 c (fun q' => hb (by simp [q']))).trans (hk c o (fun q' => hb (by simp [q'])) (fun q' => hb (by simp [q'])) (fun q' => hb (by simp [q'])) (fun q' => hb (by simp [q'])) q)
    have I1 : L2.Inv X pins σ (upd H s.heap.objs.size (.tup [x, y])) { s with heap := h'' } := I.turnedNew (t' := s.toks) (ch := [z, TI, TO, i1, i2]) kk' hf (Nat.le_refl _) new
    refine ⟨.ref s.heap.objs.size, _, I1, rfl, ⟨_, x, y, rfl, I.hok.fresh (Nat.le_refl _), rfl, fun l hl => ?_, fun l hl => ?_⟩, ⟨z'', ?_, ⟨u, u2, ?_⟩, ?_, ?_⟩, fun c hcm => ?_⟩
    · rw [L1.inj X pins σ H s l xs rfl I hl hqx]
      exact hx
    · rw [L2'.inj X pins σ H s l ys rfl I hl hqy]
      exact hy
    · exact (sb.2 _ D.TIz).trans ((hk _ _ D.TIz D.TITO D.TIi1 D.TIi2 hTI))
    · exact (sb.2 _ D.TOz).trans TO'
    · exact S1.keep _ _ _ h1' fun o q => (sb.2 _ D.i1z).trans q
    · exact S2.keep _ _ _ h2' fun o q => (sb.2 _ D.i2z).trans q
    · have hlt : c < s.heap.objs.size := by
        have e' : c = z ∨ c = TI ∨ c = TO ∨ c = i1 ∨ c = i2 := by simpa using hcm
        rcases e' with rfl | rfl | rfl | rfl | rfl
        · exact hzl
        · exact Heap.lt_size hTI
        · exact Heap.lt_size hTO
        · obtain ⟨_, e1, _⟩ := S1.obj _ _ h1; exact Heap.lt_size e1
        · obtain ⟨_, e2, _⟩ := S2.obj _ _ h2; exact Heap.lt_size e2
      rw [upd_ne (Nat.ne_of_lt hlt)]
      exact (hf c hcm).1
  done := by
    intro X hP hw hK hc i pins s σ H E I hf st hg
    obtain ⟨hz, hTI, ⟨x0, y0, hTO⟩, h1, h2⟩ := st
    obtain ⟨xs, ys, hqx, hqy, hend⟩ := hg
    obtain ⟨its, rv, p, _⟩ := L1.get X pins σ H s xs hK I hqx
    obtain ⟨its2, rv2, p2, _⟩ := L2'.get X pins σ H s ys hK I hqy
    have l1 := rv.length
    have l2 := rv2.length
    have he : its.toArray[i]? = none ∨ its2.toArray[i]? = none := by
      rcases hend with q | q
      · exact .inl (by simp; omega)
      · exact .inr (by simp; omega)
    have hT : s.TypeIs (.ref z) "zip" := ⟨_, hz, rfl⟩
    unfold pyNext
    refine wpAny_bind (wpAny_attempt (wpAny_callSpecial?_slot (name := Str.ofString "__next__") hT F.slot_zip_next
      (wpAny_call_entry F.slot_zip_next hT F.entry_zip_next (zipG_end S1 S2 (I.ok.hd hc) D hz hTI hTO h1 h2 p p2 he fun h' e hk he => ?_) (F.args_zip_next_1 _))))
    obtain ⟨o, ho, hc'⟩ := he
    refine wpAny_bind (wpAny_isInstance (T := "StopIteration") (b := true) ⟨o, ho, hc'⟩ isSubtype_stop ?_)
    refine wpAny_pure ⟨rfl, I.turnedL (t' := s.toks) (ch := [z, TI, TO, i1, i2]) (fun c o hb q => hk c o (fun q' => hb (by simp [q'])) (fun q' => hb (by simp [q'])) (fun q' => hb (by simp [q'])) (fun q' => hb (by simp [q'])) q) hf⟩
  self := fun A i s Q E st h => wpAny_pyIter_zip st.1 h
/-! ### zip of a tuple and a list made -/
abbrev zTL1 (h : Heap) (l1 : Addr) : Heap := h.push { cls := .type "tuple_iterator", data := .fields #[.ref l1, .int 0 0] }
abbrev zTL2 (h : Heap) (l1 l2 : Addr) : Heap := (zTL1 h l1).push { cls := .type "list_iterator", data := .fields #[.ref l2, .int 0 0] }
abbrev zTL3 (h : Heap) (l1 l2 : Addr) : Heap := (zTL2 h l1 l2).push { cls := .type "tuple", data := .seq #[.ref h.objs.size, .ref (zTL1 h l1).objs.size] }
abbrev zTL4 (h : Heap) (l1 l2 : Addr) : Heap := (zTL3 h l1 l2).push { cls := .type "tuple", data := .seq #[.none, .none] }
abbrev zTL5 (h : Heap) (l1 l2 : Addr) : Heap := (zTL4 h l1 l2).push { cls := .type "zip", data := .fields #[.none, .bool false, .bool false, .ref (zTL2 h l1 l2).objs.size, .ref (zTL3 h l1 l2).objs.size] }
abbrev zLT1 (h : Heap) (l1 : Addr) : Heap := h.push { cls := .type "list_iterator", data := .fields #[.ref l1, .int 0 0] }
abbrev zLT2 (h : Heap) (l1 l2 : Addr) : Heap := (zLT1 h l1).push { cls := .type "tuple_iterator", data := .fields #[.ref l2, .int 0 0] }
abbrev zLT3 (h : Heap) (l1 l2 : Addr) : Heap := (zLT2 h l1 l2).push { cls := .type "tuple", data := .seq #[.ref h.objs.size, .ref (zLT1 h l1).objs.size] }
abbrev zLT4 (h : Heap) (l1 l2 : Addr) : Heap := (zLT3 h l1 l2).push { cls := .type "tuple", data := .seq #[.none, .none] }
abbrev zLT5 (h : Heap) (l1 l2 : Addr) : Heap := (zLT4 h l1 l2).push { cls := .type "zip", data := .fields #[.none, .bool false, .bool false, .ref (zLT2 h l1 l2).objs.size, .ref (zLT3 h l1 l2).objs.size] }
theorem new_zTL (l1 l2 : Addr) (xs ys : Array Value) : Meets (Builtin.«zip.__new__» ⟨[.type "zip", .ref l1, .ref l2], []⟩) (fun _ R s => s.heap.IsTuple l1 xs ∧ s.heap.IsList l2 ys ∧ R (.ok (.ret (.ref (zTL4 s.heap l1 l2).objs.size))) { s with heap := zTL5 s.heap l1 l2 }) :=
  .of_wp fun prog w A R s h => by
    obtain ⟨hp, g, d, tk, os⟩ := s
    obtain ⟨k1, k2, h⟩ := h
    have hsub := sub_zip
    have e1 : Heap.IsTuple (Shared.heap ⟨hp, g, d, tk, os⟩) l1 xs := k1
    have e2 : Heap.IsList (Shared.heap ⟨hp.push { cls := .type "tuple_iterator", data := .fields #[.ref l1, .int 0 0] }, g, d, tk, os⟩) l2 ys := Heap.IsList.push k2 _
    wp_walk using wpAny_pyIter_tuple e1, wpAny_pyIter_list e2
    exact ⟨_, rfl, h⟩
theorem new_zLT (l1 l2 : Addr) (xs ys : Array Value) : Meets (Builtin.«zip.__new__» ⟨[.type "zip", .ref l1, .ref l2], []⟩) (fun _ R s => s.heap.IsList l1 xs ∧ s.heap.IsTuple l2 ys ∧ R (.ok (.ret (.ref (zLT4 s.heap l1 l2).objs.size))) { s with heap := zLT5 s.heap l1 l2 }) :=
  .of_wp fun prog w A R s h => by
    obtain ⟨hp, g, d, tk, os⟩ := s
    obtain ⟨k1, k2, h⟩ := h
    have hsub := sub_zip
    have e1 : Heap.IsList (Shared.heap ⟨hp, g, d, tk, os⟩) l1 xs := k1
    have e2 : Heap.IsTuple (Shared.heap ⟨hp.push { cls := .type "list_iterator", data := .fields #[.ref l1, .int 0 0] }, g, d, tk, os⟩) l2 ys := Heap.IsTuple.push k2 _
    wp_walk using wpAny_pyIter_list e1, wpAny_pyIter_tuple e2
    exact ⟨_, rfl, h⟩
section
variable {P : Program} {w : World} {A : Around} {E : Value → Shared → Prop} {s : Shared}
theorem call_zTL {l1 l2 : Addr} {xs ys : Array Value} {Q : Value → Shared → Prop} (k1 : s.heap.IsTuple l1 xs) (k2 : s.heap.IsList l2 ys)
    (h : ∀ h', IsZip h' (s.heap.objs.size + 4) (s.heap.objs.size + 2) (s.heap.objs.size + 3) .none → IsPair h' (s.heap.objs.size + 2) (.ref s.heap.objs.size) (.ref (s.heap.objs.size + 1)) → IsPair h' (s.heap.objs.size + 3) .none .none →
      h'.IsTupleIter s.heap.objs.size l1 0 → h'.IsListIter (s.heap.objs.size + 1) l2 0 → (∀ c o, s.heap.get? c = some o → h'.get? c = some o) → Q (.ref (s.heap.objs.size + 4)) { s with heap := h' }) :
    wpAny (model P w) A (call (.type "zip") [.ref l1, .ref l2]) Q E s := by
  refine callType_new F.called_zip (by decide) (F.typeCall_zip_2 _ _) (F.newCall_zip_2 _ _) (fun obj => F.args_object_init_3 obj _ _) F.entry_zip_new (new_zTL l1 l2 xs ys) ⟨k1, k2, ?_⟩
  have z1 : (zTL1 s.heap l1).objs.size = s.heap.objs.size + 1 := Heap.size_push ..
  have z2 : (zTL2 s.heap l1 l2).objs.size = s.heap.objs.size + 2 := by rw [Heap.size_push, z1]
  have z3 : (zTL3 s.heap l1 l2).objs.size = s.heap.objs.size + 3 := by rw [Heap.size_push, z2]
  have z4 : (zTL4 s.heap l1 l2).objs.size = s.heap.objs.size + 4 := by rw [Heap.size_push, z3]
  have g5 : (zTL5 s.heap l1 l2).get? (zTL4 s.heap l1 l2).objs.size = some _ := Heap.get?_push_size _ rfl
  have g4 : (zTL5 s.heap l1 l2).get? (zTL3 s.heap l1 l2).objs.size = some _ := Heap.get?_push_of_some _ (Heap.get?_push_size _ rfl)
  have g3 : (zTL5 s.heap l1 l2).get? (zTL2 s.heap l1 l2).objs.size = some _ := Heap.get?_push_of_some _ (Heap.get?_push_of_some _ (Heap.get?_push_size _ rfl))
  have g2 : (zTL5 s.heap l1 l2).get? (zTL1 s.heap l1).objs.size = some _ := Heap.get?_push_of_some _ (Heap.get?_push_of_some _ (Heap.get?_push_of_some _ (Heap.get?_push_size _ rfl)))
  have g1 : (zTL5 s.heap l1 l2).get? s.heap.objs.size = some _ := Heap.get?_push_of_some _ (Heap.get?_push_of_some _ (Heap.get?_push_of_some _ (Heap.get?_push_of_some _ (Heap.get?_push_size _ rfl))))
  show _ ∧ _
  rw [z2, z3, z4] at g5; rw [z1, z2] at g3; rw [z3] at g4; rw [z1] at g2; rw [z4]
  exact ⟨⟨_, g5, rfl⟩, h _ g5 g3 g4 ⟨_, g1, rfl, rfl⟩ ⟨_, g2, rfl, rfl⟩ fun c o x => Heap.get?_push_of_some _ (Heap.get?_push_of_some _ (Heap.get?_push_of_some _ (Heap.get?_push_of_some _ (Heap.get?_push_of_some _ x))))⟩
theorem call_zLT {l1 l2 : Addr} {xs ys : Array Value} {Q : Value → Shared → Prop} (k1 : s.heap.IsList l1 xs) (k2 : s.heap.IsTuple l2 ys)
    (h : ∀ h', IsZip h' (s.heap.objs.size + 4) (s.heap.objs.size + 2) (s.heap.objs.size + 3) .none → IsPair h' (s.heap.objs.size + 2) (.ref s.heap.objs.size) (.ref (s.heap.objs.size + 1)) → IsPair h' (s.heap.objs.size + 3) .none .none →
      h'.IsListIter s.heap.objs.size l1 0 → h'.IsTupleIter (s.heap.objs.size + 1) l2 0 → (∀ c o, s.heap.get? c = some o → h'.get? c = some o) → Q (.ref (s.heap.objs.size + 4)) { s with heap := h' }) :
    wpAny (model P w) A (call (.type "zip") [.ref l1, .ref l2]) Q E s := by
  refine callType_new F.called_zip (by decide) (F.typeCall_zip_2 _ _) (F.newCall_zip_2 _ _) (fun obj => F.args_object_init_3 obj _ _) F.entry_zip_new (new_zLT l1 l2 xs ys) ⟨k1, k2, ?_⟩
  have z1 : (zLT1 s.heap l1).objs.size = s.heap.objs.size + 1 := Heap.size_push ..
  have z2 : (zLT2 s.heap l1 l2).objs.size = s.heap.objs.size + 2 := by rw [Heap.size_push, z1]
  have z3 : (zLT3 s.heap l1 l2).objs.size = s.heap.objs.size + 3 := by rw [Heap.size_push, z2]
  have z4 : (zLT4 s.heap l1 l2).objs.size = s.heap.objs.size + 4 := by rw [Heap.size_push, z3]
  have g5 : (zLT5 s.heap l1 l2).get? (zLT4 s.heap l1 l2).objs.size = some _ := Heap.get?_push_size _ rfl
  have g4 : (zLT5 s.heap l1 l2).get? (zLT3 s.heap l1 l2).objs.size = some _ := Heap.get?_push_of_some _ (Heap.get?_push_size _ rfl)
  have g3 : (zLT5 s.heap l1 l2).get? (zLT2 s.heap l1 l2).objs.size = some _ := Heap.get?_push_of_some _ (Heap.get?_push_of_some _ (Heap.get?_push_size _ rfl))
  have g2 : (zLT5 s.heap l1 l2).get? (zLT1 s.heap l1).objs.size = some _ := Heap.get?_push_of_some _ (Heap.get?_push_of_some _ (Heap.get?_push_of_some _ (Heap.get?_push_size _ rfl)))
  have g1 : (zLT5 s.heap l1 l2).get? s.heap.objs.size = some _ := Heap.get?_push_of_some _ (Heap.get?_push_of_some _ (Heap.get?_push_of_some _ (Heap.get?_push_of_some _ (Heap.get?_push_size _ rfl))))
  show _ ∧ _
  rw [z2, z3, z4] at g5; rw [z1, z2] at g3; rw [z3] at g4; rw [z1] at g2; rw [z4]
  exact ⟨⟨_, g5, rfl⟩, h _ g5 g3 g4 ⟨_, g1, rfl, rfl⟩ ⟨_, g2, rfl, rfl⟩ fun c o x => Heap.get?_push_of_some _ (Heap.get?_push_of_some _ (Heap.get?_push_of_some _ (Heap.get?_push_of_some _ (Heap.get?_push_of_some _ x))))⟩
end
def iZipM (K : PySem.W.Frag) (ta : TA) : TI := fun σ H R => ta σ H fun vs H1 => ∃ a b xs ys, vs = [.ref a, .ref b] ∧
  ((SqT K H1 a xs ∧ SqL K H1 b ys ∧ R (ItzG (fun H xs => SqT K H a xs) (fun H xs => SqL K H b xs)) H1) ∨ (SqL K H1 a xs ∧ SqT K H1 b ys ∧ R (ItzG (fun H xs => SqL K H a xs) (fun H xs => SqT K H b xs)) H1))
theorem p_zipM {X : Cx} {K : PySem.W.Frag} {e e2 : Expr} {ta : TA} {p pos tpos : Pos} {elts : List Expr} {kk : Nat} (hg : Gl X "zip") (hm : X.mg "zip" = none) (ha : PA X [e, e2] ta) (hK : X.K = K := by rfl)
    (hs : starEach [e, e2] X.env = (false, eval e X.env) :: starEach [e2] X.env := by rfl) (hpl : (backTo pos (starEach [e2] X.env)).any (·.1) = false := by rfl) : PI X (.Tuple elts kk tpos) (.Call (.Name "zip" p) [e, e2] [] pos) (iZipM K ta) := by
  subst hK
  refine ⟨fun pins s σ H R I h => ?_⟩
  refine Call_ (ld_blt I hg hm PyProof.Rows.boot_zip (PyProof.Rows.callWith_type1 (thn (ha.run pos pins s σ H _ I h) fun us s1 ⟨vs, H1, I1, r1, q1⟩ => ?_) hs hpl))
  obtain ⟨a, b, xs, ys, rfl, q1⟩ := q1
  obtain ⟨u, u', rfl, ru, ru'⟩ : ∃ u u', us = [u, u'] ∧ RelV (.ref a) u ∧ RelV (.ref b) u' := by
    cases r1 with
    | cons r rr =>
      cases rr with
      | cons r' rr =>
        cases rr
        exact ⟨_, _, rfl, r, r'⟩
  cases ru
  cases ru'
  have fresh5 : ∀ c, c ∈ [s1.heap.objs.size + 4, s1.heap.objs.size + 2, s1.heap.objs.size + 3, s1.heap.objs.size, s1.heap.objs.size + 1] → FpOk X pins H1 c := fun c hcm => by
    have hle : s1.heap.objs.size ≤ c := by
      simp only [List.mem_cons, List.not_mem_nil, or_false] at hcm
      omega
    exact I1.fpOk hle (I1.hok.fresh hle)
  rcases q1 with ⟨hqx, hqy, q⟩ | ⟨hqx, hqy, q⟩
  · obtain ⟨its, rv, p1, la⟩ := (side_tup (a := a)).get X pins σ H1 s1 xs rfl I1 hqx
    obtain ⟨its2, rv2, p2, lb⟩ := (side_list (a := b)).get X pins σ H1 s1 ys rfl I1 hqy
    refine call_zTL p1 p2 fun h' hz hTI hTO h1 h2 hk => wpAny_pyIter_zip hz ?_
    have I2 : L2.Inv X pins σ H1 { s1 with heap := h' } := I1.kept (t' := s1.toks) hk
    exact ⟨s1.heap.objs.size + 4, [s1.heap.objs.size + 4, s1.heap.objs.size + 2, s1.heap.objs.size + 3, s1.heap.objs.size, s1.heap.objs.size + 1], _, _, H1, rfl, I2, turn_zipG src_tup src_list side_tup side_list (PySem.W.ktu_apart s1.heap.objs.size a b la lb), ⟨hz, hTI, ⟨_, _, hTO⟩, h1, h2⟩, fresh5, q⟩
  · obtain ⟨its, rv, p1, la⟩ := (side_list (a := a)).get X pins σ H1 s1 xs rfl I1 hqx
    obtain ⟨its2, rv2, p2, lb⟩ := (side_tup (a := b)).get X pins σ H1 s1 ys rfl I1 hqy
    refine call_zLT p1 p2 fun h' hz hTI hTO h1 h2 hk => wpAny_pyIter_zip hz ?_
    have I2 : L2.Inv X pins σ H1 { s1 with heap := h' } := I1.kept (t' := s1.toks) hk
    exact ⟨s1.heap.objs.size + 4, [s1.heap.objs.size + 4, s1.heap.objs.size + 2, s1.heap.objs.size + 3, s1.heap.objs.size, s1.heap.objs.size + 1], _, _, H1, rfl, I2, turn_zipG src_list src_tup side_list side_tup (PySem.W.ktu_apart s1.heap.objs.size a b la lb), ⟨hz, hTI, ⟨_, _, hTO⟩, h1, h2⟩, fresh5, q⟩
theorem walk_zipG {R1 R2 : Hp → List V → Prop} {xs ys : List V} {n : Nat} (hn : n = min xs.length ys.length) : Walk (ItzG R1 R2) n (fun H => R1 H xs ∧ R2 H ys) (YPair (fun i => xs[i]?) (fun i => ys[i]?)) := by
  subst hn
  refine ⟨fun i _ hi q => ?_, fun _ q => ⟨xs, ys, q.1, q.2, by omega⟩, fun i H v H' _ q y => ?_⟩
  · have k1 : i < xs.length := by omega
    have k2 : i < ys.length := by omega
    exact ⟨xs, ys, xs[i], ys[i], q.1, q.2, by simp [k1], by simp [k2]⟩
  · obtain ⟨T, x, u, k1, k2, k3, k4, k5⟩ := y
    exact ⟨T, x, u, k1, k2, k3, k4 xs q.1, k5 ys q.2⟩
end Bw
set_option Elab.async false
set_option linter.all false
set_option maxRecDepth 100000
set_option maxHeartbeats 4000000
namespace Bw
open PySem PySem.Spec PyProof.Rows L2
section
variable {X : Cx} {K : PySem.W.Frag}
theorem p_bm {o e : Expr} {es : List Expr} {to : TE} {t : TA} {name : Str} {apos cpos : Pos} {T id : String} {r : V → List V → Hp → VK → Prop} (pa : PlainAttrs T) (slot : Slot T name id) (hty : typeOf (.builtin id) = pure (.type "method_descriptor")) (hm : MtM X id r) (ho : PE X o to) (ha : PA X (e :: es) t) (hK : X.K = K := by rfl)
    (hbase : attributeBase o name X.env (eval o X.env) = eval o X.env := by rfl)
    (hfew : ((backTo cpos (starEach (e :: es) X.env)).all (fun x => !x.1) && (backToKw cpos (keywordEach [] X.env)).all (fun x => x.1.isSome) && decide ((e :: es).length + ([] : List Keyword).length + (if ([] : List Keyword).isEmpty then 0 else 1) < 30)) = true := by rfl)
    (hline : (apos.endLine == cpos.line) = true := by rfl) (hs : starEach (e :: es) X.env = (false, eval e X.env) :: starEach es X.env := by rfl) (hplain : (backTo cpos (starEach es X.env)).any (·.1) = false := by rfl) :
    PE X (.Call (.Attribute o name apos) (e :: es) [] cpos) (tBM K T r to t) := by
  subst hK
  exact pe_bm pa slot hty hm ho ha hbase hfew hline hs hplain
theorem p_zipA {e e2 : Expr} {ta : TA} {p pos tpos : Pos} {elts : List Expr} {kk : Nat} (hg : Gl X "zip") (hm : X.mg "zip" = none) (ha : PA X [e, e2] ta) (hK : X.K = K := by rfl)
    (hs : starEach [e, e2] X.env = (false, eval e X.env) :: starEach [e2] X.env := by rfl) (hpl : (backTo pos (starEach [e2] X.env)).any (·.1) = false := by rfl) : PI X (.Tuple elts kk tpos) (.Call (.Name "zip" p) [e, e2] [] pos) (RZ.iZipA K ta) := by
  subst hK
  exact RZ.pi_zipA hg hm ha hs hpl
/-! ### a walk over a list or a tuple -/
def SqS (K : PySem.W.Frag) (b : Bool) (H : Hp) (a : Addr) (xs : List V) : Prop := if b then SqL K H a xs else SqT K H a xs
def ItS (K : PySem.W.Frag) (b : Bool) (a : Addr) : It := if b then Itl K a else Itt K a
def oS (b : Bool) (xs : List V) : HO := if b then .lst xs else .tup xs
theorem SqS.of {K : PySem.W.Frag} {b : Bool} {H : Hp} {a : Addr} {xs : List V} (h : H a = some (oS b xs)) : SqS K b H a xs := by
  cases b
  · exact SqT.of h
  · exact SqL.of h
theorem SqS.or {K : PySem.W.Frag} {b : Bool} {H : Hp} {a : Addr} {xs : List V} (h : SqS K b H a xs) : SqL K H a xs ∨ SqT K H a xs := by
  cases b
  · exact .inr h
  · exact .inl h
theorem walk_seq {b : Bool} {a : Addr} {xs : List V} : Walk (ItS K b a) xs.length (fun H => SqS K b H a xs) (YAt xs) := by
  cases b
  · exact walk_tup
  · exact walk_list
def iSeq (K : PySem.W.Frag) (tl : TE) : TI := fun σ H R => tl σ H fun v H1 => ∃ (a : Addr) (xs : List V) (b : Bool), v = .ref a ∧ SqS K b H1 a xs ∧ R (ItS K b a) H1
theorem p_seq {tg l : Expr} {tl : TE} (hl : PE X l tl) (hK : X.K = K := by rfl) : PI X tg l (iSeq K tl) := by
  subst hK
  refine ⟨fun pins s σ H R I h => thn (hl.run pins s σ H _ I h) fun v s1 ⟨x, H1, I1, r1, q1⟩ => ?_⟩
  obtain ⟨a, xs, b, rfl, hq, q⟩ := q1
  cases r1
  have hf : ∀ c ∈ [s1.heap.objs.size], FpOk X pins H1 c := fun c hc => by
    rw [List.mem_singleton.mp hc]
    exact I1.fpOk (Nat.le_refl _) (I1.hok.fresh (Nat.le_refl _))
  cases b
  · obtain ⟨its, rv, p, hz⟩ := I1.tuple hq
    exact wpAny_pyIter_tuple (show s1.heap.IsTuple a its.toArray from p) ⟨s1.heap.objs.size, [s1.heap.objs.size], _, _, H1, rfl, I1.kept (t' := s1.toks) fun b o e => Heap.get?_push_of_some _ e, turn_tuple a _, ⟨_, Heap.get?_push_size _ rfl, rfl, rfl⟩, hf, q⟩
  · obtain ⟨its, rv, p, hz⟩ := I1.list hq
    exact wpAny_pyIter_list p.isList ⟨s1.heap.objs.size, [s1.heap.objs.size], _, _, H1, rfl, I1.kept (t' := s1.toks) fun b o e => Heap.get?_push_of_some _ e, turn_list a _, ⟨_, Heap.get?_push_size _ rfl, rfl, rfl⟩, hf, q⟩
end
end Bw
set_option Elab.async false
set_option linter.all false
set_option maxRecDepth 100000
set_option maxHeartbeats 4000000
namespace Bw
open PySem PySem.Spec PyProof.Rows L2
/-- a def read off its class, by the class's name -/
structure ClsFn (K : PySem.W.Frag) (mg : Str → Option Value) (x m : Str) (C f : Addr) : Prop where
  g : mg x = some (.ref C)
  sg : PySem.W.specialIn K (.ref C) "__getattribute__" = some (some (.builtin "type.__getattribute__"))
  ty : PySem.W.typeIn K (.ref C) = some (.type "type")
  rd : PySem.W.readsIn K C (.type "type") = true
  fc : PySem.W.findCls K (.ref C) (.type "type") m = some (.val (.ref f))
  kf : PySem.W.keepIn K (.ref f) = true
theorem pe_cfun {X : Cx} {x m : Str} {C f : Addr} {CX : CXT} {k : Nat} {fd : FuncData} {ps : List Str} {sp : Sp} {E : XK} {e : Expr} {es : List Expr} {t : TA} {np apos pos : Pos} {pl : Sem Bool} (T : ClsFn X.K X.mg x m C f) (F : FnOk X.prog X.w X.K X.mg X.base CX k f fd ps sp) (hr : Room k X.A) (hg : Gl X x)
    (hb : Binds X.K fd ps []) (hx : Passes CX X E) (ha : PA X (e :: es) t) (hdb : (x == ("__debug__" : Str)) = false := by decide)
    (ht : eval (.Call (.Attribute (.Name x np) m apos) (e :: es) [] pos) X.env = (do
      let ov ← eval (.Name x np) X.env
      standAt apos.atName
      let (f, first) ← holding [ov] (getMethod ov m pl)
      callWith pos f first (backTo pos (starEach (e :: es) X.env)) (backToKw pos (keywordEach [] X.env))) := by rfl)
    (he : starEach (e :: es) X.env = (false, eval e X.env) :: starEach es X.env := by rfl) (hpl : (backTo pos (starEach es X.env)).any (·.1) = false := by rfl) :
    PE X (.Call (.Attribute (.Name x np) m apos) (e :: es) [] pos) (tCall sp [] E t) := by
  refine ⟨fun pins s σ H Q I h => ?_⟩
  refine PySem.W.methodCall_KW (ld_glob I hg T.g ?_ hdb) ht
  obtain ⟨m, fr⟩ := I.fr
  refine PySem.W.method_of_cls fr I.ok.mod.kin T.sg (PySem.W.cls_val fr I.ok.mod.kin T.ty T.rd T.fc rfl ?_)
  show wpAny _ _ (callWith pos (Value.ref f) [] (backTo pos (starEach (e :: es) X.env)) []) _ _ _
  refine PySem.W.callWith_K (h₀ := X.base) I.ok.mod.kin T.kf (thn (ha.run pos pins _ σ H _ (I.tok _) h) fun us s1 ⟨vs, H1, I1, r, q⟩ => ⟨I1.kIn, ?_⟩) he hpl
  exact run_fn F hr hb .nil hx I1 r q
/-! ### raise C(), C with an __init__ of its own that wants nothing -/
theorem pmk_oex0 {X : Cx} {p pos : Pos} {CX : CXT} {x : Str} {C fI : Addr} {k : Nat} {fd : FuncData} {ps : List Str} {sp : Sp} (T : OexC X.K C) (iC : PySem.W.findIn X.K (.ref C) "__init__" = some (some (.ref fI))) (tI : PySem.W.typeIn X.K (.ref fI) = some (.type "function"))
    (F1 : FnOk X.prog X.w X.K X.mg X.base CX k fI fd ps sp) (hr : Room (k + 1) X.A) (hb : Binds X.K fd ps []) (hx : Passes CX X (fun _ _ _ => False)) (hg : Gl X x) (hm : X.mg x = some (.ref C)) (hdb : (x == ("__debug__" : Str)) = false := by decide) :
    PMk X (.Call (.Name x p) [] [] pos) (tMkO C sp [] tNil) := by
  intro pins s1 σ H1 Q I1 h
  obtain ⟨hz, q1⟩ := h
  obtain ⟨nm, q, N, bs, bm, sn, sub, ab, col, dd, k0, k1, k2, k3, k5, hC, hbm⟩ := T.cls
  refine wpAny_Call_Name_kw (ld_glob I1 hg hm ?_ hdb); refine PySem.W.callWith_K0 I1.kIn T.kC ?_
  show wpAny _ _ (call (.ref C) []) _ _ _
  obtain ⟨hp, g, dr, tk, os⟩ := s1
  have hsz : hp.objs.size ≤ hp.objs.size + 1 := Nat.le_succ _
  have hn : H1 (hp.objs.size + 1) = none := I1.hok.fresh hsz
  have hq := q1 (hp.objs.size + 1) hn
  have kk : ∀ b o, hp.get? b = some o → ((hp.push (PySem.W.kdv_tup [])).push (PySem.HandSPX.excO C hp.objs.size)).get? b = some o := fun b o e => Heap.get?_push_of_some _ (Heap.get?_push_of_some _ e)
  have hget : ((hp.push (PySem.W.kdv_tup [])).push (PySem.HandSPX.excO C hp.objs.size)).get? (hp.objs.size + 1) = some (PySem.HandSPX.excO C hp.objs.size) := by heap_get
  have I2 : L2.Inv X pins σ (upd H1 (hp.objs.size + 1) (exo (hp.objs.size + 1) C none)) ⟨(hp.push (PySem.W.kdv_tup [])).push (PySem.HandSPX.excO C hp.objs.size), g, dr, tk, os⟩ := I1.laid (t' := tk) (a := hp.objs.size + 1) (o := exo (hp.objs.size + 1) C none) (h' := (hp.push (PySem.W.kdv_tup [])).push (PySem.HandSPX.excO C hp.objs.size)) kk hsz (exo_ok hget)
  have r2 : Vals [V.ref (hp.objs.size + 1)] [Value.ref (hp.objs.size + 1)] := .cons rfl .nil
  have hl : ([Value.ref (hp.objs.size + 1)] ++ ([] : List Value)).length = ps.length := F1.len _ _ _ _ hq
  refine wpAny_call (PySem.HandSPX.call_own F.excBase_ValueError (fun Y => PySem.HandSPX.refsVE_contains Y bm hbm) (I1.kIn _ _ hC) (PySem.W.looks_findIn I1.kIn iC) (fun self => PySem.W.bind_fn I1.kIn self tI) (Nat.zero_le _)
    (codeAny_mono (F1.run _ X.stack _ _ ⟨[Value.ref (hp.objs.size + 1)], []⟩ [Value.ref (hp.objs.size + 1)] _ _ (fun _ _ _ => False) (hr.make C [] []) (I2.env0.make C [] []) (hb _ [Value.ref (hp.objs.size + 1)] I2.kIn hl) r2 hq) fun r s' hq' => ?_))
  cases r with
  | error er => exact hx pins σ _ _ er s' I2 hq'
  | ok fl =>
    cases fl with
    | ret u =>
      obtain ⟨v, H2, os2, bare2, un2, hok2, rv, ev, d, fs, ea, ed, hd1, q2⟩ := hq'
      subst ev
      obtain ⟨h2, g2, d2, t2, os'⟩ := s'
      exact ⟨rv, mk_end (raises_own T.exC T.tyC) I1 hsz kk un2 hok2 os2 bare2 ea ed hd1 q2⟩
    | next => exact False.elim hq'
    | brk => exact False.elim hq'
    | cont => exact False.elim hq'
/-- f(k = e, ..), nothing by place -/
def tCallK0 (sp : Sp) (gV : List V → List V → List V) (E : XK) (tk : TA) : TE := fun σ H Q => tk σ H fun zs H2 => sp (gV [] zs) H2 Q E
theorem pe_callK0 {X : Cx} {CX : CXT} {k : Nat} {f : Addr} {fd : FuncData} {ps ks : List Str} {sp : Sp} {E : XK} {x : Str} {p pos : Pos} {kws : List Keyword} {tk : TA} {g : List Value → List Value → List Value} {gV : List V → List V → List V}
    (F : FnOk X.prog X.w X.K X.mg X.base CX k f fd ps sp) (hr : Room k X.A) (hg : Gl X x) (hm : X.mg x = some (.ref f)) (hk : PySem.W.keepIn X.K (.ref f) = true) (hb : KBinds X.K fd ps ks g gV) (hx : Passes CX X E)
    (hkw : PK X kws tk) (hall : (backToKw pos (keywordEach kws X.env)).all (·.1.isSome) = true := by rfl) (hks : (backToKw pos (keywordEach kws X.env)).filterMap (·.1) = ks := by rfl)
    (hdb : (x == ("__debug__" : Str)) = false := by decide) (hpl : ((backTo pos (starEach [] X.env)).any (·.1) || (backToKw pos (keywordEach kws X.env)).any (·.1.isNone)) = false := by rfl) :
    PE X (.Call (.Name x p) [] kws pos) (tCallK0 sp gV E tk) := by
  refine ⟨fun pins s σ H Q I h => ?_⟩
  refine wpAny_Call_Name_kw (ld_glob I hg hm ?_ hdb)
  refine PySem.W.callWith_KW0 (h₀ := X.base) I.ok.mod.kin hk hall (thn (hkw.run pos pins s σ H _ I h) fun ws s2 ⟨zs, H2, I2, rz, q2⟩ => ⟨I2.kIn, ?_⟩) hpl
  rw [hks]
  exact run_fnk (us := []) (vs := []) F hr hb hx I2 .nil rz q2
theorem it_walk {J : It} {n : Nat} {G : Hp → Prop} {Y : Nat → Hp → V → Hp → Prop} (wk : Walk J n G Y) {H1 : Hp} {Qd : Hp → Prop} {Body : V → Hp → (Hp → Prop) → Prop} (Pv : Nat → Hp → Prop) (h0 : Pv 0 H1) (hG : ∀ i H, i ≤ n → Pv i H → G H)
    (hs : ∀ i x H H', i < n → Pv i H → Y i H x H' → Body x H' (Pv (i + 1))) (hd : ∀ H, Pv n H → Qd H) :
    ∃ W : Nat → Nat → Hp → Prop, (∃ m, W 0 m H1) ∧ ∀ i m H, W i m H → (J.stop i H ∧ Qd H) ∨ (J.go i H ∧ ∃ Nx : Hp → Prop, (∀ H', Nx H' → ∃ m', m' < m ∧ W (i + 1) m' H') ∧ ∀ x H', J.yld i H x H' → Body x H' Nx) := by
  refine ⟨fun i m H => m = n - i ∧ i ≤ n ∧ Pv i H, ⟨n, rfl, Nat.zero_le _, h0⟩, ?_⟩
  rintro i m H ⟨rfl, hi, p⟩
  have q := hG i H hi p
  by_cases hlt : i < n
  · exact .inr ⟨wk.goes i H hlt q, Pv (i + 1), fun H' p' => ⟨n - (i + 1), by omega, rfl, hlt, p'⟩, fun x H' y => hs i x H H' hlt p (wk.yields i H x H' hlt q y)⟩
  · have e : i = n := by omega
    subst e
    exact .inl ⟨wk.stops H q, hd H p⟩
section
variable {X : Cx} {K : PySem.W.Frag}
theorem p_bmR {o e : Expr} {es : List Expr} {to : TE} {t : TA} {name : Str} {apos cpos : Pos} {T id : String} {r : V → List V → Hp → VK → Prop} (pa : PlainAttrs T) (slot : Slot T name id) (hty : typeOf (.builtin id) = pure (.type "method_descriptor")) (hm : MtR X id r) (ho : PE X o to) (ha : PA X (e :: es) t) (hK : X.K = K := by rfl)
    (hbase : attributeBase o name X.env (eval o X.env) = eval o X.env := by rfl)
    (hfew : ((backTo cpos (starEach (e :: es) X.env)).all (fun x => !x.1) && (backToKw cpos (keywordEach [] X.env)).all (fun x => x.1.isSome) && decide ((e :: es).length + ([] : List Keyword).length + (if ([] : List Keyword).isEmpty then 0 else 1) < 30)) = true := by rfl)
    (hline : (apos.endLine == cpos.line) = true := by rfl) (hs : starEach (e :: es) X.env = (false, eval e X.env) :: starEach es X.env := by rfl) (hplain : (backTo cpos (starEach es X.env)).any (·.1) = false := by rfl) :
    PE X (.Call (.Attribute o name apos) (e :: es) [] cpos) (tBM K T r to t) := by
  subst hK
  exact pe_bm pa slot hty hm ho ha hbase hfew hline hs hplain
theorem c_max (hc : X.calm = true) (h : X.K = K := by rfl) : CallR X (.builtin "max") (rMax K) := by
  subst h
  exact cr_max hc
end
end Bw
set_option Elab.async false
set_option linter.all false
set_option maxRecDepth 100000
set_option maxHeartbeats 4000000
namespace Bw
open PySem PySem.Spec PyProof.Rows L2
/-! ### max and min of a tuple of whole numbers -/
section
variable {prog : Program} {w : World} {A : Around} {E : Value → Shared → Prop} {s : Shared} {l : Addr} {xs : Array (Int × Tok)}
theorem iter_intTup {Q : Value → Shared → Prop} (hl : s.heap.IsTuple l (intItems xs))
    (h : ∀ s₂ : Shared, s₂ = { s with heap := s.heap.push { cls := .type "tuple_iterator", data := .fields #[.ref l, .int 0 0] } } →
      (s₂.heap.IsTupleIter s.heap.objs.size l 0 ∧ s₂.heap.IsTuple l (intItems xs)) → (∀ b ∈ [s.heap.objs.size, l], b < s₂.heap.objs.size) → l ≠ s.heap.objs.size → Q (.ref s.heap.objs.size) s₂) :
    wpAny (model prog w) A (pyIter (.ref l)) Q E s := by
  have hlt : l < s.heap.objs.size := by obtain ⟨_, e, _⟩ := hl; exact Heap.lt_size e
  refine wpAny_pyIter_tuple hl (h _ rfl ⟨⟨_, Heap.get?_push_size _ rfl, rfl, rfl⟩, hl.at fun o e => Heap.get?_push_of_some _ e⟩ (fun b hb => ?_) (Nat.ne_of_lt hlt))
  show b < (s.heap.push _).objs.size
  rw [Heap.size_push]
  rcases List.mem_cons.mp hb with rfl | hb
  · exact Nat.lt_succ_self _
  · rcases List.mem_cons.mp hb with rfl | hb
    · exact Nat.lt_succ_of_lt hlt
    · cases hb
theorem old_keptT {h' : Heap} {o₀ : Obj} (hk : ∀ b o, b ∉ [s.heap.objs.size] → (s.heap.push o₀).get? b = some o → h'.get? b = some o) :
    ∀ b o, s.heap.get? b = some o → h'.get? b = some o := fun b o e => by
  refine hk b o (fun hm => ?_) (Heap.get?_push_of_some _ e)
  rcases List.mem_cons.mp hm with e1 | hm
  · exact absurd (e1 ▸ Heap.lt_size e) (Nat.lt_irrefl _)
  · cases hm
theorem max_intTup {Q : Value → Shared → Prop} (hh : A.handled = none) (hl : s.heap.IsTuple l (intItems xs)) (hne : 0 < xs.size)
    (h : ∀ v h' tk, (intItems xs)[argBest (fun i j => decide (numAt xs i > numAt xs j)) (xs.size - 1)]? = some v → (∀ b o, s.heap.get? b = some o → h'.get? b = some o) → Q v { s with heap := h', toks := tk }) :
    wpAny (model prog w) A (call (.builtin "max") [.ref l]) Q E s := by
  refine call_max_walk (iter_intTup hl fun s₂ e st hfp hlI => ?_)
  subst e
  refine ⟨_, _, _, _, _, _, _, rfl, Walks.tuple (A := A.in1) hh _ l hlI (intItems xs), st, hfp, by simpa [intItems] using hne, CmpOf.ints_gt (numAt xs) (fun _ _ => intItems_at), fun v h' tk hP hk => ?_⟩
  exact h v h' tk (by simpa [intItems] using hP) (old_keptT hk)
theorem min_intTup {Q : Value → Shared → Prop} (hh : A.handled = none) (hl : s.heap.IsTuple l (intItems xs)) (hne : 0 < xs.size)
    (h : ∀ v h' tk, (intItems xs)[argBest (fun i j => decide (numAt xs i < numAt xs j)) (xs.size - 1)]? = some v → (∀ b o, s.heap.get? b = some o → h'.get? b = some o) → Q v { s with heap := h', toks := tk }) :
    wpAny (model prog w) A (call (.builtin "min") [.ref l]) Q E s := by
  refine call_min_walk (iter_intTup hl fun s₂ e st hfp hlI => ?_)
  subst e
  refine ⟨_, _, _, _, _, _, _, rfl, Walks.tuple (A := A.in1) hh _ l hlI (intItems xs), st, hfp, by simpa [intItems] using hne, CmpOf.ints_lt (numAt xs) (fun _ _ => intItems_at), fun v h' tk hP hk => ?_⟩
  exact h v h' tk (by simpa [intItems] using hP) (old_keptT hk)
theorem max_rawT {its : List Value} {ns : List Int} {Q : Value → Shared → Prop} (hh : A.handled = none) (hl : s.heap.IsTuple l its.toArray) (hi : IntsAre its ns) (hne : 0 < ns.length)
    (h : ∀ h' tk M t', (∀ b o, s.heap.get? b = some o → h'.get? b = some o) → M ∈ ns → (∀ a, a ∈ ns → a ≤ M) → Q (.int M t') { s with heap := h', toks := tk }) : wpAny (model prog w) A (call (.builtin "max") [.ref l]) Q E s := by
  obtain ⟨xs, e⟩ := hi.allInts.items
  have hn : numsOf (intItems xs).toList = ns := by rw [← e]; exact hi.numsOf
  rw [nums_intItems] at hn
  subst hn
  rw [e] at hl
  have hsz : 0 < xs.size := by simpa using hne
  refine max_intTup hh hl hsz fun v h' tk hv hk => ?_
  obtain ⟨t, rfl⟩ := intItems_at hv
  obtain ⟨h1, h2⟩ := argBest_gt (numAt xs) (xs.size - 1)
  refine h h' tk _ t hk ?_ fun a ha => ?_
  · rw [numAt_eq]; exact PySem.getD_mem (by rw [List.length_map, Array.length_toList]; omega)
  · obtain ⟨j, hj, rfl⟩ := mem_getD ha
    rw [List.length_map, Array.length_toList] at hj
    rw [← numAt_eq]; exact h2 j (by omega)
theorem min_rawT {its : List Value} {ns : List Int} {Q : Value → Shared → Prop} (hh : A.handled = none) (hl : s.heap.IsTuple l its.toArray) (hi : IntsAre its ns) (hne : 0 < ns.length)
    (h : ∀ h' tk M t', (∀ b o, s.heap.get? b = some o → h'.get? b = some o) → M ∈ ns → (∀ a, a ∈ ns → M ≤ a) → Q (.int M t') { s with heap := h', toks := tk }) : wpAny (model prog w) A (call (.builtin "min") [.ref l]) Q E s := by
  obtain ⟨xs, e⟩ := hi.allInts.items
  have hn : numsOf (intItems xs).toList = ns := by rw [← e]; exact hi.numsOf
  rw [nums_intItems] at hn
  subst hn
  rw [e] at hl
  have hsz : 0 < xs.size := by simpa using hne
  refine min_intTup hh hl hsz fun v h' tk hv hk => ?_
  obtain ⟨t, rfl⟩ := intItems_at hv
  obtain ⟨h1, h2⟩ := argBest_lt (numAt xs) (xs.size - 1)
  refine h h' tk _ t hk ?_ fun a ha => ?_
  · rw [numAt_eq]; exact PySem.getD_mem (by rw [List.length_map, Array.length_toList]; omega)
  · obtain ⟨j, hj, rfl⟩ := mem_getD ha
    rw [List.length_map, Array.length_toList] at hj
    rw [← numAt_eq]; exact h2 j (by omega)
end
section
variable {X : Cx} {K : PySem.W.Frag}
def rMaxT (K : PySem.W.Frag) : List V → Hp → VK → Prop := fun vs H Q => ∃ (a : Addr) (ns : List Int), vs = [V.ref a] ∧ SqT K H a (ns.map V.int) ∧ 0 < ns.length ∧ ∀ m, m ∈ ns → (∀ y, y ∈ ns → y ≤ m) → Q (.int m) H
def rMinT (K : PySem.W.Frag) : List V → Hp → VK → Prop := fun vs H Q => ∃ (a : Addr) (ns : List Int), vs = [V.ref a] ∧ SqT K H a (ns.map V.int) ∧ 0 < ns.length ∧ ∀ m, m ∈ ns → (∀ y, y ∈ ns → m ≤ y) → Q (.int m) H
theorem c_maxT (hc : X.calm = true) (h : X.K = K := by rfl) : CallR X (.builtin "max") (rMaxT K) := by
  subst h
  intro pins s σ H vs us Q I r h
  obtain ⟨a, ns, rfl, hs, hne, q⟩ := h
  obtain ⟨its, rv, hl, _⟩ := I.tuple hs
  rw [Vals.ref1 r]
  exact max_rawT (I.ok.hd hc) hl rv.ints hne fun h' tk m t' hk h1 h2 => ⟨.int _, H, I.kept hk, ⟨_, rfl⟩, q m h1 h2⟩
theorem c_minT (hc : X.calm = true) (h : X.K = K := by rfl) : CallR X (.builtin "min") (rMinT K) := by
  subst h
  intro pins s σ H vs us Q I r h
  obtain ⟨a, ns, rfl, hs, hne, q⟩ := h
  obtain ⟨its, rv, hl, _⟩ := I.tuple hs
  rw [Vals.ref1 r]
  exact min_rawT (I.ok.hd hc) hl rv.ints hne fun h' tk m t' hk h1 h2 => ⟨.int _, H, I.kept hk, ⟨_, rfl⟩, q m h1 h2⟩
end
end Bw
set_option Elab.async false
set_option linter.all false
set_option maxRecDepth 100000
set_option maxHeartbeats 4000000
namespace Bw
open PySem PySem.Spec PyProof.Rows L2
/-! ### a op b op c op d -/
section
variable {X : Cx} {K : PySem.W.Frag} {a b c d : Expr} {ta tb tc td : TE} {pos : Pos}
def tChain3 (r r' r'' : R2) (ta tb tc td : TE) : TE := fun σ H Q => ta σ H fun x H1 => tb σ H1 fun y H2 => r x y H2 fun z H3 => ∃ k, z = .bl k ∧
  (if k = true then tc σ H3 fun w' H4 => r' y w' H4 fun z H5 => ∃ k, z = .bl k ∧ (if k = true then td σ H5 fun v' H6 => r'' w' v' H6 Q else Q (.bl false) H5) else Q (.bl false) H3)
theorem pe_chain3 {op op' op'' : CmpOp} {r r' r'' : R2} (ho : OpR X (compareOp op) r) (ho' : OpR X (compareOp op') r') (ho'' : OpR X (compareOp op'') r'') (ha : PE X a ta) (hb : PE X b tb) (hc : PE X c tc) (hd : PE X d td)
    (hm : lastMarks [op, op', op''] [b, c, d] = false := by with_unfolding_all rfl) : PE X (.Compare a [op, op', op''] [b, c, d] pos) (tChain3 r r' r'' ta tb tc td) := by
  refine ⟨fun pins s σ H Q I h => ?_⟩
  refine Compare_chain (thn (ha.run pins s σ H _ I h) fun v s1 ⟨x, H1, I1, r1, q1⟩ => chain_link (thn (hb.run pins s1 σ H1 _ I1 q1) fun u s2 ⟨y, H2, I2, r2, q2⟩ =>
    thn (ho pins s2 σ H2 x y v u _ I2 r1 r2 q2) fun d s3 ⟨z, H3, I3, r3, k, e, q3⟩ => ?_)) hm
  subst e
  cases r3
  refine wpAny_truthy_bool ?_
  cases k with
  | false => exact ite_ff ⟨.bl false, H3, I3, rfl, q3⟩
  | true =>
    refine ite_tt (chain_link (thn (hc.run pins s3 σ H3 _ I3 q3) fun w' s4 ⟨z', H4, I4, r4, q4⟩ => thn (ho' pins s4 σ H4 y z' u w' _ I4 r2 r4 q4) fun d s5 ⟨z, H5, I5, r5, k, e, q5⟩ => ?_))
    subst e
    cases r5
    refine wpAny_truthy_bool ?_
    cases k with
    | false => exact ite_ff ⟨.bl false, H5, I5, rfl, q5⟩
    | true => exact ite_tt (chain_last (thn (hd.run pins s5 σ H5 _ I5 q5) fun w2 s6 ⟨z2, H6, I6, r6, q6⟩ => ho'' pins s6 σ H6 z' z2 w' w2 Q I6 r4 r6 q6))
/-! ### x in t, a tuple of data -/
def rInDT (K : PySem.W.Frag) (neg : Bool) : R2 := fun x y H Q => ∃ d ds, Dp K H x d ∧ Dp K H y (.tuple ds) ∧ SeqAt.shaped d = true ∧ SeqAt.shaped (.tuple ds) = true ∧ Q (.bl (if neg then !(ds.any fun z => PyData.eqv z d) else ds.any fun z => PyData.eqv z d)) H
theorem o_inDT (hu : X.A.units + 65 < cLine) (hK : X.K = K := by rfl) : OpR X (compareOp .In) (rInDT K false) := by
  subst hK
  intro pins s σ H x y v u Q I rx ry h
  obtain ⟨d, ds, hd, he, sd, se, q⟩ := h
  obtain ⟨as, r1⟩ := Dp.reads I d x v hd rx
  obtain ⟨bs, r2⟩ := Dp.reads I (.tuple ds) y u he ry
  exact SeqAt.in_tuple_reads r2 r1 (SeqAt.canLay_of_shaped se) (SeqAt.canLay_of_shaped sd) (room_in_shaped sd hu) ⟨.bl _, H, I, rfl, q⟩
theorem o_notInDT (hu : X.A.units + 65 < cLine) (hK : X.K = K := by rfl) : OpR X (compareOp .NotIn) (rInDT K true) := by
  subst hK
  intro pins s σ H x y v u Q I rx ry h
  obtain ⟨d, ds, hd, he, sd, se, q⟩ := h
  obtain ⟨as, r1⟩ := Dp.reads I d x v hd rx
  obtain ⟨bs, r2⟩ := Dp.reads I (.tuple ds) y u he ry
  exact SeqAt.notIn_tuple_reads r2 r1 (SeqAt.canLay_of_shaped se) (SeqAt.canLay_of_shaped sd) (room_in_shaped sd hu) ⟨.bl _, H, I, rfl, q⟩
theorem o_inDL (hu : X.A.units + 65 < cLine) (hK : X.K = K := by rfl) : OpR X (compareOp .In) (rInD K) := by
  subst hK
  exact op_inD hu
theorem o_notInDL (hu : X.A.units + 65 < cLine) (hK : X.K = K := by rfl) : OpR X (compareOp .NotIn) (rNotInD K) := by
  subst hK
  exact op_notInD hu
theorem o_leT (hu : X.A.units < cLine) (hK : X.K = K := by rfl) : OpR X (compareOp .LtE) (rLeT K) := by
  subst hK
  exact op_leT hu
theorem o_ltT (hu : X.A.units < cLine) (hK : X.K = K := by rfl) : OpR X (compareOp .Lt) (rLtT K) := by
  subst hK
  exact op_ltT hu
end
/-! ### t[::-1] of a tuple -/
section
variable {prog : Program} {w : World} {A : Around} {E : Value → Shared → Prop} {s : Shared}
theorem places_rev (n : Nat) : Builtin.Slice.slicePlaces ((n : Int) - 1) (-1) (-1) = n := by
  unfold Builtin.Slice.slicePlaces
  rw [if_neg (by decide)]
  by_cases h : (n : Int) - 1 > -1
  · rw [if_pos h, show (- -1 : Int) = 1 by decide, Int.ediv_one]
    omega
  · rw [if_neg h]
    omega
theorem fm_congr {α β : Type} {f g : α → Option β} : ∀ {l : List α}, (∀ x ∈ l, f x = g x) → l.filterMap f = l.filterMap g
  | [], _ => rfl
  | x :: l, h => by
    rw [List.filterMap_cons, List.filterMap_cons, h x List.mem_cons_self, fm_congr (l := l) fun y hy => h y (List.mem_cons_of_mem _ hy)]
theorem pick_rev (xs : Array Value) : ((List.range xs.size).filterMap fun (k : Nat) => xs[(((xs.size : Int) - 1) + (k : Int) * (-1)).toNat]?).toArray = xs.toList.reverse.toArray := by
  have e : ((List.range xs.size).filterMap fun (k : Nat) => xs[(((xs.size : Int) - 1) + (k : Int) * (-1)).toNat]?) = ((List.range xs.size).map fun k => xs.size - 1 - k).filterMap (xs[·]?) := by
    rw [List.filterMap_map]
    refine fm_congr fun k hk => ?_
    have := List.mem_range.mp hk
    show _ = xs[xs.size - 1 - k]?
    congr 1
    omega
  rw [e, PySem.W.krv_range, List.filterMap_reverse, PySem.W.krv_all]
theorem sliceApplied_rev {sl : Addr} {n : Nat} {u : Tok} {Q : Int × Int × Nat → Shared → Prop} (hs : s.heap.IsSliceOf sl .none .none (.int (-1) u))
    (h : Q ((n : Int) - 1, -1, n) s) :
    wpAny (model prog w) A (Builtin.Slice.sliceApplied (.ref sl) (pure (n : Int))) Q E s := by
  obtain ⟨os, hos, hcs, hds⟩ := id hs
  unfold Builtin.Slice.sliceApplied Builtin.Slice.sliceFields
  refine wpAny_bind (wpAny_bind (wpAny_field hos hds (x := .none) rfl (wpAny_bind (wpAny_field hos hds (x := .none) rfl (wpAny_bind (wpAny_field hos hds (x := .int (-1) u) rfl (wpAny_pure ?_)))))))
  refine wpAny_bind (slicePart_int ?_)
  show wpAny _ _ (if ((-1 : Int) == 0) = true then _ else _) _ _ s
  rw [if_neg (by decide)]
  refine wpAny_bind (slicePart_none (wpAny_bind (slicePart_none (wpAny_bind (wpAny_pure ?_)))))
  show wpAny _ _ (pure ((n : Int) - 1, (-1 : Int), Builtin.Slice.slicePlaces ((n : Int) - 1) (-1) (-1))) _ _ s
  rw [places_rev]
  exact wpAny_pure h
theorem getItem_tuple_rev {t sl : Addr} {items : Array Value} {u : Tok} {Q : Value → Shared → Prop} (ht : IsTup s.heap t items) (hs : s.heap.IsSliceOf sl .none .none (.int (-1) u))
    (h : Q (.ref s.heap.objs.size) { s with heap := s.heap.push { cls := .type "tuple", data := .seq items.toList.reverse.toArray } })
    (hsz : items.size ≤ sizeLine := by size_fits) : wpAny (model prog w) A (getItem (.ref t) (.ref sl)) Q E s := by
  have hdrop : sizeOk (.seq items.toList.reverse.toArray) := by
    show items.toList.reverse.toArray.size ≤ sizeLine
    rw [List.size_toArray, List.length_reverse, Array.length_toList]
    omega
  obtain ⟨os, hos, hcs, hds⟩ := id hs
  have hTs : s.TypeIs (.ref sl) "slice" := ⟨os, hos, hcs⟩
  unfold getItem
  try with_reducible refine wpAny_holding ?_
  first | refine wpAny_bind (wpAny_pure ?_) | skip
  refine wpAny_bind (wpAny_sequenceKey ht.typeIs (by decide) ?_)
  refine wpAny_bind (wpAny_callSpecial?_slot (name := Str.ofString "__getitem__") ht.typeIs slot_tuple_getitem
    (wpAny_call_entry slot_tuple_getitem ht.typeIs entry_tuple_getitem ?_ (args_tuple_getitem _ _)))
  show wpAny _ _ (Builtin.Tuple.tupleItemsOf (.ref t) >>= _) _ _ s
  refine wpAny_bind (tupleItemsOf_ ht ?_)
  refine wpAny_bind (wpAny_typeOf hTs ?_)
  rw [if_pos (by decide)]
  refine wpAny_bind (sliceApplied_rev hs ?_)
  have hno : ¬ ((((items.size : Int) - 1 == 0) && ((-1 : Int) == 1) && (items.size == items.size)) = true) := by
    cases ((items.size : Int) - 1 == 0) <;> simp
  show wpAny _ _ (if (((items.size : Int) - 1 == 0) && ((-1 : Int) == 1) && (items.size == items.size)) = true then _ else _) _ _ s
  rw [if_neg hno, pick_rev items]
  first
    | exact wpAny_bind (m := Builtin.Tuple.tupleExact _) (wpAny_newObj_type (wpAny_pure ⟨_, rfl, wpAny_pure h⟩) hdrop)
    | exact wpAny_bind (m := Builtin.Tuple.tupleExact _) (wpAny_newObj_type (wpAny_bind (wpAny_pure (wpAny_pure ⟨_, rfl, wpAny_pure h⟩))) hdrop)
    | exact wpAny_bind (wpAny_bind (m := Builtin.Tuple.tupleExact _) (wpAny_newObj_type (wpAny_pure (wpAny_pure ⟨_, rfl, wpAny_pure h⟩)) hdrop))
    | exact wpAny_bind (wpAny_bind (m := Builtin.Tuple.tupleExact _) (wpAny_newObj_type (wpAny_pure ⟨_, rfl, wpAny_pure h⟩) hdrop))
end
section
variable {X : Cx} {K : PySem.W.Frag}
def tRevT (K : PySem.W.Frag) (te : TE) : TE := fun σ H Q => te σ H fun x H1 => ∃ a xs, x = .ref a ∧ SqT K H1 a xs ∧ ∀ p, H1 p = none → Q (.ref p) (upd H1 p (.tup xs.reverse))
theorem pe_revT {e : Expr} {te : TE} {k : Nat} {p1 p2 p3 pos : Pos} (he : PE X e te) (hK : X.K = K := by rfl) : PE X (.Subscript e (.Slice none none (some (.UnaryOp .USub (.Constant (.int 1) k p1) p2)) p3) pos) (tRevT K te) := by
  subst hK
  refine ⟨fun pins s σ H Q I h => ?_⟩
  refine Subscript_ (thn (he.run pins s σ H _ I h) fun v s1 ⟨x, H1, I1, r1, q1⟩ => ?_)
  obtain ⟨a, xs, ex, hx, q⟩ := q1
  subst ex
  cases r1
  have hst : PO X (some (.UnaryOp .USub (.Constant (.int 1) k p1) p2)) (tPart (tUn (rU fun i => .int (-i)) (tC (.int 1)))) := po_some (pe_un un_neg pe_int)
  refine wpAny_Slice (thn (po_none.run pins s1 σ H1 (fun o H2 => o = none ∧ H2 = H1) I1 ⟨rfl, rfl⟩) fun vl s2 ⟨l, H2, I2, pl, el, e2⟩ => ?_)
  subst el e2
  refine thn (po_none.run pins s2 σ H2 (fun o H3 => o = none ∧ H3 = H2) I2 ⟨rfl, rfl⟩) fun vu s3 ⟨u, H3, I3, pu, eu, e3⟩ => ?_
  subst eu e3
  refine thn (hst.run pins s3 σ H3 (fun o H4 => o = some (-1) ∧ H4 = H3) I3 ⟨1, rfl, -1, rfl, rfl, rfl⟩) fun vs s4 ⟨o, H4, I4, ps, eo, e4⟩ => ?_
  subst eo e4
  have I5 : L2.Inv X pins σ H4 { s4 with heap := s4.heap.push { cls := .type "slice", data := .fields #[vl, vu, vs] } } := I4.kept (t' := s4.toks) fun b ob q => Heap.get?_push_of_some _ q
  obtain ⟨its, r, ht, hz⟩ := I5.tuple hx
  have hlen := r.length
  cases pl
  cases pu
  obtain ⟨u, es⟩ : ∃ u, vs = .int (-1) u := by
    cases ps
    exact ⟨_, rfl⟩
  subst es
  show wpAny (model X.prog X.w) X.A (subscriptTail e (.Slice none none (some (.UnaryOp .USub (.Constant (.int 1) k p1) p2)) p3) (.ref a) (.ref s4.heap.objs.size)) (EP X pins σ Q) X.xe _
  refine tail_any (ops := [.ref a, .ref s4.heap.objs.size]) ht.typeIs (slot_tuple_getitem.lookup) ?_ (by with_unfolding_all rfl)
  refine getItem_tuple_rev ht (Heap.IsSliceOf.new _ _ _ _) ?_ (by rw [List.size_toArray]; omega)
  refine ⟨.ref _, _, I5.laid (t' := s4.toks) (o := .tup xs.reverse) (fun b ob q => Heap.get?_push_of_some _ q) (Nat.le_refl _) ?_, rfl, q _ (I5.hok.fresh (Nat.le_refl _))⟩
  exact ⟨by rw [List.length_reverse]; exact hz, _, r.reverse, IsTup.new _ _⟩
end
end Bw
set_option Elab.async false
set_option linter.all false
set_option maxRecDepth 100000
set_option maxHeartbeats 4000000
namespace Bw
open PySem PySem.Spec PyProof.Rows L2 LamX
/-! ### try: .. except x as n: .. and more clauses, where the first one takes whatever is raised -/
def wAs1 (K : PySem.W.Frag) (c : Value) (i : Nat) (ts : Addr → Value → Option Addr → TS) (D : Ends) : WX := fun cls d σ H =>
  PySem.W.exmOne K cls c = some true ∧ ∀ a, H a = none → ts a cls d { nx := fun σ' H' => D.nx (σ'.set i none) H', rt := D.rt, bk := fun σ' H' => D.bk (σ'.set i none) H', ct := fun σ' H' => D.ct (σ'.set i none) H' } (σ.set i (some (.ref a))) H
theorem ps_try_as1 {X : Cx} {x n : Str} {c : Value} {i : Nat} {body suite : List Stmt} {b₀ : Stmt} {np pos pos' : Pos} {tb : WX → TS} {ts : Addr → Value → Option Addr → TS} {hds : List ExceptHandler} (hs : X.stack = X.env :: X.outer) (hf : X.env.frame = some X.env.locals) (hN : X.N.Nodup) (hi : X.N[i]? = some n) (hln : X.env.kindOf n = some .local) (hc : Names X x c)
    (hb : ∀ (W : WX) (pn : List (Addr × Obj)) (xe : Value → Shared → Prop), Takes (X.tr pn xe) W → PassesOwn (model X.prog X.w) X.A X.env xe → PSs (X.tr pn xe) body (tb W))
    (hsu : ∀ (a : Addr) (oe : Obj) (cls : Value) (d : Option Addr) (pn : List (Addr × Obj)), Zc cls d oe → (∃ vs, oe.data = .fields vs) → PSs (X.suite a ((a, oe) :: pn)) (b₀ :: suite) (ts a cls d)) :
    PS X (.Try body (.ExceptHandler (some (.Name x np)) (some n) (b₀ :: suite) pos' :: hds) [] [] pos) (fun D σ H => tb (wAs1 X.K c i ts D) D σ H) := by
  refine ⟨fun pins s σ H D I h => ?_⟩
  have ok := I.ok
  have hfr : X.A.frames = some (X.env :: X.outer) := by rw [ok.frames, hs]
  have hloc : Loc X.env.scope n := .inl hln
  refine wpAny_Try_except ?_
  refine wpAny_mono ((hb (wAs1 X.K c i ts D) (X.pn ++ pins) (fun e s₁ => wpAny (model X.prog X.w) X.A (noteFrame e X.env) (fun _ s₂ => wpAny (model X.prog X.w) X.A (setFlight e none) (fun _ s₃ => wpAny (model X.prog X.w) X.A (handleBy e X.env (.ExceptHandler (some (.Name x np)) (some n) (b₀ :: suite) pos' :: hds)) (SP X pins D) X.xe s₃) X.xe s₂) X.xe s₁) (fun u s' xx => ?_) PassesOwn.looking).run [] s σ H D (I.toTry _) h) (fun f s1 hsp => ?_) (fun e s1 he => he)
  · obtain ⟨a, B, sI, pins', σ', H', cls, d, rfl, J', nb, up, sky, na, os, ag, hb1, hyes⟩ := xx
    have J : L2.Inv X pins σ' H' sI := J'.ofTry ok
    have sky' : Sky B (X.env :: X.outer) a (Zc cls d) X.env.locals s'.heap := by rw [← hs]; exact sky
    show wpAny (model X.prog X.w) X.A (noteFrame (.ref a) X.env) _ _ _
    refine Sky.land Zc.steady hfr hf sky' fun h3 fl3 up3 => ?_
    have J3 : L2.Inv X pins σ' H' { s' with heap := h3 } := J.landed nb fl3.1 (up.trans up3) os ag
    obtain ⟨oe3, vs3, he3, hz3, hd3⟩ := fl3.there
    have nfr : a ∉ frs (X.env :: X.outer) := fun hm => by
      obtain ⟨_, o', e', hnf⟩ := fl3.2.2.1.mem hm
      rw [he3] at e'; cases e'
      exact hnf _ hd3
    have nL : a ≠ X.env.locals := fun z => nfr (List.mem_filterMap.mpr ⟨X.env, List.mem_cons_self, by rw [hf, z]⟩)
    have nF : a ∉ X.fs := fun hm => by
      obtain ⟨e, he, q⟩ := List.mem_filterMap.mp hm
      exact nfr (List.mem_filterMap.mpr ⟨e, List.mem_cons_of_mem _ he, q⟩)
    have S3 := J3.suite he3 hd3 na nL nF
    refine wpAny_handleBy_cons (codeAny_handlers_test ?_) (by intro q; cases q)
    have LT : PySem.W.Looks (model X.prog X.w) h3 (typeOf (.ref a)) cls := fun A Q E s k q => wpAny_typeOf_ref (k _ _ he3) (by rw [hz3.1]; exact q)
    have LM := PySem.W.exm_one (M := model X.prog X.w) (J3.kIn) LT hb1
    have test : ∀ {Q : Value → Shared → Prop} {E : Value → Shared → Prop}, Q c { s' with heap := h3 } → wpAny (model X.prog X.w) (X.A.mark (some (.ref a))) (eval (.Name x np) X.env) Q E { s' with heap := h3 } := fun {Q E} q => by
      obtain ⟨hg, hdbg, hm | ⟨hm, hv, hnn⟩⟩ := hc
      · exact ld_glob (X := X.suite a ((a, oe3) :: (X.pn ++ pins))) S3 hg hm q hdbg
      · exact ld_blt (X := X.suite a ((a, oe3) :: (X.pn ++ pins))) S3 hg hm hv q hnn hdbg
    refine test (LM.here ?_)
    refine codeAny_handlers_suite_as ?_
    refine HandSPX.lands_againZ fl3 fun h4 fl4 up4 => ?_
    have J4 : L2.Inv X pins σ' H' { s' with heap := h4 } := J.landed nb fl4.1 ((up.trans up3).trans up4) os ag
    obtain ⟨oe4, vs4, he4, hz4, hd4⟩ := fl4.there
    have S4 := J4.suite he4 hd4 na nL nF
    refine store_ok (X := X.suite a ((a, oe4) :: (X.pn ++ pins))) (v := .ref a) S4 hN hi hloc rfl (fun s5 S5 => ?_) (.inr hln)
    refine wpAny_mono ((hsu a oe4 cls d (X.pn ++ pins) hz4 ⟨_, hd4⟩).run [] s5 _ H' _ S5 (hyes a na)) (fun f s6 hsp => ?_) (fun _ _ z => False.elim z)
    have end_ : ∀ {σ6 : L2.St} {H6 : Hp} {Q : Shared → Prop}, L2.Inv (X.suite a ((a, oe4) :: (X.pn ++ pins))) [] σ6 H6 s6 → (∀ s7, L2.Inv X pins (σ6.set i none) H6 s7 → Q s7) → wpAny (model X.prog X.w) X.A (do bindName X.env n .none; unbindBehindTheSuite X.env n pos') (fun _ s7 => Q s7) X.xe s6 := fun {σ6 H6 Q} S6 hq => gone_ok (S6.unsuite ok) hN hi hln hq
    cases f with
    | next => exact let ⟨σ6, H6, S6, q6⟩ := hsp; end_ S6 fun s7 J7 => ⟨_, _, J7, q6⟩
    | brk => exact let ⟨σ6, H6, S6, q6⟩ := hsp; end_ S6 fun s7 J7 => ⟨_, _, J7, q6⟩
    | cont => exact let ⟨σ6, H6, S6, q6⟩ := hsp; end_ S6 fun s7 J7 => ⟨_, _, J7, q6⟩
    | ret u => exact let ⟨v6, σ6, H6, S6, r6, q6⟩ := hsp; end_ S6 fun s7 J7 => ⟨_, _, _, J7, r6, q6⟩
  · cases f with
    | next => exact let ⟨σ', H', J', q⟩ := hsp; wpAny_execs_nil ⟨σ', H', J'.ofTry ok, q⟩
    | brk => exact let ⟨σ', H', J', q⟩ := hsp; ⟨σ', H', J'.ofTry ok, q⟩
    | cont => exact let ⟨σ', H', J', q⟩ := hsp; ⟨σ', H', J'.ofTry ok, q⟩
    | ret u => exact let ⟨v, σ', H', J', r, q⟩ := hsp; ⟨v, σ', H', J'.ofTry ok, r, q⟩
/-! ### e.n of a caught error whose class is known only then -/
def tXfD (K : PySem.W.Frag) (a : Addr) (cls : Value) (d : Option Addr) (n : Str) (i : Nat) : TE := fun σ H Q => σ[i]? = some (some (.ref a)) ∧ ∃ (C dd : Addr) (fs : List (Str × V)) (v : V), cls = .ref C ∧ XfC K C ∧ PySem.W.findIn K (.ref C) n = some none ∧ d = some dd ∧ H dd = some (.xd fs) ∧ fs.lookup n = some v ∧ Q v H
theorem pe_xfD {X : Cx} {a : Addr} {oe : Obj} {cls : Value} {d : Option Addr} {pn : List (Addr × Obj)} {e : Expr} {i : Nat} {pos : Pos} {n : Str} (hz : Zc cls d oe) (hf : ∃ vs, oe.data = .fields vs) (he : PE (X.suite a ((a, oe) :: pn)) e (tVar i)) (hb : attributeBase e n X.env (eval e X.env) = eval e X.env := by rfl) :
    PE (X.suite a ((a, oe) :: pn)) (.Attribute e n pos) (tXfD X.K a cls d n i) := by
  refine ⟨fun pins s σ H Q I h => ?_⟩
  obtain ⟨h1, C, dd, fs, v, rfl, T, hno, rfl, h2, h3, q⟩ := h
  exact (pe_xf T hno hz hf he hb).run pins s σ H Q I ⟨.ref a, h1, rfl, rfl, dd, fs, v, rfl, h2, h3, q⟩
/-! ### the word of a refusal, or none -/
/-- an error that a call may let out, with its word -/
def ErrAt (K : PySem.W.Frag) (CB : Addr) (cls : Value) (d : Option Addr) (H : Hp) (v : V) : Prop := ∃ (C dd : Addr) (fs : List (Str × V)), cls = .ref C ∧ d = some dd ∧ PySem.W.exmOne K (.ref C) (.ref CB) = some true ∧ XfC K C ∧ PySem.W.findIn K (.ref C) "word" = some none ∧ H dd = some (.xd fs) ∧ fs.lookup ("word" : Str) = some v
def TWord (K : PySem.W.Frag) (CB : Addr) : (XK → Hp → VK → Prop) → Hp → VK → Prop := fun tl H Q => tl (fun cls d H' => ∃ v, ErrAt K CB cls d H' v ∧ Q v H') H (fun _ H' => Q (.str "") H')
theorem takes_len {X : Cx} {W : WX} (tk : Takes X W) : Takes X (fun cls d σ H => σ.length = X.N.length → W cls d σ H) := fun u s' xx => by
  obtain ⟨a, B, sI, pins', σ', H', cls, d, rfl, J', nb, up, sky, na, os, ag, hw⟩ := xx
  exact tk _ _ ⟨a, B, sI, pins', σ', H', cls, d, rfl, J', nb, up, sky, na, os, ag, hw J'.len⟩
theorem word_gives {X : Cx} {Ng : List Str} {x a q : Str} {sg : Scope} {g CB : Addr} {cdg : Value} {j : Nat} {h2 : ExceptHandler} {p1 p2 p3 p4 p5 p6 p7 p8 p9 p10 p11 : Pos} (hge : sg.names.lookup ("BudError" : Str) = some .globalImplicit) (hme : X.mg "BudError" = some (.ref CB)) (hNd : Ng.Nodup) (hN1 : Ng[1]? = some ("e" : Str)) (hk : sg.names.lookup ("e" : Str) = some .local)
    (h0 : ∀ f : Addr, (L2.start Ng [V.ref f])[0]? = some (some (V.ref f))) :
    GivesTo X Ng x sg g cdg [.Try [.Expr (.Call (.Name a p1) [] [] p2) p3] [.ExceptHandler (some (.Name "BudError" p4)) (some "e") [.Return (some (.Attribute (.Name "e" p5) "word" p6)) p7] p8, h2] [] [] p9, .Return (some (.Constant (.str "") j p10)) p11] a q (TWord X.K CB) := by
  intro f c' s H Q tl act hc h
  have hgl : Gl (cxOf C8.CX0 X.prog X.w X.K X.mg X.base Ng x sg g cdg X.A X.stack s H C8.E0).nox "BudError" := hge
  refine ⟨_, pss_cons (ps_try_as1 (X := (cxOf C8.CX0 X.prog X.w X.K X.mg X.base Ng x sg g cdg X.A X.stack s H C8.E0).nox) (c := .ref CB) (i := 1)
      (tb := fun W D σ H => ∃ Ech : XK, (∀ cls d σ' H', Ech cls d H' → σ'.length = Ng.length → W cls d σ' H') ∧ σ[0]? = some (some (.ref f)) ∧ H c' = some (CodeO c' q) ∧ tl Ech H fun _ H' => D.nx σ H')
      (ts := fun a cls d => tRet (tXfD X.K a cls d "word" 1)) rfl rfl hNd hN1 hk ⟨hgl, by decide, .inl hme⟩ (fun W pn xe tk _ => ?_) (fun b oe cls d pn hz hf => pss_one (ps_ret (pe_xfD hz hf (pe_var hN1 (.inl hk)))))) (pss_one (ps_ret pe_str)), ?_⟩
  · refine ⟨fun pins s' σ H' D I h' => ?_⟩
    obtain ⟨Ech, hW, h1, h2, h3⟩ := h'
    have hp := act _ pn xe Ech p1 p2 (takes_len tk) hW
    have hq := pss_one (ps_expr (pos := p3) hp)
    exact hq.run pins s' σ H' D I ⟨h1, h2, h3⟩
  · refine ⟨fun cls d H' => ∃ v, ErrAt X.K CB cls d H' v ∧ Q v H', fun cls d σ' H' hE hl => ?_, h0 f, hc, h⟩
    obtain ⟨v, ⟨C, dd, fs, rfl, rfl, e1, e2, e3, e4, e5⟩, hQ⟩ := hE
    refine ⟨e1, fun b _ => ⟨?_, C, dd, fs, v, rfl, e2, e3, rfl, e4, e5, hQ⟩⟩
    have : 1 < σ'.length := by
      rw [hl]
      exact (List.getElem?_eq_some_iff.mp hN1).1
    rw [List.getElem?_set_self this]
end Bw
set_option Elab.async false
set_option linter.all false
set_option maxRecDepth 100000
set_option maxHeartbeats 1000000
namespace Bw
open PySem PySem.Spec PyProof.Rows L2
/-! ### sums of products, as what they make of any weighing of powers -/
abbrev Tm := List Int × Int
def Lf (ts : List Tm) (φ : List Int → Int) : Int := (ts.map fun a => a.2 * φ a.1).sum
theorem Lf_nil (φ : List Int → Int) : Lf [] φ = 0 := rfl
theorem Lf_cons (a : Tm) (ts : List Tm) (φ : List Int → Int) : Lf (a :: ts) φ = a.2 * φ a.1 + Lf ts φ := by
  unfold Lf
  rw [List.map_cons, List.sum_cons]
theorem Lf_append (a b : List Tm) (φ : List Int → Int) : Lf (a ++ b) φ = Lf a φ + Lf b φ := by
  unfold Lf
  rw [List.map_append, List.sum_append]
theorem Lf_perm {a b : List Tm} (h : a.Perm b) (φ : List Int → Int) : Lf a φ = Lf b φ := by
  induction h with
  | nil => rfl
  | cons x _ ih => rw [Lf_cons, Lf_cons, ih]
  | swap x y l =>
    rw [Lf_cons, Lf_cons, Lf_cons, Lf_cons]
    omega
  | trans _ _ h1 h2 => exact h1.trans h2
theorem Lf_filter (ts : List Tm) (φ : List Int → Int) : Lf (ts.filter fun a => decide (a.2 ≠ 0)) φ = Lf ts φ := by
  induction ts with
  | nil => rfl
  | cons a ts ih =>
    rw [List.filter_cons]
    by_cases h : a.2 = 0
    · rw [if_neg (by simp [h]), ih, Lf_cons, h]
      omega
    · rw [if_pos (by simp [h]), Lf_cons, Lf_cons, ih]
theorem Lf_map (ts : List Tm) (g : List Int → List Int) (φ : List Int → Int) : Lf (ts.map fun a => (g a.1, a.2)) φ = Lf ts fun p => φ (g p) := by
  induction ts with
  | nil => rfl
  | cons a ts ih => rw [List.map_cons, Lf_cons, Lf_cons, ih]
theorem Lf_neg (ts : List Tm) (φ : List Int → Int) : Lf (ts.map fun a => (a.1, -a.2)) φ = -(Lf ts φ) := by
  induction ts with
  | nil => rfl
  | cons a ts ih =>
    rw [List.map_cons, Lf_cons, Lf_cons, ih]
    show -a.2 * φ a.1 + -(Lf ts φ) = -(a.2 * φ a.1 + Lf ts φ)
    rw [Int.neg_mul]
    omega
/-- products falling by their powers, none of count 0 -/
def Falls (r : List Tm) : Prop := r.Pairwise (fun a b => HT.lexLt b.1 a.1 = true)
structure Cn (ℓ : (List Int → Int) → Int) (r : List Tm) : Prop where
  fall : Falls r
  nz : ∀ a ∈ r, a.2 ≠ 0
  lf : ∀ φ, Lf r φ = ℓ φ
theorem lex_irr (p : List Int) : HT.lexLt p p = false := by
  cases h : HT.lexLt p p with
  | false => rfl
  | true =>
    have := NtL.lex_asym _ _ h
    rw [h] at this
    cases this
theorem lex_ne {p q : List Int} (h : HT.lexLt p q = true) : p ≠ q := fun e => by
  rw [e, lex_irr] at h
  cases h
theorem lex_tot : ∀ {p q : List Int}, HT.lexLt p q = false → HT.lexLt q p = false → p = q
  | [], [], _, _ => rfl
  | [], _ :: _, h, _ => by cases h
  | _ :: _, [], _, h => by cases h
  | x :: p, y :: q, h1, h2 => by
    rw [HT.lexLt_cons] at h1 h2
    by_cases e : x = y
    · subst e
      rw [if_pos rfl] at h1 h2
      rw [lex_tot h1 h2]
    · rw [if_neg e] at h1
      rw [if_neg (fun z => e z.symm)] at h2
      have a1 := of_decide_eq_false h1
      have a2 := of_decide_eq_false h2
      omega
/-- the count of p in r -/
def ind (p : List Int) : List Int → Int := fun q => if q = p then 1 else 0
theorem Lf_ind_none {r : List Tm} {p : List Int} (h : ∀ a ∈ r, a.1 ≠ p) : Lf r (ind p) = 0 := by
  induction r with
  | nil => rfl
  | cons a r ih =>
    rw [Lf_cons, ih fun b hb => h b (List.mem_cons_of_mem _ hb)]
    unfold ind
    rw [if_neg (h a (List.mem_cons_self ..))]
    omega
theorem Lf_ind_mem {r : List Tm} (hf : Falls r) {p : List Int} {c : Int} (h : (p, c) ∈ r) : Lf r (ind p) = c := by
  induction r with
  | nil => cases h
  | cons a r ih =>
    have hf' := List.pairwise_cons.mp hf
    rw [Lf_cons]
    rcases List.mem_cons.mp h with e | h
    · subst e
      rw [Lf_ind_none fun b hb => lex_ne (hf'.1 b hb)]
      show c * ind p p + 0 = c
      unfold ind
      rw [if_pos rfl]
      omega
    · have ne : a.1 ≠ p := Ne.symm (lex_ne (hf'.1 (p, c) h))
      rw [ih hf'.2 h]
      unfold ind
      rw [if_neg ne]
      omega
theorem Cn.mem {ℓ : (List Int → Int) → Int} {r : List Tm} (h : Cn ℓ r) (p : List Int) (c : Int) : (p, c) ∈ r ↔ c ≠ 0 ∧ ℓ (ind p) = c := by
  constructor
  · intro m
    refine ⟨h.nz _ m, ?_⟩
    rw [← h.lf, Lf_ind_mem h.fall m]
  · rintro ⟨hc, e⟩
    rw [← h.lf] at e
    by_cases m : ∃ a ∈ r, a.1 = p
    · obtain ⟨a, ha, rfl⟩ := m
      rw [Lf_ind_mem h.fall (p := a.1) (c := a.2) ha] at e
      rw [← e]
      exact ha
    · rw [Lf_ind_none fun a ha e' => m ⟨a, ha, e'⟩] at e
      exact absurd e.symm hc
theorem falls_uniq : ∀ {r r' : List Tm}, Falls r → Falls r' → (∀ a, a ∈ r ↔ a ∈ r') → r = r'
  | [], [], _, _, _ => rfl
  | [], b :: r', _, _, h => absurd ((h b).mpr (List.mem_cons_self ..)) (by simp)
  | a :: r, [], _, _, h => absurd ((h a).mp (List.mem_cons_self ..)) (by simp)
  | a :: r, b :: r', h1, h2, h => by
    have f1 := List.pairwise_cons.mp h1
    have f2 := List.pairwise_cons.mp h2
    have e : a = b := by
      rcases List.mem_cons.mp ((h a).mp (List.mem_cons_self ..)) with e | m
      · exact e
      · rcases List.mem_cons.mp ((h b).mpr (List.mem_cons_self ..)) with e | m'
        · exact e.symm
        · have x := f2.1 a m
          have y := f1.1 b m'
          have z := NtL.lex_asym _ _ x
          rw [y] at z
          cases z
    subst e
    have hr : r = r' := falls_uniq f1.2 f2.2 fun c => by
      constructor
      · intro m
        rcases List.mem_cons.mp ((h c).mp (List.mem_cons_of_mem _ m)) with e | m'
        · subst e
          exact absurd rfl (lex_ne (f1.1 c m))
        · exact m'
      · intro m
        rcases List.mem_cons.mp ((h c).mpr (List.mem_cons_of_mem _ m)) with e | m'
        · subst e
          exact absurd rfl (lex_ne (f2.1 c m))
        · exact m'
    rw [hr]
theorem Cn.uniq {ℓ : (List Int → Int) → Int} {r r' : List Tm} (h : Cn ℓ r) (h' : Cn ℓ r') : r = r' := by
  refine falls_uniq h.fall h'.fall fun a => ?_
  obtain ⟨p, c⟩ := a
  rw [h.mem, h'.mem]
/-! ### books: a count for each powers, in the order in which they came -/
def getB (bk : List Tm) (p : List Int) : Option Int := (bk.find? fun a => decide (a.1 = p)).map (·.2)
def putB (bk : List Tm) (p : List Int) (c : Int) : List Tm := if (bk.any fun a => decide (a.1 = p)) = true then bk.map (fun a => if a.1 = p then (a.1, c) else a) else bk ++ [(p, c)]
def NdB (bk : List Tm) : Prop := (bk.map (·.1)).Nodup
theorem putB_keys {bk : List Tm} {p : List Int} {c : Int} (h : NdB bk) : NdB (putB bk p c) := by
  unfold putB NdB
  by_cases q : (bk.any fun a => decide (a.1 = p)) = true
  · rw [if_pos q, List.map_map]
    have e : ((fun a : Tm => a.1) ∘ fun a : Tm => if a.1 = p then (a.1, c) else a) = fun a => a.1 := by
      funext a
      show (if a.1 = p then (a.1, c) else a).1 = a.1
      split <;> rfl
    rw [e]
    exact h
  · rw [if_neg q, List.map_append]
    refine List.nodup_append.mpr ⟨h, by simp, ?_⟩
    intro x hx y hy e
    obtain ⟨a, ha, rfl⟩ := List.mem_map.mp hx
    have : y = p := by simpa using hy
    subst this
    exact q (List.any_eq_true.mpr ⟨a, ha, decide_eq_true e⟩)
theorem putB_len (bk : List Tm) (p : List Int) (c : Int) : (putB bk p c).length ≤ bk.length + 1 := by
  unfold putB
  split
  · rw [List.length_map]
    omega
  · rw [List.length_append]
    exact Nat.le_refl _
theorem Lf_repl {p : List Int} {c d : Int} : ∀ {bk : List Tm}, NdB bk → (p, d) ∈ bk → ∀ φ, Lf (bk.map fun a => if a.1 = p then (a.1, c) else a) φ = Lf bk φ + (c - d) * φ p
  | [], _, h, _ => by cases h
  | a :: bk, nd, h, φ => by
    have nd' := List.nodup_cons.mp nd
    rw [List.map_cons, Lf_cons, Lf_cons]
    by_cases e : a.1 = p
    · have rest : (bk.map fun a => if a.1 = p then (a.1, c) else a) = bk := by
        have z : bk.map (fun a => if a.1 = p then (a.1, c) else a) = bk.map id := List.map_congr_left fun b hb => by
          rw [if_neg]
          · rfl
          · intro e'
            exact nd'.1 (List.mem_map.mpr ⟨b, hb, e'.trans e.symm⟩)
        rw [z, List.map_id]
      have ad : a = (p, d) := by
        rcases List.mem_cons.mp h with h | h
        · exact h.symm
        · exact absurd (List.mem_map.mpr ⟨(p, d), h, e.symm⟩) nd'.1
      rw [rest, if_pos e, ad]
      show c * φ p + Lf bk φ = d * φ p + Lf bk φ + (c - d) * φ p
      rw [Int.sub_mul]
      omega
    · rw [if_neg e]
      have h' : (p, d) ∈ bk := by
        rcases List.mem_cons.mp h with h | h
        · rw [← h] at e
          exact absurd rfl e
        · exact h
      rw [Lf_repl nd'.2 h' φ]
      omega
theorem getB_some {bk : List Tm} {p : List Int} {d : Int} (h : getB bk p = some d) : (p, d) ∈ bk := by
  unfold getB at h
  obtain ⟨a, ha, rfl⟩ := Option.map_eq_some_iff.mp h
  have e := List.find?_some ha
  have m := List.mem_of_find?_eq_some ha
  have : a.1 = p := of_decide_eq_true e
  rw [← this]
  exact m
theorem getB_none {bk : List Tm} {p : List Int} (h : getB bk p = none) : (bk.any fun a => decide (a.1 = p)) = false := by
  unfold getB at h
  have z := Option.map_eq_none_iff.mp h
  cases q : (bk.any fun a => decide (a.1 = p)) with
  | false => rfl
  | true =>
    obtain ⟨a, ha, e⟩ := List.any_eq_true.mp q
    exact absurd e (List.find?_eq_none.mp z a ha)
def addB (bk : List Tm) (p : List Int) (c : Int) : List Tm := putB bk p ((getB bk p).getD 0 + c)
theorem Lf_addB {bk : List Tm} (nd : NdB bk) (p : List Int) (c : Int) (φ : List Int → Int) : Lf (addB bk p c) φ = Lf bk φ + c * φ p := by
  unfold addB
  cases h : getB bk p with
  | none =>
    unfold putB
    rw [getB_none h, if_neg (by simp), Lf_append, Lf_cons, Lf_nil]
    show Lf bk φ + ((0 + c) * φ p + 0) = _
    rw [Int.zero_add]
    omega
  | some d =>
    unfold putB
    have m := getB_some h
    rw [if_pos (List.any_eq_true.mpr ⟨_, m, decide_eq_true rfl⟩), Lf_repl nd m]
    show Lf bk φ + (d + c - d) * φ p = _
    have e : d + c - d = c := by omega
    rw [e]
/-- a book as a dict -/
def enc (a : Tm) : List Key × V := (a.1.map Sum.inl, V.int a.2)
theorem inl_inj {p q : List Int} (h : p.map (Sum.inl : Int → Key) = q.map Sum.inl) : p = q := by
  have e := congrArg (List.map fun k : Key => match k with | .inl i => i | .inr _ => 0) h
  rw [List.map_map, List.map_map] at e
  have z : ((fun k : Key => match k with | .inl i => i | .inr _ => 0) ∘ (Sum.inl : Int → Key)) = id := rfl
  rw [z, List.map_id, List.map_id] at e
  exact e
theorem enc_iff {a : Tm} {p : List Int} : (enc a).1 = p.map Sum.inl ↔ a.1 = p := ⟨fun z => inl_inj z, fun z => by rw [← z]; rfl⟩
theorem enc_any (bk : List Tm) (p : List Int) : ((bk.map enc).any fun kv => decide (kv.1 = p.map Sum.inl)) = bk.any fun a => decide (a.1 = p) := by
  rw [List.any_map]
  congr 1
  funext a
  exact decide_eq_decide.mpr enc_iff
theorem enc_put (bk : List Tm) (p : List Int) (c : Int) : putK (bk.map enc) (p.map Sum.inl) (V.int c) = (putB bk p c).map enc := by
  unfold putK putB
  rw [enc_any]
  split
  · rw [List.map_map, List.map_map]
    refine List.map_congr_left fun a _ => ?_
    show (if (enc a).1 = p.map Sum.inl then ((enc a).1, V.int c) else enc a) = enc (if a.1 = p then (a.1, c) else a)
    by_cases e : a.1 = p
    · rw [if_pos (enc_iff.mpr e), if_pos e]
      rfl
    · rw [if_neg fun z => e (enc_iff.mp z), if_neg e]
  · rw [List.map_append]
    rfl
theorem enc_val : ∀ (bk : List Tm) (p : List Int), valV (bk.map enc) (p.map Sum.inl) = (getB bk p).map V.int
  | [], _ => rfl
  | a :: bk, p => by
    rw [List.map_cons]
    by_cases e : a.1 = p
    · have h1 : getB (a :: bk) p = some a.2 := by
        unfold getB
        rw [List.find?_cons_of_pos (by simpa using e)]
        rfl
      rw [h1, valV_pos (enc_iff.mpr e)]
      rfl
    · have h1 : getB (a :: bk) p = getB bk p := by
        unfold getB
        rw [List.find?_cons_of_neg (by simpa using e)]
      rw [h1, ← enc_val bk p, valV_neg fun z => e (enc_iff.mp z)]
theorem enc_keys (bk : List Tm) : KeysI (bk.map enc) (bk.map (·.1)) := by
  unfold KeysI
  rw [List.map_map, List.map_map]
  rfl
end Bw
set_option Elab.async false
set_option linter.all false
set_option maxRecDepth 100000
set_option maxHeartbeats 4000000
namespace Bw
open PySem PySem.Spec PyProof.Rows L2
/-! ### rows of numbers and products as data -/
theorem ints_lay : ∀ p : List Int, PyData.canLayAll0 (p.map PyData.int) = true
  | [] => by simp [PyData.canLayAll0]
  | a :: p => by
    have ih := ints_lay p
    simp only [List.map_cons, PyData.canLayAll0, PyData.canLay0, ih, Bool.and_self]
theorem ints_depth : ∀ p : List Int, PyData.depthAll (p.map PyData.int) ≤ 1
  | [] => by simp [PyData.depthAll]
  | a :: p => by
    have ih := ints_depth p
    simp only [List.map_cons, PyData.depthAll, PyData.depth]
    omega
theorem ints_eqv : ∀ p q : List Int, PyData.eqvAll (p.map PyData.int) (q.map PyData.int) = decide (p = q)
  | [], [] => by simp [PyData.eqvAll]
  | [], b :: q => by simp [PyData.eqvAll]
  | a :: p, [] => by simp [PyData.eqvAll]
  | a :: p, b :: q => by
    have ih := ints_eqv p q
    simp only [List.map_cons, PyData.eqvAll, PyData.eqv, ih]
    by_cases e : a = b
    · subst e
      by_cases z : p = q
      · subst z
        simp
      · simp [z]
    · simp [e]
def rowD (p : List Int) : PyData := .tuple (p.map .int)
theorem rowD_lay (p : List Int) : (rowD p).canLay0 = true := by
  simp only [rowD, PyData.canLay0]
  exact ints_lay p
theorem rowD_depth (p : List Int) : (rowD p).depth ≤ 2 := by
  have := ints_depth p
  simp only [rowD, PyData.depth]
  omega
theorem rowD_eqv (p q : List Int) : PyData.eqv (rowD p) (rowD q) = decide (p = q) := by
  simp only [rowD, PyData.eqv]
  exact ints_eqv p q
theorem all_lay {α : Type} {d : α → PyData} (h : ∀ a, (d a).canLay0 = true) : ∀ r : List α, PyData.canLayAll0 (r.map d) = true
  | [] => by simp [PyData.canLayAll0]
  | a :: r => by
    have ih := all_lay h r
    simp only [List.map_cons, PyData.canLayAll0, h a, ih, Bool.and_self]
theorem all_depth {α : Type} {d : α → PyData} {n : Nat} (h : ∀ a, (d a).depth ≤ n) : ∀ r : List α, PyData.depthAll (r.map d) ≤ n
  | [] => by simp [PyData.depthAll]
  | a :: r => by
    have ih := all_depth h r
    have := h a
    simp only [List.map_cons, PyData.depthAll]
    omega
theorem all_eqv {α : Type} [DecidableEq α] {d : α → PyData} (h : ∀ a b, PyData.eqv (d a) (d b) = decide (a = b)) : ∀ r r' : List α, PyData.eqvAll (r.map d) (r'.map d) = decide (r = r')
  | [], [] => by simp [PyData.eqvAll]
  | [], b :: q => by simp [PyData.eqvAll]
  | a :: p, [] => by simp [PyData.eqvAll]
  | a :: p, b :: q => by
    have ih := all_eqv h p q
    simp only [List.map_cons, PyData.eqvAll, h a b, ih]
    by_cases e : a = b
    · subst e
      by_cases z : p = q
      · subst z
        simp
      · simp [z]
    · simp [e]
def tmD (a : Tm) : PyData := .tuple [rowD a.1, .int a.2]
theorem tmD_lay (a : Tm) : (tmD a).canLay0 = true := by
  have := rowD_lay a.1
  simp only [tmD, PyData.canLay0, PyData.canLayAll0, this, Bool.and_self]
theorem tmD_depth (a : Tm) : (tmD a).depth ≤ 3 := by
  have := rowD_depth a.1
  simp only [tmD, PyData.depth, PyData.depthAll]
  omega
theorem tmD_eqv (a b : Tm) : PyData.eqv (tmD a) (tmD b) = decide (a = b) := by
  obtain ⟨p, c⟩ := a
  obtain ⟨q, d⟩ := b
  have := rowD_eqv p q
  simp only [tmD, PyData.eqv, PyData.eqvAll, this]
  by_cases e : p = q
  · subst e
    by_cases z : c = d
    · subst z
      simp
    · simp [z]
  · simp [e]
theorem shaped_tup {ds : List PyData} (h1 : PyData.canLayAll0 ds = true) (h2 : PyData.depthAll ds ≤ 50) : SeqAt.shaped (.tuple ds) = true := by
  have h3 : PyData.depth (.tuple ds) ≤ 64 := by
    simp only [PyData.depth]
    omega
  show (PyData.canLay0 (.tuple ds) && decide (PyData.depth (.tuple ds) ≤ 64)) = true
  rw [Bool.and_eq_true]
  exact ⟨by simp only [PyData.canLay0]; exact h1, decide_eq_true h3⟩
theorem shaped_lst {ds : List PyData} (h1 : PyData.canLayAll0 ds = true) (h2 : PyData.depthAll ds ≤ 50) : SeqAt.shaped (.list ds) = true := by
  have h3 : PyData.depth (.list ds) ≤ 64 := by
    simp only [PyData.depth]
    omega
  show (PyData.canLay0 (.list ds) && decide (PyData.depth (.list ds) ≤ 64)) = true
  rw [Bool.and_eq_true]
  exact ⟨by simp only [PyData.canLay0]; exact h1, decide_eq_true h3⟩
theorem dp_ints {K : PySem.W.Frag} {H : Hp} : ∀ p : List Int, DpAll K H (p.map V.int) (p.map PyData.int)
  | [] => .nil
  | a :: p => .cons (.int a) (dp_ints p)
theorem o_eqD {X : Cx} {K : PySem.W.Frag} (hu : X.A.units + 64 < cLine) (hK : X.K = K := by rfl) : OpR X (compareOp .Eq) (rEqD K) := by
  subst hK
  exact op_eqD hu
theorem o_neD {X : Cx} {K : PySem.W.Frag} (hu : X.A.units + 64 < cLine) (hK : X.K = K := by rfl) : OpR X (compareOp .NotEq) (rNeD K) := by
  subst hK
  exact op_neD hu
end Bw
set_option Elab.async false
set_option linter.all false
set_option maxRecDepth 100000
set_option maxHeartbeats 4000000
/-! ### enumerate(t) of a tuple -/
namespace PySem
set_option maxHeartbeats 1000000 in
theorem meets_enumerate_newTu (l : Addr) (items : Array Value) (n : Nat) (dct : Option Addr) (sl : Array (Option Value)) :
    Meets (Builtin.«enumerate.__new__» ⟨[.type "enumerate", .ref l], []⟩) (fun _ R s => s.heap.get? l = some { cls := .type "tuple", dict := dct, data := .seq items n, slots := sl } ∧
      R (.ok (.ret (.ref (s.heap.push { cls := .type "tuple_iterator", data := .fields #[.ref l, .int 0 0] }).objs.size)))
        { s with heap := (s.heap.push { cls := .type "tuple_iterator", data := .fields #[.ref l, .int 0 0] }).push { cls := .type "enumerate", data := .fields #[.none, .bool false, .ref s.heap.objs.size, rawInt 0, .none, .none] } }) :=
  .of_wp fun prog w A R s h => by
    obtain ⟨hp, g, d, tk, os⟩ := s; obtain ⟨hl, h⟩ := h
    have hsub := sub_enumerate
    have hL : Heap.IsTuple (Shared.heap ⟨hp, g, d, tk, os⟩) l items := ⟨_, hl, rfl, n, rfl⟩
    wp_walk using wpAny_loadPart' hl
    refine wpAny_stack_any fun st => wpAny_pure ?_
    split
    · rename_i c _ _ _ _ _
      cases (c == Value.type "enumerate")
      · wp_walk using wpAny_loadPart' hl, wpAny_pyIter_tuple hL
        exact ⟨_, rfl, h⟩
      · wp_walk using wpAny_loadPart' hl, wpAny_pyIter_tuple hL
        exact ⟨_, rfl, h⟩
    · wp_walk using wpAny_loadPart' hl, wpAny_pyIter_tuple hL
      exact ⟨_, rfl, h⟩
theorem call_enumerate_tu {prog : Program} {w : World} {A : Around} {E : Value → Shared → Prop} {s : Shared} {l : Addr} {items : Array Value} {Q : Value → Shared → Prop} (hL : s.heap.IsTuple l items)
    (h : ∀ h', IsEnum h' (s.heap.objs.size + 1) s.heap.objs.size 0 .none → h'.IsTupleIter s.heap.objs.size l 0 → h'.objs.size = s.heap.objs.size + 2 →
      (∀ b o, s.heap.get? b = some o → h'.get? b = some o) → Q (.ref (s.heap.objs.size + 1)) { s with heap := h' }) :
    wpAny (model prog w) A (call (.type "enumerate") [.ref l]) Q E s := by
  obtain ⟨⟨c, dct, dt, sl⟩, hl, hc, n, hd⟩ := hL
  replace hc : c = .type "tuple" := hc
  replace hd : dt = .seq items n := hd
  subst hc hd
  refine callType_new F.called_enumerate (by decide) (F.typeCall_enumerate_1 _) (F.newCall_enumerate_1 _) (fun obj => F.args_object_init_2 obj _) F.entry_enumerate_new
    (meets_enumerate_newTu l items n dct sl) ⟨hl, ?_⟩
  have hz : (s.heap.push { cls := .type "tuple_iterator", data := .fields #[.ref l, .int 0 0] }).objs.size = s.heap.objs.size + 1 := Heap.size_push ..
  show _ ∧ _
  rw [hz]
  have he : IsEnum ((s.heap.push { cls := .type "tuple_iterator", data := .fields #[.ref l, .int 0 0] }).push
      { cls := .type "enumerate", data := .fields #[.none, .bool false, .ref s.heap.objs.size, rawInt 0, .none, .none] }) (s.heap.objs.size + 1) s.heap.objs.size 0 .none := by
    have := Heap.get?_push_size (s.heap.push { cls := .type "tuple_iterator", data := .fields #[.ref l, .int 0 0] })
      (o := { cls := .type "enumerate", data := .fields #[.none, .bool false, .ref s.heap.objs.size, rawInt 0, .none, .none] }) rfl
    rw [hz] at this; exact this
  refine ⟨⟨_, he, rfl⟩, h _ he ⟨_, Heap.get?_push_of_some _ (Heap.get?_push_size _ rfl), rfl, rfl⟩ (by rw [Heap.size_push, hz]) fun b o x => Heap.get?_push_of_some _ (Heap.get?_push_of_some _ x)⟩
end PySem
namespace Bw
open PySem PySem.Spec PyProof.Rows L2
def IteT (K : PySem.W.Frag) (a : Addr) : It :=
  ⟨fun i H => ∃ (xs : List V) (x : V), SqT K H a xs ∧ xs[i]? = some x, fun i H v H' => ∃ T x, v = .ref T ∧ H T = none ∧ H' = upd H T (.tup [.int (i : Nat), x]) ∧ ∀ xs, SqT K H a xs → xs[i]? = some x, fun i H => ∃ xs : List V, SqT K H a xs ∧ xs.length ≤ i⟩
theorem turn_enumT {P : Program} {w : World} {K : PySem.W.Frag} {elts : List Expr} {kk : Nat} {tpos : Pos} (a e it : Addr) (hait : a ≠ it) (hea : e ≠ a) :
    Turn P w K (.Tuple elts kk tpos) (IteT K a) [e, it] e (fun i h => (∃ old, IsEnum h e it ((i : Nat) : Int) old) ∧ h.IsTupleIter it a i ∧ e ≠ it) where
  mem := by simp
  obj := fun i h st b hb => by
    obtain ⟨⟨old, he⟩, ⟨o, ho, hc, hd⟩, _⟩ := st
    have e' : b = e ∨ b = it := by simpa using hb
    rcases e' with z | z
    · rw [z]; exact ⟨_, he, fun v q => nomatch q⟩
    · rw [z]; exact ⟨o, ho, fun v q => by rw [hd] at q; cases q⟩
  keep := fun i h h' st k => let ⟨⟨old, he⟩, hi, hne⟩ := st; ⟨⟨old, k e (by simp) _ he⟩, hi.at fun o q => k it (by simp) o q, hne⟩
  item := by
    intro X hP hw hK hc i pins s σ H E I hf st hg
    subst hP hw hK
    obtain ⟨⟨old, he⟩, hit, hne⟩ := st
    obtain ⟨xs, x, hq, hx⟩ := hg
    obtain ⟨its, rv, p, hz⟩ := I.tuple hq
    obtain ⟨u, hu, ru⟩ := rv.get hx
    have hel : e < s.heap.objs.size := Heap.lt_size he
    have hil : it < s.heap.objs.size := by obtain ⟨_, q, _⟩ := hit; exact Heap.lt_size q
    have hiu : its.toArray[i]? = some u := by simpa using hu
    have hlt : i < its.toArray.size := (Array.getElem?_eq_some_iff.mp hiu).1
    refine wpAny_pyNext_enum_itemD (Draws.tuple (A := X.A.in1) (I.ok.hd hc) it a hait its.toArray) he ⟨hit, p⟩ hlt hne (by simp [hne, hea]) fun u' h' tk hP ho st' hT hsz hk => ?_
    have eu : u' = u := Option.some.inj (hP.symm.trans hiu)
    subst eu
    obtain ⟨hit', _⟩ := st'
    refine ⟨_, rfl, wpAny_letOwnedTupleGo_enum (s := { s with heap := h', toks := tk + 1 }) ho fun h'' he' sb => ?_⟩
    have hT2 : h''.get? s.heap.objs.size = some { cls := .type "tuple", data := .seq #[.int i tk, u'] } := (sb.2 _ (Nat.ne_of_gt hel)).trans hT
    have new : ObjOk X.prog X.w (upd H s.heap.objs.size (.tup [.int (i : Nat), x])) h'' s.heap.objs.size (.tup [.int (i : Nat), x]) :=
      ⟨by show 2 ≤ sizeLine; decide, [.int i tk, u'], .cons ⟨_, rfl⟩ (.cons ru .nil), ⟨_, hT2, rfl, _, rfl⟩⟩
    have I1 : L2.Inv X pins σ (upd H s.heap.objs.size (.tup [.int (i : Nat), x])) { s with heap := h'', toks := tk + 1 } :=
      I.turnedNew (ch := [e, it]) (fun b ob hb q => (sb.2 b (fun z => hb (by simp [z]))).trans (hk b ob (fun z => hb (by simp [z])) (fun z => hb (by simp [z])) q)) hf (Nat.le_refl _) new
    refine ⟨.ref s.heap.objs.size, _, I1, rfl, ⟨_, x, rfl, I.hok.fresh (Nat.le_refl _), rfl, fun ys hy => by rw [I.tuple_inj hy hq]; exact hx⟩, ⟨⟨u', ?_⟩, hit'.at fun o q => (sb.2 it (Ne.symm hne)).trans q, hne⟩, fun b hb => ?_⟩
    · have e1 : ((i + 1 : Nat) : Int) = (i : Int) + 1 := by omega
      rw [e1]; exact he'
    · have hb' : b < s.heap.objs.size := by
        have e' : b = e ∨ b = it := by simpa using hb
        rcases e' with z | z
        · rw [z]; exact hel
        · rw [z]; exact hil
      rw [upd_ne (Nat.ne_of_lt hb')]
      exact (hf b hb).1
  done := by
    intro X hP hw hK hc i pins s σ H E I hf st hg
    subst hP hw hK
    obtain ⟨⟨old, he⟩, hit, hne⟩ := st
    obtain ⟨xs, hq, hx⟩ := hg
    obtain ⟨its, rv, p, hz⟩ := I.tuple hq
    obtain ⟨f0, f1, f2, f3, f4, f5⟩ := hf it (by simp)
    have hl := rv.length
    have hT : s.TypeIs (.ref e) "enumerate" := ⟨_, he, rfl⟩
    unfold pyNext
    refine wpAny_bind (wpAny_attempt (wpAny_callSpecial?_slot (name := Str.ofString "__next__") hT F.slot_enumerate_next
      (wpAny_call_entry F.slot_enumerate_next hT F.entry_enumerate_next ?_ (F.args_enumerate_next_1 _))))
    show wpAny _ _ (field (.ref e) 2 >>= _) _ _ _
    refine wpAny_bind (wpAny_field he rfl (x := .ref it) rfl ?_)
    refine wpAny_bind (wpAny_nextOf_tuple_end (A := X.A.in1) (I.ok.hd hc) hit p (by simp; omega) fun h' x he' hx' => ?_)
    obtain ⟨o, ho, hc'⟩ := hx'
    refine wpAny_bind (wpAny_isInstance (T := "StopIteration") (b := true) ⟨o, ho, hc'⟩ isSubtype_stop ?_)
    exact wpAny_pure ⟨rfl, I.turned (t' := s.toks) (fun b o hb q => he' b o hb q) f0 f1 f3 f4 f5⟩
  self := fun A i s Q E st h => let ⟨⟨_, he⟩, _⟩ := st; wpAny_pyIter_enum he h
def iEnumT (K : PySem.W.Frag) (ta : TA) : TI := fun σ H R => ta σ H fun vs H1 => ∃ a xs, vs = [.ref a] ∧ SqT K H1 a xs ∧ R (IteT K a) H1
theorem p_enumT {X : Cx} {K : PySem.W.Frag} {e : Expr} {ta : TA} {p pos tpos : Pos} {elts : List Expr} {kk : Nat} (hg : Gl X "enumerate") (hm : X.mg "enumerate" = none) (ha : PA X [e] ta) (hK : X.K = K := by rfl) (hs : starEach [e] X.env = [(false, eval e X.env)] := by rfl) :
    PI X (.Tuple elts kk tpos) (.Call (.Name "enumerate" p) [e] [] pos) (iEnumT K ta) := by
  subst hK
  refine ⟨fun pins s σ H R I h => ?_⟩
  refine Call_ (ld_blt I hg hm boot_enumerate (PyProof.Rows.callWith_type1 (thn (ha.run pos pins s σ H _ I h) fun us s1 ⟨vs, H1, I1, r1, q1⟩ => ?_) hs rfl))
  obtain ⟨a, xs, ex, hq, q⟩ := q1
  subst ex
  cases r1 with
  | cons r rr =>
    cases rr
    cases r
    obtain ⟨its, rv, p', hz⟩ := I1.tuple hq
    have hal : a < s1.heap.objs.size := by obtain ⟨_, e, _⟩ := p'; exact Heap.lt_size e
    refine call_enumerate_tu p' fun h' he hit hsz hk => wpAny_pyIter_enum he ?_
    have I2 : L2.Inv X pins σ H1 { s1 with heap := h' } := I1.kept (t' := s1.toks) hk
    refine ⟨s1.heap.objs.size + 1, [s1.heap.objs.size + 1, s1.heap.objs.size], _, _, H1, rfl, I2, turn_enumT a (s1.heap.objs.size + 1) s1.heap.objs.size (Nat.ne_of_lt hal) (Nat.ne_of_gt (Nat.lt_succ_of_lt hal)), ⟨⟨.none, he⟩, hit, Nat.succ_ne_self _⟩, fun b hb => ?_, q⟩
    have e' : b = s1.heap.objs.size + 1 ∨ b = s1.heap.objs.size := by simpa using hb
    have hle : s1.heap.objs.size ≤ b := by
      rcases e' with z | z
      · rw [z]; exact Nat.le_add_right _ _
      · rw [z]; exact Nat.le_refl _
    exact I1.fpOk hle (I1.hok.fresh hle)
theorem walk_enumT {K : PySem.W.Frag} {a : Addr} {xs : List V} : Walk (IteT K a) xs.length (fun H => SqT K H a xs) (YPair (fun i => some (.int (i : Nat))) (fun i => xs[i]?)) := by
  refine ⟨fun i _ hi q => ⟨xs, xs[i], q, by simp [hi]⟩, fun _ q => ⟨xs, q, Nat.le_refl _⟩, fun i H v H' _ q y => ?_⟩
  obtain ⟨T, x, h1, h2, h3, h4⟩ := y
  exact ⟨T, .int (i : Nat), x, h1, h2, h3, rfl, h4 xs q⟩
end Bw
set_option Elab.async false
set_option linter.all false
set_option maxRecDepth 100000
set_option maxHeartbeats 4000000
/-! ### own errors right over a built-in error other than ValueError -/
namespace Bw
open PySem PySem.Spec PyProof.Rows L2
section
open PySem.W PySem.Calls PySem.HandSPX Builtin Builtin.ObjectAttr
variable {prog : Program} {w : World} {A : Around} {R : Result → Shared → Prop} {hp : Heap} {g : Array GenState} {d : Drawn} {t : Nat} {os : OsState}
theorem osaB {K : W.Frag} {B : String} {tl : List Value} {name : Str} {tk : Tok} {v : Value} {x C : Addr} {ox : Obj} {od : Option Obj} {cd : ClassData} (SB : StoreFacts B tl "object.__setattr__" "object") (ob : tl.contains (.type "object") = true)
    (X : K.In hp) (I : W.InstAt hp x ox C od) (hcd : W.clsIn K C = some cd) (hm : cd.mro = .ref C :: tl) (ha : W.findIn K (.ref C) name = some none)
    (hq : wpAny (model prog w) A.in1 (storeInOwnDict (.ref x) (.ref C) (.str name tk) name v false) (fun fin s' => match fin with | .done f => R (.ok f) s' | .again c' => c'.quiet = true ∧ codeAny (model prog w) A c' R s') (fun e s' => R (.error e) s') ⟨hp, g, d, t, os⟩) : codeAny (model prog w) A (.call (.builtin "object.__setattr__") ⟨[.ref x, .str name tk, v], []⟩) R ⟨hp, g, d, t, os⟩ := by
  have has : (Value.ref C :: tl).contains (.type "object") = true := by rw [List.contains_cons, ob, Bool.or_true]
  have mi : W.mroIn K C (.type "object") = some true := by unfold W.mroIn; rw [hcd, Option.bind_some, hm, if_neg (show ¬ (List.isEmpty (Value.ref C :: tl) = true) from Bool.false_ne_true), has]
  refine codeAny_call_builtin PySem.F.store_object.slot.plain PySem.F.store_object.entry (@W.check_slot (model prog w) _ _ ⟨hp, g, d, t, os⟩ "object.__setattr__" "object" "__setattr__" (.ref x) [.str name tk, v] [] _ PySem.F.store_object.kind PySem.F.store_object.split (I.type.andThen (W.looks_mroIn X mi)) (PySem.F.store_object.args (.ref x) (.str name tk) v) ?_)
  have mr : W.Looks (model prog w) hp (mroOf (.ref C)) cd.mro := (W.looks_clsIn X hcd).andThen .now
  have noT : W.Looks (model prog w) hp (storeTaker? none) none := .now
  rw [W.osa_eq, refuse_eq]; refine wpAny_bind (wpAny_bind (I.type.at (wpAny_bind (mr.at ?_)))); rw [hm, refuseLoop_ref, SB.passes]
  exact wpAny_pure (wpAny_bind (I.type.at (wpAny_bind ((W.looks_findIn X ha).at (wpAny_bind (noT.at hq))))))
theorem osaB_new {K : W.Frag} {B : String} {tl : List Value} {name : Str} {tk : Tok} {v : Value} {x C : Addr} {fv : Array Value} {cd : ClassData} (SB : StoreFacts B tl "object.__setattr__" "object") (ob : tl.contains (.type "object") = true) (X : K.In hp) (hx : hp.get? x = some { cls := .ref C, data := .fields fv }) (hcd : W.clsIn K C = some cd) (hm : cd.mro = .ref C :: tl) (hh : cd.hasDict = true) (ha : W.findIn K (.ref C) name = some none)
    (hq : ∀ h' tk' dx, (∀ b o, b ≠ x → hp.get? b = some o → h'.get? b = some o) → hp.objs.size ≤ dx → dx ≠ x → h'.get? x = some { cls := .ref C, dict := some dx, data := .fields fv } → h'.Ns1 dx (fun y => if y = name then some v else none) → R (.ok (.ret .none)) ⟨h', g, d, tk', os⟩) : codeAny (model prog w) A (.call (.builtin "object.__setattr__") ⟨[.ref x, .str name tk, v], []⟩) R ⟨hp, g, d, t, os⟩ := by
  have xs : x ≠ hp.objs.size := Nat.ne_of_lt (Heap.lt_size hx)
  refine osaB SB ob X (ox := { cls := .ref C, data := .fields fv }) (od := none) ⟨hx, rfl, rfl, trivial⟩ hcd hm ha ?_
  have kl : W.Looks (model prog w) hp (classData C) cd := W.looks_clsIn X hcd
  obtain ⟨_, _, _, _, _, hd, _, _, _, _, _⟩ := cd; dsimp only at hh; subst hh; unfold storeInOwnDict ownDictForStores
  repeat (first | with_reducible refine HandSPX.store_in_new ?_ ?_ | with_reducible refine wpAny_loadPart_at hx ?_ | with_reducible refine kl.at ?_ | wp_step)
  · exact ⟨_, #[], _, (Heap.get?_update_ne _ _ _ _ xs.symm).trans (Heap.get?_push_at rfl rfl), rfl, fun e he => absurd he (by simp), fun _ => rfl⟩
  · intro h' tk' hn' hs
    have hx1 : (hp.push { cls := .type "dict", data := .dict #[] }).get? x = some { cls := .ref C, data := .fields fv } := Heap.get?_push_of_some _ hx
    exact hq h' tk' hp.objs.size (fun b o hb ho => (hs.2 b (Nat.ne_of_lt (Heap.lt_size ho))).trans ((Heap.get?_update_ne _ _ _ _ hb).trans (Heap.get?_push_of_some _ ho))) (Nat.le_refl _) xs.symm ((hs.2 x xs).trans (Heap.get?_update_self _ hx1 rfl)) hn'
theorem osaB_old {K : W.Frag} {B : String} {tl : List Value} {name : Str} {tk : Tok} {v : Value} {x C dx : Addr} {fv : Array Value} {cd : ClassData} {m0 : Str → Option Value} {nl : List Str} (SB : StoreFacts B tl "object.__setattr__" "object") (ob : tl.contains (.type "object") = true)
    (X : K.In hp) (hx : hp.get? x = some { cls := .ref C, dict := some dx, data := .fields fv }) (hns : hp.Ns1 dx m0) (hw : Within m0 nl) (hz : nl.length ≤ 1000) (hcd : W.clsIn K C = some cd) (hm : cd.mro = .ref C :: tl) (hh : cd.hasDict = true) (ha : W.findIn K (.ref C) name = some none)
    (hq : ∀ h' tk', (∀ b o, b ≠ dx → hp.get? b = some o → h'.get? b = some o) → h'.Ns1 dx (fun y => if y = name then some v else m0 y) → R (.ok (.ret .none)) ⟨h', g, d, tk', os⟩) : codeAny (model prog w) A (.call (.builtin "object.__setattr__") ⟨[.ref x, .str name tk, v], []⟩) R ⟨hp, g, d, t, os⟩ := by
  obtain ⟨oD, _, _, hoD, _, _⟩ := hns.count hw
  refine osaB SB ob X (ox := { cls := .ref C, dict := some dx, data := .fields fv }) (od := some oD) ⟨hx, rfl, rfl, hoD⟩ hcd hm ha ?_
  have kl : W.Looks (model prog w) hp (classData C) cd := W.looks_clsIn X hcd
  obtain ⟨_, _, _, _, _, hd, _, _, _, _, _⟩ := cd; dsimp only at hh; subst hh; unfold storeInOwnDict ownDictForStores
  repeat (first | with_reducible refine PySem.OEX.store_in_old hns hw hz ?_ | with_reducible refine wpAny_loadPart_at hx ?_ | with_reducible refine kl.at ?_ | wp_step)
  exact fun h' tk' hn' hs => hq h' tk' (fun b o hb ho => (hs.2 b hb).trans ho) hn'
end
/-- what the written part says of such a class -/
structure OexB (K : PySem.W.Frag) (C : Addr) (B nw ini : String) (tl : List Value) : Prop where
  cls : ∃ nm q N bs sn sub ab col dd k0 k1 k2 k3 k5, K.lookup C = some (excClassObj nm q C N bs tl true sn sub ab col dd k0 k1 k2 k3 k5 nw)
  fb : ExcBaseFacts B nw ini tl
  st : PySem.StoreFacts B tl "object.__setattr__" "object"
  ob : tl.contains (.type "object") = true
  sa : PySem.W.findIn K (.ref C) "__setattr__" = some (some (.builtin "object.__setattr__"))
  exC : PySem.W.subIn K (.ref C) (.type "BaseException") = some true
  tyC : PySem.W.typeIn K (.ref C) = some (.type "type")
  kC : PySem.W.keepIn K (.ref C) = true
section
variable {X : Cx} {pins : List (Addr × Obj)} {σ : L2.St} {H : Hp} {s : Shared} {a C dx : Addr} {f : Str} {y : V} {u : Value} {fs : List (Str × V)} {Q : Unit → Shared → Prop} {E : Value → Shared → Prop} {A : Around} {B nw ini : String} {tl : List Value}
theorem ostB_new (T : OexB X.K C B nw ini tl) (I : L2.Inv X pins σ H s) (e : H a = some (exo a C none)) (hno : PySem.W.findIn X.K (.ref C) f = some none) (ry : RelV y u) (h : ∀ dx s', H dx = none → dx ≠ a → L2.Inv X pins σ (upd (upd H dx (exd dx [(f, y)])) a (exo a C (some dx))) s' → Q () s') : wpAny (model X.prog X.w) A (setAttr (.ref a) f u) Q E s := by
  obtain ⟨nm, q, N, bs, sn, sub, ab, col, dd, k0, k1, k2, k3, k5, hC⟩ := T.cls
  have hcl : PySem.W.clsIn X.K C = some { name := nm, bases := bs, mro := .ref C :: tl, ns := N, qualname := q, hasDict := true, slotNames := sn, subclasses := sub, abstract := ab, collection := col, hasDel := false } := by unfold PySem.W.clsIn; rw [hC] <;> rfl
  obtain ⟨t1, ho⟩ := exo_at I.hok e; obtain ⟨hp, g, d, t, os⟩ := s
  refine PySem.W.set_plain I.kIn (ox := { cls := .ref C, dict := none, data := .fields #[.ref t1, .none, .none, .none, .bool false, .none] }) (od := none) ⟨ho, rfl, rfl, trivial⟩ T.sa (osaB_new T.st T.ob I.kIn ho hcl rfl rfl hno fun h' tk' dx k dn dne hx hn => ?_)
  have n0 : H dx = none := I.hok.fresh dn
  have nd : ∀ {b : Addr} {o : Obj}, hp.get? b = some o → b ≠ dx := fun {b o} q => Nat.ne_of_lt (Nat.lt_of_lt_of_le (Heap.lt_size q) dn)
  have na : ∀ {b : Addr}, H b = none → b ≠ a := fun {b} n z => by rw [z, e] at n; cases n
  have U : Un X.fs [] H (upd (upd H dx (exd dx [(f, y)])) a (exo a C (some dx))) hp h' := ⟨fun b o q n _ _ => k b o (na n) q, fun b o q n _ _ => ⟨o.slots, k b o (na n) q⟩, fun b o q n _ => by rw [upd_ne (na n), upd_ne (nd q)]; exact n,
    fun b o q _ => (Classical.em (b = a)).elim (fun hb => ⟨_, hb ▸ hx⟩) (fun hb => ⟨o, k b o hb q⟩), fun b xs q => by rw [upd_ne (at_ne e q exo_tup), upd_ne (ne_of_none q n0)]; exact q, fun b o v q => by rw [upd_ne (at_ne e q exo_frz), upd_ne (ne_of_none q n0)]; exact q, fun b ps q => ⟨#[], by rw [upd_ne (at_ne e q exo_tbl), upd_ne (ne_of_none q n0), q]; simp⟩⟩
  refine h dx _ n0 dne (I.un (t' := tk') U fun b o q => ?_)
  by_cases hb : b = a
  · subst hb; rw [upd_same] at q; cases q; exact exo_ok hx
  · rw [upd_ne hb] at q
    by_cases hd : b = dx
    · subst hd; rw [upd_same] at q; cases q; exact exd_ok hn (relO_put (fs := []) ry fun g => True.intro)
    · rw [upd_ne hd] at q
      exact (I.hok b o q).stay (fun c v hc z => k c v (hc.elim (fun hc => hc ▸ hb) (fun hc => at_ne e hc exo_own)) z) (fun c hc => by rw [upd_ne (at_ne e hc exo_own), upd_ne (ne_of_none hc n0)]; exact hc) (fun c xs hc => by rw [upd_ne (at_ne e hc exo_tup), upd_ne (ne_of_none hc n0)]; exact hc)
theorem ostB_old (T : OexB X.K C B nw ini tl) (I : L2.Inv X pins σ H s) (e : H a = some (exo a C (some dx))) (ed : H dx = some (exd dx fs)) (hl : fs.length ≤ 900) (hno : PySem.W.findIn X.K (.ref C) f = some none) (ry : RelV y u) (h : ∀ s', L2.Inv X pins σ (upd H dx (exd dx ((f, y) :: fs))) s' → Q () s') : wpAny (model X.prog X.w) A (setAttr (.ref a) f u) Q E s := by
  obtain ⟨nm, q, N, bs, sn, sub, ab, col, dd, k0, k1, k2, k3, k5, hC⟩ := T.cls
  have hcl : PySem.W.clsIn X.K C = some { name := nm, bases := bs, mro := .ref C :: tl, ns := N, qualname := q, hasDict := true, slotNames := sn, subclasses := sub, abstract := ab, collection := col, hasDel := false } := by unfold PySem.W.clsIn; rw [hC] <;> rfl
  obtain ⟨t1, ho⟩ := exo_at I.hok e; obtain ⟨mA, hns, rel⟩ := exd_at I.hok ed; have hw := within_of rel; obtain ⟨hp, g, d, t, os⟩ := s; obtain ⟨oD, _, _, hoD, _, _⟩ := hns.count hw
  refine PySem.W.set_plain I.kIn (ox := { cls := .ref C, dict := some dx, data := .fields #[.ref t1, .none, .none, .none, .bool false, .none] }) (od := some oD) ⟨ho, rfl, rfl, hoD⟩ T.sa (osaB_old T.st T.ob I.kIn ho hns hw (by rw [List.length_map]; omega) hcl rfl rfl hno fun h' tk' k hn => ?_)
  exact h _ (I.write (t' := tk') (x := dx) (e := dx) (o := exd dx ((f, y) :: fs)) (by rw [ed]; exact True.intro) (.inl rfl) k (by obtain ⟨o, _, _, e', _⟩ := hn; exact ⟨o, e'⟩) (exd_ok hn (relO_put ry rel)))
theorem oinitB {us : List Value} {Q : Value → Shared → Prop} (T : OexB X.K C B nw ini tl) (I : L2.Inv X pins σ H s) (e : H a = some (exo a C none)) (hl : us.length ≤ sizeLine) (h : ∀ s', L2.Inv X pins σ H s' → Q .none s') : wpAny (model X.prog X.w) A (call (.builtin ini) (.ref a :: us)) Q E s := by
  obtain ⟨nm, q, N, bs, sn, sub, ab, col, dd, k0, k1, k2, k3, k5, hC⟩ := T.cls
  obtain ⟨t1, ho⟩ := exo_at I.hok e; obtain ⟨hp, g, d, t, os⟩ := s
  refine wpAny_call (PySem.HandSPX.init_base T.fb (fun _ => rfl) (I.kIn _ _ hC) ho hl fun h' t2 k hx => ?_)
  have J := I.write (t' := t) (x := a) (e := a) (o := exo a C none) (by rw [e]; exact True.intro) (.inl rfl) k ⟨_, hx⟩ (exo_ok hx)
  have eu : upd H a (exo a C none) = H := funext fun b => if hb : b = a then by rw [hb, upd_same, e] else by rw [upd_ne hb]
  rw [eu] at J; exact h _ J
end
def tBeI (K : PySem.W.Frag) (B nw ini : String) (tl : List Value) (ta : TA) : TE := fun σ H Q => ta σ H fun vs H1 => ∃ (a C : Addr) (ws : List V), vs = .ref a :: ws ∧ ws.length ≤ 1000 ∧ OexB K C B nw ini tl ∧ H1 a = some (exo a C none) ∧ Q .non H1
def tOsB (K : PySem.W.Frag) (B nw ini : String) (tl : List Value) (f : Str) (to te : TE) : TS := fun D σ H => te σ H fun y H1 => to σ H1 fun x H2 => ∃ a C : Addr, x = .ref a ∧ OexB K C B nw ini tl ∧ PySem.W.findIn K (.ref C) f = some none ∧
  ((H2 a = some (exo a C none) ∧ ∀ dx, H2 dx = none → dx ≠ a → D.nx σ (upd (upd H2 dx (exd dx [(f, y)])) a (exo a C (some dx)))) ∨ ∃ (dx : Addr) (fs : List (Str × V)), H2 a = some (exo a C (some dx)) ∧ H2 dx = some (exd dx fs) ∧ fs.length ≤ 900 ∧ D.nx σ (upd H2 dx (exd dx ((f, y) :: fs))))
section
variable {X : Cx} {o e : Expr} {es : List Expr} {to te : TE} {ta : TA} {f : Str} {p p' p1 p2 pos : Pos} {B nw ini : String} {tl : List Value}
theorem pe_beinit {x : Str} {pl : Sem Bool} (hg : Gl X x) (hm : X.mg x = none) (hB : bootBuiltins x = some (.type B)) (ht : typeOf (.type B) = pure (.type "type")) (hs : Manifest.isStub B = false) (vV : PySem.W.findCls X.K (.type B) (.type "type") "__init__" = some (.val (.builtin ini))) (hh : PySem.W.handedIn (.builtin ini) = true) (ha : PA X (e :: es) ta) (hnn : x ≠ "__name__" := by decide) (hdb : (x == ("__debug__" : Str)) = false := by decide)
    (hc : eval (.Call (.Attribute (.Name x p1) "__init__" p2) (e :: es) [] pos) X.env = (do let ov ← eval (.Name x p1) X.env; standAt p2.atName; let (f, first) ← holding [ov] (getMethod ov "__init__" pl); callWith pos f first (backTo pos (starEach (e :: es) X.env)) (backToKw pos (keywordEach [] X.env))) := by rfl)
    (he : starEach (e :: es) X.env = (false, eval e X.env) :: starEach es X.env := by rfl) (hpl : (backTo pos (starEach es X.env)).any (·.1) = false := by rfl) : PE X (.Call (.Attribute (.Name x p1) "__init__" p2) (e :: es) [] pos) (tBeI X.K B nw ini tl ta) := by
  refine ⟨fun pins s σ H Q I h => PySem.W.methodCall_KW (ld_blt I hg hm hB ?_ hnn hdb) hc⟩
  obtain ⟨m, fr⟩ := I.fr
  refine PySem.W.method_type fr I.ok.mod.kin ht hs vV hh ?_
  show wpAny _ _ (callWith pos (Value.builtin ini) [] (backTo pos (starEach (e :: es) X.env)) []) _ _ _
  refine PyProof.Rows.callWith_method1 (thn (ha.run pos pins _ σ H _ (I.tok _) h) fun us s1 ⟨vs, H1, I1, r1, a, C, ws, ev, hl, T, ea, q⟩ => ?_) he hpl
  subst ev
  cases r1 with
  | @cons _ u0 _ ur ra rw' =>
    have eu : u0 = Value.ref a := ra
    subst eu
    exact oinitB T I1 ea (by rw [← Paired.length rw', sizeLine_eq]; omega) fun s' J => ⟨.non, H1, J, rfl, q⟩
theorem ps_osB (ho : PE X o to) (he : PE X e te) (hs : swapsWith e (some (.Attribute o f p')) pos.line X.env = pure false := by rfl) : PS X (.Assign [.Attribute o f p'] e pos) (tOsB X.K B nw ini tl f to te) := by
  refine ⟨fun pins s σ H D I h => plainObj_wpAny_Assign_Attribute (thn (he.run pins s σ H _ I h) fun v s1 ⟨y, H1, I1, r1, q1⟩ => thn (ho.run pins s1 σ H1 _ I1 q1) fun u s2 ⟨x, H2, I2, r2, a, C, ex, T, hno, q⟩ => ?_) hs⟩
  subst ex
  have eu : u = Value.ref a := r2
  subst eu
  rcases q with ⟨ea, q⟩ | ⟨dx, fs, ea, ed, hl, q⟩
  · exact ostB_new T I2 ea hno r1 fun dx s' n ne J => ⟨σ, _, J, q dx n ne⟩
  · exact ostB_old T I2 ea ed hl hno r1 fun s' J => ⟨σ, _, J, q⟩
/-- C(e, ..), C's own __init__ keeping sp -/
theorem pmkB {CX : CXT} {x : Str} {C fI : Addr} {k : Nat} {fd : FuncData} {ps : List Str} {sp : Sp} (T : OexB X.K C B nw ini tl) (iC : PySem.W.findIn X.K (.ref C) "__init__" = some (some (.ref fI))) (tI : PySem.W.typeIn X.K (.ref fI) = some (.type "function")) (F1 : FnOk X.prog X.w X.K X.mg X.base CX k fI fd ps sp) (hr : Room (k + 1) X.A) (hb : Binds X.K fd ps []) (hx : Passes CX X (fun _ _ _ => False)) (hg : Gl X x) (hm : X.mg x = some (.ref C)) (ha : PA X (e :: es) ta)
    (hdb : (x == ("__debug__" : Str)) = false := by decide) (he : starEach (e :: es) X.env = (false, eval e X.env) :: starEach es X.env := by rfl) (hpl : (backTo pos (starEach es X.env)).any (·.1) = false := by rfl) : PMk X (.Call (.Name x p) (e :: es) [] pos) (tMkO C sp [] ta) := by
  intro pins s σ H Q I h
  obtain ⟨nm, q, N, bs, sn, sub, ab, col, dd, k0, k1, k2, k3, k5, hC⟩ := T.cls
  refine wpAny_Call_Name_kw (ld_glob I hg hm (PySem.W.callWith_K (h₀ := X.base) I.ok.mod.kin T.kC (thn (ha.run pos pins s σ H _ I h) fun us s1 ⟨vs, H1, I1, r1, hz, q1⟩ => ⟨I1.kIn, ?_⟩) he hpl) hdb)
  show wpAny _ _ (call (.ref C) us) _ _ _
  obtain ⟨hp, g, dr, tk, os⟩ := s1
  have z : hp.objs.size ≤ hp.objs.size + 1 := Nat.le_succ _
  have hq := q1 (hp.objs.size + 1) (I1.hok.fresh z)
  have kk : ∀ b o, hp.get? b = some o → ((hp.push (PySem.W.kdv_tup us)).push (PySem.HandSPX.excO C hp.objs.size)).get? b = some o := fun b o e1 => Heap.get?_push_of_some _ (Heap.get?_push_of_some _ e1)
  have I2 : L2.Inv X pins σ (upd H1 (hp.objs.size + 1) (exo (hp.objs.size + 1) C none)) ⟨(hp.push (PySem.W.kdv_tup us)).push (PySem.HandSPX.excO C hp.objs.size), g, dr, tk, os⟩ := I1.laid (t' := tk) (a := hp.objs.size + 1) (o := exo (hp.objs.size + 1) C none) (h' := (hp.push (PySem.W.kdv_tup us)).push (PySem.HandSPX.excO C hp.objs.size)) kk z (exo_ok (by heap_get))
  have r2 : Vals (V.ref (hp.objs.size + 1) :: (vs ++ [])) (Value.ref (hp.objs.size + 1) :: (us ++ [])) := .cons rfl (r1.append .nil)
  have hl : (Value.ref (hp.objs.size + 1) :: us ++ []).length = ps.length := by have e1 := r2.length; rw [F1.len _ _ _ _ hq] at e1; exact e1.symm
  have bt := hb _ (Value.ref (hp.objs.size + 1) :: us) I2.kIn hl
  rw [List.cons_append] at bt
  refine wpAny_call (PySem.HandSPX.call_own T.fb (fun _ => rfl) (I1.kIn _ _ hC) (PySem.W.looks_findIn I1.kIn iC) (fun self => PySem.W.bind_fn I1.kIn self tI) (by rw [← Paired.length r1, sizeLine_eq]; omega) (codeAny_mono (F1.run _ X.stack _ _ ⟨Value.ref (hp.objs.size + 1) :: us, []⟩ (Value.ref (hp.objs.size + 1) :: (us ++ [])) _ _ (fun _ _ _ => False) (hr.make C us []) (I2.env0.make C us []) bt r2 hq) fun r s' hq' => ?_))
  cases r with
  | error er => exact hx pins σ _ _ er s' I2 hq'
  | ok fl =>
    cases fl with
    | ret u => obtain ⟨v, H2, os2, bare2, un2, hok2, rv, ev, d, fs, ea, ed, hd1, q2⟩ := hq'; subst ev; obtain ⟨h2, g2, d2, t2, os'⟩ := s'; exact ⟨rv, mk_end (raises_own T.exC T.tyC) I1 z kk un2 hok2 os2 bare2 ea ed hd1 q2⟩
    | next => exact hq'.elim
    | brk => exact hq'.elim
    | cont => exact hq'.elim
/-- C() -/
theorem pmkB0 {CX : CXT} {x : Str} {C fI : Addr} {k : Nat} {fd : FuncData} {ps : List Str} {sp : Sp} (T : OexB X.K C B nw ini tl) (iC : PySem.W.findIn X.K (.ref C) "__init__" = some (some (.ref fI))) (tI : PySem.W.typeIn X.K (.ref fI) = some (.type "function")) (F1 : FnOk X.prog X.w X.K X.mg X.base CX k fI fd ps sp) (hr : Room (k + 1) X.A) (hb : Binds X.K fd ps []) (hx : Passes CX X (fun _ _ _ => False)) (hg : Gl X x) (hm : X.mg x = some (.ref C)) (hdb : (x == ("__debug__" : Str)) = false := by decide) : PMk X (.Call (.Name x p) [] [] pos) (tMkO C sp [] tNil) := by
  intro pins s1 σ H1 Q I1 h
  obtain ⟨hz, q1⟩ := h
  obtain ⟨nm, q, N, bs, sn, sub, ab, col, dd, k0, k1, k2, k3, k5, hC⟩ := T.cls
  refine wpAny_Call_Name_kw (ld_glob I1 hg hm (PySem.W.callWith_K0 I1.kIn T.kC ?_) hdb)
  show wpAny _ _ (call (.ref C) []) _ _ _
  obtain ⟨hp, g, dr, tk, os⟩ := s1
  have z : hp.objs.size ≤ hp.objs.size + 1 := Nat.le_succ _
  have hq := q1 (hp.objs.size + 1) (I1.hok.fresh z)
  have rv0 : Vals [V.ref (hp.objs.size + 1)] [Value.ref (hp.objs.size + 1)] := .cons rfl .nil
  have kk : ∀ b o, hp.get? b = some o → ((hp.push (PySem.W.kdv_tup [])).push (PySem.HandSPX.excO C hp.objs.size)).get? b = some o := fun b o e1 => Heap.get?_push_of_some _ (Heap.get?_push_of_some _ e1)
  have I2 : L2.Inv X pins σ (upd H1 (hp.objs.size + 1) (exo (hp.objs.size + 1) C none)) ⟨(hp.push (PySem.W.kdv_tup [])).push (PySem.HandSPX.excO C hp.objs.size), g, dr, tk, os⟩ := I1.laid (t' := tk) (a := hp.objs.size + 1) (o := exo (hp.objs.size + 1) C none) (h' := (hp.push (PySem.W.kdv_tup [])).push (PySem.HandSPX.excO C hp.objs.size)) kk z (exo_ok (by heap_get))
  refine wpAny_call (PySem.HandSPX.call_own T.fb (fun _ => rfl) (I1.kIn _ _ hC) (PySem.W.looks_findIn I1.kIn iC) (fun self => PySem.W.bind_fn I1.kIn self tI) (Nat.zero_le _) (codeAny_mono (F1.run _ X.stack _ _ ⟨[Value.ref (hp.objs.size + 1)], []⟩ [Value.ref (hp.objs.size + 1)] _ _ (fun _ _ _ => False) (hr.make C [] []) (I2.env0.make C [] []) (hb _ [Value.ref (hp.objs.size + 1)] I2.kIn (F1.len _ _ _ _ hq)) rv0 hq) fun r s' hq' => ?_))
  cases r with
  | error er => exact hx pins σ _ _ er s' I2 hq'
  | ok fl =>
    cases fl with
    | ret u => obtain ⟨v, H2, os2, bare2, un2, hok2, rv, ev, d, fs, ea, ed, hd1, q2⟩ := hq'; subst ev; obtain ⟨h2, g2, d2, t2, os'⟩ := s'; exact ⟨rv, mk_end (raises_own T.exC T.tyC) I1 z kk un2 hok2 os2 bare2 ea ed hd1 q2⟩
    | next => exact hq'.elim
    | brk => exact hq'.elim
    | cont => exact hq'.elim
end
end Bw
set_option Elab.async false
set_option linter.all false
set_option maxRecDepth 100000
set_option maxHeartbeats 4000000
namespace Bw
open PySem PySem.Spec PyProof.Rows L2 LamX
/-! ### try: .. except x as n: .. except (x1, x2, x3, x4) as n: .. -/
abbrev endsAs (i : Nat) (D : Ends) : Ends := { nx := fun σ' H' => D.nx (σ'.set i none) H', rt := D.rt, bk := fun σ' H' => D.bk (σ'.set i none) H', ct := fun σ' H' => D.ct (σ'.set i none) H' }
def wAs2 (K : PySem.W.Frag) (c : Value) (cs : List Value) (i : Nat) (t1 t2 : Addr → Value → Option Addr → TS) (D : Ends) : WX := fun cls d σ H =>
  (PySem.W.exmOne K cls c = some true ∧ ∀ a, H a = none → t1 a cls d (endsAs i D) (σ.set i (some (.ref a))) H) ∨ (PySem.W.exmOne K cls c = some false ∧ PySem.W.exmAny K cls cs = some true ∧ ∀ a, H a = none → t2 a cls d (endsAs i D) (σ.set i (some (.ref a))) H)
theorem fly_push {B : Heap} {l : List Env} {a : Addr} {Z : Obj → Prop} {h h' : Heap} (k : ∀ b o, h.get? b = some o → h'.get? b = some o) (f : HandSPX.FlyingZ B l a Z h) : HandSPX.FlyingZ B l a Z h' := by
  obtain ⟨f1, f2, f3, oe, vs, T, oT, ts, e1, e2, e3, e4, e5, e6, e7, e8⟩ := f
  exact ⟨fun b o e => k _ _ (f1 b o e), f2, Heap.FunFrames.of_keeps (fun b o e _ => ⟨o, k _ _ e, rfl⟩) f3, oe, vs, T, oT, ts, k _ _ e1, e2, e3, e4, e5, e6, k _ _ e7, e8⟩
theorem ps_try_as2 {X : Cx} {x x1 x2 x3 x4 n : Str} {c c1 c2 c3 c4 : Value} {i : Nat} {body suite suite2 : List Stmt} {b₀ b2₀ : Stmt} {np q1 q2 q3 q4 qt pos pos' pos2 : Pos} {tup} {tb : WX → TS} {ts ts2 : Addr → Value → Option Addr → TS} (hs : X.stack = X.env :: X.outer) (hf : X.env.frame = some X.env.locals) (hN : X.N.Nodup) (hi : X.N[i]? = some n) (hln : X.env.kindOf n = some .local)
    (hc : Names X x c) (h1 : Names X x1 c1) (h2 : Names X x2 c2) (h3 : Names X x3 c3) (h4 : Names X x4 c4)
    (hb : ∀ (W : WX) (pn : List (Addr × Obj)) (xe : Value → Shared → Prop), Takes (X.tr pn xe) W → PassesOwn (model X.prog X.w) X.A X.env xe → PSs (X.tr pn xe) body (tb W))
    (hsu : ∀ (a : Addr) (oe : Obj) (cls : Value) (d : Option Addr) (pn : List (Addr × Obj)), Zc cls d oe → (∃ vs, oe.data = .fields vs) → PSs (X.suite a ((a, oe) :: pn)) (b₀ :: suite) (ts a cls d))
    (hs2 : ∀ (a : Addr) (oe : Obj) (cls : Value) (d : Option Addr) (pn : List (Addr × Obj)), Zc cls d oe → (∃ vs, oe.data = .fields vs) → PSs (X.suite a ((a, oe) :: pn)) (b2₀ :: suite2) (ts2 a cls d)) :
    PS X (.Try body [.ExceptHandler (some (.Name x np)) (some n) (b₀ :: suite) pos', .ExceptHandler (some (.Tuple [.Name x1 q1, .Name x2 q2, .Name x3 q3, .Name x4 q4] tup qt)) (some n) (b2₀ :: suite2) pos2] [] [] pos) (fun D σ H => tb (wAs2 X.K c [c1, c2, c3, c4] i ts ts2 D) D σ H) := by
  refine ⟨fun pins s σ H D I h => ?_⟩
  have ok := I.ok
  have hfr : X.A.frames = some (X.env :: X.outer) := by rw [ok.frames, hs]
  have hloc : Loc X.env.scope n := .inl hln
  refine wpAny_Try_except (wpAny_mono ((hb (wAs2 X.K c [c1, c2, c3, c4] i ts ts2 D) (X.pn ++ pins) (fun e s₁ => wpAny (model X.prog X.w) X.A (noteFrame e X.env) (fun _ s₂ => wpAny (model X.prog X.w) X.A (setFlight e none) (fun _ s₃ => wpAny (model X.prog X.w) X.A (handleBy e X.env [.ExceptHandler (some (.Name x np)) (some n) (b₀ :: suite) pos', .ExceptHandler (some (.Tuple [.Name x1 q1, .Name x2 q2, .Name x3 q3, .Name x4 q4] tup qt)) (some n) (b2₀ :: suite2) pos2]) (SP X pins D) X.xe s₃) X.xe s₂) X.xe s₁) (fun u s' xx => ?_) PassesOwn.looking).run [] s σ H D (I.toTry _) h) (fun f s1 hsp => ?_) (fun e s1 he => he))
  · obtain ⟨a, B, sI, pins', σ', H', cls, d, rfl, J', nb, up, sky, na, os, ag, hw⟩ := xx
    have J : L2.Inv X pins σ' H' sI := J'.ofTry ok
    have sky' : Sky B (X.env :: X.outer) a (Zc cls d) X.env.locals s'.heap := by rw [← hs]; exact sky
    show wpAny (model X.prog X.w) X.A (noteFrame (.ref a) X.env) _ _ _
    refine Sky.land Zc.steady hfr hf sky' fun g3 fl3 up3 => ?_
    have J3 : L2.Inv X pins σ' H' { s' with heap := g3 } := J.landed nb fl3.1 (up.trans up3) os ag
    obtain ⟨oe3, vs3, he3, hz3, hd3⟩ := fl3.there
    have nfr : a ∉ frs (X.env :: X.outer) := fun hm => by obtain ⟨_, o', e', hnf⟩ := fl3.2.2.1.mem hm; rw [he3] at e'; cases e'; exact hnf _ hd3
    have nL : a ≠ X.env.locals := fun z => nfr (List.mem_filterMap.mpr ⟨X.env, List.mem_cons_self, by rw [hf, z]⟩)
    have nF : a ∉ X.fs := fun hm => by obtain ⟨e, he, q⟩ := List.mem_filterMap.mp hm; exact nfr (List.mem_filterMap.mpr ⟨e, List.mem_cons_of_mem _ he, q⟩)
    have S3 := J3.suite he3 hd3 na nL nF
    have rd : ∀ {y : Str} {k : Value} {pp : Pos} {Q : Value → Shared → Prop} {E : Value → Shared → Prop}, Names X y k → Q k { s' with heap := g3 } → wpAny (model X.prog X.w) (X.A.mark (some (.ref a))) (eval (.Name y pp) X.env) Q E { s' with heap := g3 } := fun {y k pp Q E} hy q => by
      obtain ⟨hg, hdbg, hm | ⟨hm, hv, hnn⟩⟩ := hy
      · exact ld_glob (X := X.suite a ((a, oe3) :: (X.pn ++ pins))) S3 hg hm q hdbg
      · exact ld_blt (X := X.suite a ((a, oe3) :: (X.pn ++ pins))) S3 hg hm hv q hnn hdbg
    have LT : PySem.W.Looks (model X.prog X.w) g3 (typeOf (.ref a)) cls := fun A Q E s k q => wpAny_typeOf_ref (k _ _ he3) (by rw [hz3.1]; exact q)
    refine wpAny_handleBy_cons (codeAny_handlers_test ?_) (by intro q; cases q)
    rcases hw with ⟨hb1, hyes⟩ | ⟨hb1, hb2, hyes⟩
    · refine rd hc ((PySem.W.exm_one (M := model X.prog X.w) J3.kIn LT hb1).here (codeAny_handlers_suite_as ?_))
      refine HandSPX.lands_againZ fl3 fun g4 fl4 up4 => ?_
      have J4 : L2.Inv X pins σ' H' { s' with heap := g4 } := J.landed nb fl4.1 ((up.trans up3).trans up4) os ag
      obtain ⟨oe4, vs4, he4, hz4, hd4⟩ := fl4.there
      refine store_ok (X := X.suite a ((a, oe4) :: (X.pn ++ pins))) (v := .ref a) (J4.suite he4 hd4 na nL nF) hN hi hloc rfl (fun s5 S5 => ?_) (.inr hln)
      refine wpAny_mono ((hsu a oe4 cls d (X.pn ++ pins) hz4 ⟨_, hd4⟩).run [] s5 _ H' _ S5 (hyes a na)) (fun f s6 hsp => ?_) (fun _ _ z => z.elim)
      have en : ∀ {σ6 : L2.St} {H6 : Hp} {Q : Shared → Prop}, L2.Inv (X.suite a ((a, oe4) :: (X.pn ++ pins))) [] σ6 H6 s6 → (∀ s7, L2.Inv X pins (σ6.set i none) H6 s7 → Q s7) → wpAny (model X.prog X.w) X.A (do bindName X.env n .none; unbindBehindTheSuite X.env n pos') (fun _ s7 => Q s7) X.xe s6 := fun {σ6 H6 Q} S6 hq => gone_ok (S6.unsuite ok) hN hi hln hq
      cases f with
      | next => obtain ⟨σ6, H6, S6, q6⟩ := hsp; exact en S6 fun s7 J7 => ⟨_, _, J7, q6⟩
      | brk => obtain ⟨σ6, H6, S6, q6⟩ := hsp; exact en S6 fun s7 J7 => ⟨_, _, J7, q6⟩
      | cont => obtain ⟨σ6, H6, S6, q6⟩ := hsp; exact en S6 fun s7 J7 => ⟨_, _, J7, q6⟩
      | ret u => obtain ⟨v6, σ6, H6, S6, r6, q6⟩ := hsp; exact en S6 fun s7 J7 => ⟨_, _, _, J7, r6, q6⟩
    · refine rd hc ((PySem.W.exm_one (M := model X.prog X.w) J3.kIn LT hb1).here ?_)
      show wpAny _ X.A (handleBy (.ref a) X.env [.ExceptHandler (some (.Tuple [.Name x1 q1, .Name x2 q2, .Name x3 q3, .Name x4 q4] tup qt)) (some n) (b2₀ :: suite2) pos2]) _ _ _
      refine wpAny_handleBy_cons (codeAny_handlers_test ?_) (by intro q; cases q)
      refine wpAny_Tuple_spliced ?_
      show wpAny _ _ (spliced [(false, eval (.Name x1 q1) X.env), (false, eval (.Name x2 q2) X.env), (false, eval (.Name x3 q3) X.env), (false, eval (.Name x4 q4) X.env)]) _ _ _
      refine Calls.spliced_cons (rd h1 (Calls.spliced_cons (rd h2 (Calls.spliced_cons (rd h3 (Calls.spliced_cons (rd h4 (Calls.spliced_nil ⟨(show 4 ≤ sizeLine by decide), ?_⟩))))))))
      have kp : ∀ b o, g3.get? b = some o → (g3.push { cls := .type "tuple", data := .seq [c1, c2, c3, c4].toArray }).get? b = some o := fun b o e => Heap.get?_push_of_some _ e
      refine (PySem.W.exm_tup4 (M := model X.prog X.w) (tp := g3.objs.size) (fun b o e => kp _ _ (J3.kIn b o e)) (LT.keeps kp) (Heap.get?_push_size _ rfl) hb2).here (codeAny_handlers_suite_as ?_)
      refine HandSPX.lands_againZ (fly_push kp fl3) fun g4 fl4 up4 => ?_
      have J4 : L2.Inv X pins σ' H' { s' with heap := g4 } := J.landed nb fl4.1 (((up.trans up3).trans (Heap.UpToSlots.of_keeps kp)).trans up4) os ag
      obtain ⟨oe4, vs4, he4, hz4, hd4⟩ := fl4.there
      refine store_ok (X := X.suite a ((a, oe4) :: (X.pn ++ pins))) (v := .ref a) (J4.suite he4 hd4 na nL nF) hN hi hloc rfl (fun s5 S5 => ?_) (.inr hln)
      refine wpAny_mono ((hs2 a oe4 cls d (X.pn ++ pins) hz4 ⟨_, hd4⟩).run [] s5 _ H' _ S5 (hyes a na)) (fun f s6 hsp => ?_) (fun _ _ z => z.elim)
      have en : ∀ {σ6 : L2.St} {H6 : Hp} {Q : Shared → Prop}, L2.Inv (X.suite a ((a, oe4) :: (X.pn ++ pins))) [] σ6 H6 s6 → (∀ s7, L2.Inv X pins (σ6.set i none) H6 s7 → Q s7) → wpAny (model X.prog X.w) X.A (do bindName X.env n .none; unbindBehindTheSuite X.env n pos2) (fun _ s7 => Q s7) X.xe s6 := fun {σ6 H6 Q} S6 hq => gone_ok (S6.unsuite ok) hN hi hln hq
      cases f with
      | next => obtain ⟨σ6, H6, S6, q6⟩ := hsp; exact en S6 fun s7 J7 => ⟨_, _, J7, q6⟩
      | brk => obtain ⟨σ6, H6, S6, q6⟩ := hsp; exact en S6 fun s7 J7 => ⟨_, _, J7, q6⟩
      | cont => obtain ⟨σ6, H6, S6, q6⟩ := hsp; exact en S6 fun s7 J7 => ⟨_, _, J7, q6⟩
      | ret u => obtain ⟨v6, σ6, H6, S6, r6, q6⟩ := hsp; exact en S6 fun s7 J7 => ⟨_, _, _, J7, r6, q6⟩
  · cases f with
    | next => exact let ⟨σ', H', J', q⟩ := hsp; wpAny_execs_nil ⟨σ', H', J'.ofTry ok, q⟩
    | brk => exact let ⟨σ', H', J', q⟩ := hsp; ⟨σ', H', J'.ofTry ok, q⟩
    | cont => exact let ⟨σ', H', J', q⟩ := hsp; ⟨σ', H', J'.ofTry ok, q⟩
    | ret u => exact let ⟨v, σ', H', J', r, q⟩ := hsp; ⟨v, σ', H', J'.ofTry ok, r, q⟩
/-! ### the word of a refusal of any kind, or none -/
def ErrAtW (K : PySem.W.Frag) (CB : Addr) (cs : List Value) (cls : Value) (d : Option Addr) (H : Hp) (v : V) : Prop := ∃ (C dd : Addr) (fs : List (Str × V)), cls = .ref C ∧ d = some dd ∧ (PySem.W.exmOne K (.ref C) (.ref CB) = some true ∨ (PySem.W.exmOne K (.ref C) (.ref CB) = some false ∧ PySem.W.exmAny K (.ref C) cs = some true)) ∧ XfC K C ∧ PySem.W.findIn K (.ref C) "word" = some none ∧ H dd = some (.xd fs) ∧ fs.lookup ("word" : Str) = some v
theorem ErrAt.wide {K : PySem.W.Frag} {CB : Addr} {cs : List Value} {cls : Value} {d : Option Addr} {H : Hp} {v : V} (h : ErrAt K CB cls d H v) : ErrAtW K CB cs cls d H v := by
  obtain ⟨C, dd, fs, h1, h2, h3, h4⟩ := h
  exact ⟨C, dd, fs, h1, h2, .inl h3, h4⟩
def TWordW (K : PySem.W.Frag) (CB : Addr) (cs : List Value) : (XK → Hp → VK → Prop) → Hp → VK → Prop := fun tl H Q => tl (fun cls d H' => ∃ v, ErrAtW K CB cs cls d H' v ∧ Q v H') H (fun _ H' => Q (.str "") H')
theorem word_givesW {X : Cx} {Ng : List Str} {x a q : Str} {sg : Scope} {g CB c1 c2 c3 c4 : Addr} {cdg : Value} {j : Nat} {tup} {p1 p2 p3 p4 p5 p6 p7 p8 p9 p10 p11 r1 r2 r3 r4 r5 r6 r7 r8 r9 : Pos} (hge : sg.names.lookup ("BudError" : Str) = some .globalImplicit) (hme : X.mg "BudError" = some (.ref CB))
    (g1 : sg.names.lookup ("NoPart" : Str) = some .globalImplicit) (m1 : X.mg "NoPart" = some (.ref c1)) (g2 : sg.names.lookup ("NoPlace" : Str) = some .globalImplicit) (m2 : X.mg "NoPlace" = some (.ref c2)) (g3 : sg.names.lookup ("Lacking" : Str) = some .globalImplicit) (m3 : X.mg "Lacking" = some (.ref c3)) (g4 : sg.names.lookup ("NothingLeft" : Str) = some .globalImplicit) (m4 : X.mg "NothingLeft" = some (.ref c4))
    (hNd : Ng.Nodup) (hN1 : Ng[1]? = some ("e" : Str)) (hk : sg.names.lookup ("e" : Str) = some .local) (h0 : ∀ f : Addr, (L2.start Ng [V.ref f])[0]? = some (some (V.ref f))) :
    GivesTo X Ng x sg g cdg [.Try [.Expr (.Call (.Name a p1) [] [] p2) p3] [.ExceptHandler (some (.Name "BudError" p4)) (some "e") [.Return (some (.Attribute (.Name "e" p5) "word" p6)) p7] p8, .ExceptHandler (some (.Tuple [.Name "NoPart" r1, .Name "NoPlace" r2, .Name "Lacking" r3, .Name "NothingLeft" r4] tup r5)) (some "e") [.Return (some (.Attribute (.Name "e" r6) "word" r7)) r8] r9] [] [] p9, .Return (some (.Constant (.str "") j p10)) p11] a q (TWordW X.K CB [.ref c1, .ref c2, .ref c3, .ref c4]) := by
  intro f c' s H Q tl act hc h
  have nm : ∀ {y : Str} {k : Addr}, sg.names.lookup y = some .globalImplicit → X.mg y = some (.ref k) → (y == ("__debug__" : Str)) = false → Names (cxOf C8.CX0 X.prog X.w X.K X.mg X.base Ng x sg g cdg X.A X.stack s H C8.E0).nox y (.ref k) := fun hy hm hd => ⟨hy, hd, .inl hm⟩
  refine ⟨_, pss_cons (ps_try_as2 (X := (cxOf C8.CX0 X.prog X.w X.K X.mg X.base Ng x sg g cdg X.A X.stack s H C8.E0).nox) (c := .ref CB) (i := 1)
      (tb := fun W D σ H => ∃ Ech : XK, (∀ cls d σ' H', Ech cls d H' → σ'.length = Ng.length → W cls d σ' H') ∧ σ[0]? = some (some (.ref f)) ∧ H c' = some (CodeO c' q) ∧ tl Ech H fun _ H' => D.nx σ H')
      (ts := fun a cls d => tRet (tXfD X.K a cls d "word" 1)) (ts2 := fun a cls d => tRet (tXfD X.K a cls d "word" 1)) rfl rfl hNd hN1 hk (nm hge hme (by decide)) (nm g1 m1 (by decide)) (nm g2 m2 (by decide)) (nm g3 m3 (by decide)) (nm g4 m4 (by decide)) (fun W pn xe tk _ => ?_) (fun b oe cls d pn hz hf => pss_one (ps_ret (pe_xfD hz hf (pe_var hN1 (.inl hk))))) (fun b oe cls d pn hz hf => pss_one (ps_ret (pe_xfD hz hf (pe_var hN1 (.inl hk)))))) (pss_one (ps_ret pe_str)), ?_⟩
  · refine ⟨fun pins s' σ H' D I h' => ?_⟩
    obtain ⟨Ech, hW, k1, k2, k3⟩ := h'
    exact (pss_one (ps_expr (pos := p3) (act _ pn xe Ech p1 p2 (takes_len tk) hW))).run pins s' σ H' D I ⟨k1, k2, k3⟩
  · refine ⟨fun cls d H' => ∃ v, ErrAtW X.K CB [.ref c1, .ref c2, .ref c3, .ref c4] cls d H' v ∧ Q v H', fun cls d σ' H' hE hl => ?_, h0 f, hc, h⟩
    obtain ⟨v, ⟨C, dd, fs, rfl, rfl, e1, e2, e3, e4, e5⟩, hQ⟩ := hE
    have lt : 1 < σ'.length := by rw [hl]; exact (List.getElem?_eq_some_iff.mp hN1).1
    have sd : ∀ b, H' b = none → tRet (tXfD X.K b (.ref C) (some dd) "word" 1) (endsAs 1 { nx := tRet (tC (.str "")) { nx := fun _ H' => Q .non H', rt := Q }, rt := Q }) (σ'.set 1 (some (.ref b))) H' := fun b _ => ⟨by rw [List.getElem?_set_self lt], C, dd, fs, v, rfl, e2, e3, rfl, e4, e5, hQ⟩
    rcases e1 with e1 | ⟨e1, e1'⟩
    · exact .inl ⟨e1, fun b hb => sd b hb⟩
    · exact .inr ⟨e1, e1', fun b hb => sd b hb⟩
end Bw
set_option Elab.async false
set_option linter.all false
set_option maxRecDepth 100000
set_option maxHeartbeats 4000000
namespace Bw
open PySem PySem.Spec PyProof.Rows L2
/-- what the written part says of an error's class that stands under BudError -/
structure ErrC (K : PySem.W.Frag) (mg : Str → Option Value) (x : Str) (C f CB : Addr) : Prop where
  g : mg x = some (.ref C)
  oex : OexC K C
  iC : PySem.W.findIn K (.ref C) "__init__" = some (some (.ref f))
  tI : PySem.W.typeIn K (.ref f) = some (.type "function")
  nw : PySem.W.findIn K (.ref C) "word" = some none
  xf : XfC K C
  te : PySem.W.exmOne K (.ref C) (.ref CB) = some true
def wordFs (x : Str) : List (Str × V) := [("word", .str x)]
theorem ErrC.at {K : PySem.W.Frag} {mg : Str → Option Value} {x wd : Str} {C f CB d : Addr} {H : Hp} (T : ErrC K mg x C f CB) (h : H d = some (.xd (wordFs wd))) : ErrAt K CB (.ref C) (some d) H (.str wd) := ⟨C, d, _, rfl, rfl, T.te, T.xf, T.nw, h, rfl⟩
/-- an error's own __init__ that wants nothing -/
def spErrInit (K : PySem.W.Frag) (wd : Str) : Sp := fun vs H Q _ => ∃ (a C : Addr), vs = [.ref a] ∧ OexC K C ∧ PySem.W.findIn K (.ref C) "word" = some none ∧ H a = some (exo a C none) ∧
  ∀ (dx : Addr) (H' : Hp), H dx = none → dx ≠ a → H' a = some (exo a C (some dx)) → H' dx = some (exd dx (wordFs wd)) → (∀ b, b ≠ a → b ≠ dx → H' b = H b) → Q .non H'
/-- raise x(): its reading, where what was stays -/
theorem raise_done {K : PySem.W.Frag} {mg : Str → Option Value} {x wd : Str} {C f CB : Addr} {σ : L2.St} {H : Hp} {E : XK} (T : ErrC K mg x C f CB) (q : ∀ (d : Addr) (H' : Hp), Same H H' → H' d = some (.xd (wordFs wd)) → E (.ref C) (some d) H') : tMkO C (spErrInit K wd) [] tNil σ H E := by
  refine ⟨by show 0 ≤ 1000; decide, fun x ex => ?_⟩
  refine ⟨x, C, rfl, T.oex, T.nw, upd_same, fun dx H6 ed nd hx hd hk => ?_⟩
  have ed2 : H dx = none := by
    rw [upd_ne nd] at ed
    exact ed
  refine ⟨rfl, dx, _, hx, hd, ed2, q dx _ (fun c o e2 => ?_) upd_same⟩
  have n1 : c ≠ x := ne_of_none e2 ex
  have n2 : c ≠ dx := ne_of_none e2 ed2
  rw [upd_ne n2, del_ne n1, hk c n1 n2, upd_ne n1]
  exact e2
structure CalX (P : Program) (w : World) (K : PySem.W.Frag) (mg : Str → Option Value) (base : Heap) (k : Nat) (x : Str) (ps : List Str) (sp : Sp) : Prop where
  ex : ∃ (f : Addr) (fd : FuncData), FnOk P w K mg base (L2.CX P w) k f fd ps sp ∧ mg x = some (.ref f) ∧ PySem.W.keepIn K (.ref f) = true ∧ Binds K fd ps []
theorem pe_calX {X : Cx} {x : Str} {ps : List Str} {sp : Sp} {k : Nat} {e : Expr} {es : List Expr} {p pos : Pos} {t : TA} {E : XK} (C : CalX X.prog X.w X.K X.mg X.base k x ps sp) (hr : Room k X.A) (hg : Gl X x) (hx : Passes (L2.CX X.prog X.w) X E) (ha : PA X (e :: es) t) (hdb : (x == ("__debug__" : Str)) = false := by decide) (he : starEach (e :: es) X.env = (false, eval e X.env) :: starEach es X.env := by rfl)
    (hpl : (backTo pos (starEach es X.env)).any (·.1) = false := by rfl) : PE X (.Call (.Name x p) (e :: es) [] pos) (tCall sp [] E t) := by
  obtain ⟨f, fd, F, hm, hk, hb⟩ := C.ex
  exact pe_call F hr hg hm hk hb .nil hx ha hdb he hpl
/-- what of a callee may be let out is let out -/
theorem passE {X : Cx} {E : XK} {E₁ : Value → Shared → Prop} (hs : X.stack = X.env :: X.outer) (hf : X.env.frame = some X.env.locals) (hex : X.ex = []) (hx : X.xe = fun e s' => wpAny (model X.prog X.w) X.A (leaving X.env e) (fun _ s'' => L2.CX X.prog X.w X.outer X.H_0 X.s_0 E e s'') E₁ s') : Passes (L2.CX X.prog X.w) X E := passes_call (takes_of hs hf hex hx) fun _ _ _ _ h => h
def fldFs (fld wd : Str) (x : V) : List (Str × V) := [(fld, x), ("word", .str wd)]
def spErrInit1 (K : PySem.W.Frag) (wd fld : Str) : Sp := fun vs H Q _ => ∃ (a C : Addr) (x : V), vs = [.ref a, x] ∧ OexC K C ∧ PySem.W.findIn K (.ref C) "word" = some none ∧ PySem.W.findIn K (.ref C) fld = some none ∧ H a = some (exo a C none) ∧
  ∀ (dx : Addr) (H' : Hp), H dx = none → dx ≠ a → H' a = some (exo a C (some dx)) → H' dx = some (exd dx (fldFs fld wd x)) → (∀ b, b ≠ a → b ≠ dx → H' b = H b) → Q .non H'
theorem ErrC.at1 {K : PySem.W.Frag} {mg : Str → Option Value} {x wd fld : Str} {C f CB d : Addr} {H : Hp} {v : V} (T : ErrC K mg x C f CB) (hn : (("word" : Str) == fld) = false) (h : H d = some (.xd (fldFs fld wd v))) : ErrAt K CB (.ref C) (some d) H (.str wd) := ⟨C, d, _, rfl, rfl, T.te, T.xf, T.nw, h, by
  unfold fldFs
  rw [List.lookup_cons, hn]
  rfl⟩
theorem mk_done1 {K : PySem.W.Frag} {mg : Str → Option Value} {y wd fld : Str} {C f CB : Addr} {H : Hp} {E : XK} {x : V} (T : ErrC K mg y C f CB) (nf : PySem.W.findIn K (.ref C) fld = some none) (q : ∀ (d : Addr) (H' : Hp), Same H H' → H' d = some (.xd (fldFs fld wd x)) → E (.ref C) (some d) H') :
    [x].length ≤ 1000 ∧ ∀ a, H a = none → spErrInit1 K wd fld (.ref a :: ([x] ++ [])) (upd H a (exo a C none)) (fun v H2 => v = .non ∧ ∃ (d : Addr) (fs : List (Str × V)), H2 a = some (exo a C (some d)) ∧ H2 d = some (exd d fs) ∧ H d = none ∧ E (.ref C) (some d) (upd (del H2 a) d (.xd fs))) (fun _ _ _ => False) := by
  refine ⟨by show 1 ≤ 1000; decide, fun a ea => ?_⟩
  refine ⟨a, C, x, rfl, T.oex, T.nw, nf, upd_same, fun dx H6 ed nd hx hd hk => ?_⟩
  have ed2 : H dx = none := by
    rw [upd_ne nd] at ed
    exact ed
  refine ⟨rfl, dx, _, hx, hd, ed2, q dx _ (fun c o e2 => ?_) upd_same⟩
  have n1 : c ≠ a := ne_of_none e2 ea
  have n2 : c ≠ dx := ne_of_none e2 ed2
  rw [upd_ne n2, del_ne n1, hk c n1 n2, upd_ne n1]
  exact e2
/-! ### errors over other built-in errors -/
structure ErrB (K : PySem.W.Frag) (mg : Str → Option Value) (x : Str) (C f CB : Addr) (cs : List Value) (B nw ini : String) (tl : List Value) : Prop where
  g : mg x = some (.ref C)
  oex : OexB K C B nw ini tl
  iC : PySem.W.findIn K (.ref C) "__init__" = some (some (.ref f))
  tI : PySem.W.typeIn K (.ref f) = some (.type "function")
  nw : PySem.W.findIn K (.ref C) "word" = some none
  xf : XfC K C
  t0 : PySem.W.exmOne K (.ref C) (.ref CB) = some false
  te : PySem.W.exmAny K (.ref C) cs = some true
def spErrInitB1 (K : PySem.W.Frag) (B nw ini : String) (tl : List Value) (wd fld : Str) : Sp := fun vs H Q _ => ∃ (a C : Addr) (x : V), vs = [.ref a, x] ∧ OexB K C B nw ini tl ∧ PySem.W.findIn K (.ref C) "word" = some none ∧ PySem.W.findIn K (.ref C) fld = some none ∧ H a = some (exo a C none) ∧
  ∀ (dx : Addr) (H' : Hp), H dx = none → dx ≠ a → H' a = some (exo a C (some dx)) → H' dx = some (exd dx (fldFs fld wd x)) → (∀ b, b ≠ a → b ≠ dx → H' b = H b) → Q .non H'
def spErrInitB0 (K : PySem.W.Frag) (B nw ini : String) (tl : List Value) (wd : Str) : Sp := fun vs H Q _ => ∃ (a C : Addr), vs = [.ref a] ∧ OexB K C B nw ini tl ∧ PySem.W.findIn K (.ref C) "word" = some none ∧ H a = some (exo a C none) ∧
  ∀ (dx : Addr) (H' : Hp), H dx = none → dx ≠ a → H' a = some (exo a C (some dx)) → H' dx = some (exd dx (wordFs wd)) → (∀ b, b ≠ a → b ≠ dx → H' b = H b) → Q .non H'
section
variable {K : PySem.W.Frag} {mg : Str → Option Value} {y wd fld : Str} {C f CB d : Addr} {cs : List Value} {B nw ini : String} {tl : List Value} {H : Hp} {E : XK} {x v : V} {σ : L2.St}
theorem ErrB.at1 (T : ErrB K mg y C f CB cs B nw ini tl) (hn : (("word" : Str) == fld) = false) (h : H d = some (.xd (fldFs fld wd v))) : ErrAtW K CB cs (.ref C) (some d) H (.str wd) := ⟨C, d, _, rfl, rfl, .inr ⟨T.t0, T.te⟩, T.xf, T.nw, h, by
  unfold fldFs
  rw [List.lookup_cons, hn]
  rfl⟩
theorem ErrB.at (T : ErrB K mg y C f CB cs B nw ini tl) (h : H d = some (.xd (wordFs wd))) : ErrAtW K CB cs (.ref C) (some d) H (.str wd) := ⟨C, d, _, rfl, rfl, .inr ⟨T.t0, T.te⟩, T.xf, T.nw, h, rfl⟩
theorem mk_doneB1 (T : ErrB K mg y C f CB cs B nw ini tl) (nf : PySem.W.findIn K (.ref C) fld = some none) (q : ∀ (d : Addr) (H' : Hp), Same H H' → H' d = some (.xd (fldFs fld wd x)) → E (.ref C) (some d) H') :
    [x].length ≤ 1000 ∧ ∀ a, H a = none → spErrInitB1 K B nw ini tl wd fld (.ref a :: ([x] ++ [])) (upd H a (exo a C none)) (fun v H2 => v = .non ∧ ∃ (d : Addr) (fs : List (Str × V)), H2 a = some (exo a C (some d)) ∧ H2 d = some (exd d fs) ∧ H d = none ∧ E (.ref C) (some d) (upd (del H2 a) d (.xd fs))) (fun _ _ _ => False) := by
  refine ⟨by show 1 ≤ 1000; decide, fun a ea => ?_⟩
  refine ⟨a, C, x, rfl, T.oex, T.nw, nf, upd_same, fun dx H6 ed nd hx hd hk => ?_⟩
  have ed2 : H dx = none := by
    rw [upd_ne nd] at ed
    exact ed
  refine ⟨rfl, dx, _, hx, hd, ed2, q dx _ (fun c o e2 => ?_) upd_same⟩
  have n1 : c ≠ a := ne_of_none e2 ea
  have n2 : c ≠ dx := ne_of_none e2 ed2
  rw [upd_ne n2, del_ne n1, hk c n1 n2, upd_ne n1]
  exact e2
theorem raise_doneB (T : ErrB K mg y C f CB cs B nw ini tl) (q : ∀ (d : Addr) (H' : Hp), Same H H' → H' d = some (.xd (wordFs wd)) → E (.ref C) (some d) H') : tMkO C (spErrInitB0 K B nw ini tl wd) [] tNil σ H E := by
  refine ⟨by show 0 ≤ 1000; decide, fun a ea => ?_⟩
  refine ⟨a, C, rfl, T.oex, T.nw, upd_same, fun dx H6 ed nd hx hd hk => ?_⟩
  have ed2 : H dx = none := by
    rw [upd_ne nd] at ed
    exact ed
  refine ⟨rfl, dx, _, hx, hd, ed2, q dx _ (fun c o e2 => ?_) upd_same⟩
  have n1 : c ≠ a := ne_of_none e2 ea
  have n2 : c ≠ dx := ne_of_none e2 ed2
  rw [upd_ne n2, del_ne n1, hk c n1 n2, upd_ne n1]
  exact e2
end
/-! ### methods that may raise -/
structure MetX (P : Program) (w : World) (K : PySem.W.Frag) (mg : Str → Option Value) (base : Heap) (k : Nat) (C : Addr) (m : Str) (ps : List Str) (sp : Sp) : Prop where
  ex : ∃ (f : Addr) (fd : FuncData), Cls K C ∧ Meth K C m f ∧ FnOk P w K mg base (L2.CX P w) k f fd ps sp ∧ Binds K fd ps []
theorem pe_mtX {X : Cx} {C : Addr} {m : Str} {ps : List Str} {sp : Sp} {k : Nat} {o e : Expr} {es : List Expr} {pos apos : Pos} {t : TA} {ta : TE} {E : XK} {pl : Sem Bool} (M : MetX X.prog X.w X.K X.mg X.base k C m ps sp) (hr : Room k X.A) (hx : Passes (L2.CX X.prog X.w) X E) (ho : PE X o ta) (ha : PA X (e :: es) t) (hst : starEach (e :: es) X.env = (false, eval e X.env) :: starEach es X.env := by rfl)
    (hpl : (backTo pos (starEach es X.env)).any (·.1) = false := by rfl)
    (ht : eval (.Call (.Attribute o m apos) (e :: es) [] pos) X.env = (do
      let ov ← eval o X.env
      standAt apos.atName
      let (f, first) ← holding [ov] (getMethod ov m pl)
      callWith pos f first (backTo pos (starEach (e :: es) X.env)) (backToKw pos (keywordEach [] X.env))) := by rfl) : PE X (.Call (.Attribute o m apos) (e :: es) [] pos) (tMeth C m sp [] E ta t) := by
  obtain ⟨f, fd, c, hm, F, hb⟩ := M.ex
  exact pe_meth (pl := pl) ho c hm F hr hb .nil hx ha hst hpl ht
end Bw
set_option Elab.async false
set_option linter.all false
set_option maxRecDepth 100000
set_option maxHeartbeats 4000000
namespace Bw
open PySem PySem.Spec PyProof.Rows L2 LamX
/-! ### _law_word(lambda: ..), refusals of all kinds, the tables of several defs -/
theorem pe_wordW {X : Cx} {T : List (Addr × Str)} {st : Stmt} {g CB c P : Addr} {cs : List Value} {fd : FuncData} {k : Nat} {params : Arguments} {body : Expr} {scope : Scope} {t : XK → TE} {p lpos pos : Pos}
    (F : Fun X.K "_law_word" "_law_word" st g fd) (gg : X.mg "_law_word" = some (.ref g)) (bb : L2.Binds X.K fd ["_law_asked"] []) (Sg : FnScope ["_law_asked", "e"] ["_law_asked"] (defScope st)) (hva : Vis (defScope st) "_law_asked") (hG : ∀ cdv, GivesTo X ["_law_asked", "e"] "_law_word" (defScope st) g cdv (defBody st) "_law_asked" (X.env.qual ++ "<lambda>") (TWordW X.K CB cs))
    (TB : TabB X.base X.mg c P) (hcode : X.env.code = .ref c) (hmT : (P, X.env.qual ++ "<lambda>") ∈ T) (hu : ∀ p ∈ T, p.1 = P → p.2 = X.env.qual ++ "<lambda>") (hr : Room (k + 2) X.A) (hg : Gl X "_law_word") (L : LamS X.env.scope scope)
    (hbody : ∀ (A : Around) (outer : List Env) (s : Shared) (H : Hp) (E : XK) (f c' : Addr), Room k (A.deeper (lamEnv X scope s.heap.objs.size f c')) → PE (lamCx X A outer s H E scope f c') body (t E)) (hdef : defaultsOf params X.env = ([], []))
    (hbind : ∀ (q : Str) (cl : List (Str × Addr)) (pm cv ctv : Value), bindArgs (PySem.W.kla_fn "<lambda>" q params body scope cl pm cv ctv) ⟨[], []⟩ = pure []) :
    PE X (.Call (.Name "_law_word" p) [.Lambda params body scope lpos] [] pos) (tLam T (TWordW X.K CB cs) t) := by
  obtain ⟨oc, od, kV, doc, pm, an, cdv, ct, osl, rfl, lk, hcd⟩ := F.ex
  exact pe_lamcall hg gg F.kp lk hcd bb Sg rfl hva (hG cdv) TB hcode hmT hu hr L hdef hbind hbody
def qL (x : Str) : Str := (x ++ (".<locals>." : Str)) ++ ("<lambda>" : Str)
theorem FeedAt.neO {H : Hp} {f l b : Addr} {o : HO} (h : FeedAt H f l) (e : H b = some o) (n : ∀ xs, o ≠ .lst xs) : b ≠ f := by
  obtain ⟨_, _, _, _, _, _, b', _⟩ := h
  intro z
  subst z
  rw [e] at b'
  exact n _ (Option.some.inj b')
theorem FeedAt.ext {H H' : Hp} {f l : Addr} (s : ExtN H H') (h : FeedAt H f l) : FeedAt H' f l := by
  obtain ⟨ns, i, n, m, c, a, b, d, r⟩ := h
  exact ⟨ns, i, n, m, c, a, s _ _ b (fun ps z => by cases z), s _ _ d (fun ps z => by cases z), r⟩
/-- the tables stay where only what is no table and no code changes -/
theorem Tabs.butO {T : List (Addr × Str)} {H H' : Hp} {a : Addr} {o : HO} (s : SameBut a H H') (e : H a = some o) (n1 : ∀ ps, o ≠ .tbl ps) (n2 : ∀ c q, o ≠ CodeO c q) (t : Tabs T H) : Tabs T H' := fun p hp => by
  obtain ⟨ps, h1, h2, h3⟩ := t p hp
  refine ⟨ps, s _ _ (fun z => by rw [z, e] at h1; exact n1 _ (Option.some.inj h1)) h1, h2, fun pos cv hc => ?_⟩
  obtain ⟨c, e1, e2⟩ := h3 pos cv hc
  exact ⟨c, e1, s _ _ (fun z => by rw [z, e] at e2; exact n2 _ _ (Option.some.inj e2)) e2⟩
theorem Tabs.put {T : List (Addr × Str)} {H : Hp} {a : Addr} {xs : List V} {o : HO} (t : Tabs T H) (e : H a = some (.lst xs)) : Tabs T (upd H a o) := Tabs.butO (SameBut.upd (SameBut.refl _ _)) e (fun ps z => by cases z) (fun c q z => by cases z) t
theorem Tabs.but {T : List (Addr × Str)} {H H' : Hp} {f l : Addr} (s : SameBut f H H') (hf : FeedAt H f l) (h : Tabs T H) : Tabs T H' := by
  obtain ⟨_, _, _, _, _, _, b', _⟩ := hf
  exact Tabs.butO s b' (fun ps z => by cases z) (fun c q z => by cases z) h
end Bw
set_option Elab.async false
set_option linter.all false
set_option maxRecDepth 100000
set_option maxHeartbeats 4000000
namespace Bw
open PySem PySem.Spec PyProof.Rows L2
/-! ### zip of any number of lists and tuples -/
structure Zs where
  i : Addr
  l : Addr
  tup : Bool
def Zs.it : Zs → Nat → Heap → Prop
  | ⟨i, l, true⟩, k, h => h.IsTupleIter i l k
  | ⟨i, l, false⟩, k, h => h.IsListIter i l k
def Zs.sq : Zs → Array Value → Heap → Prop
  | ⟨_, l, true⟩, xs, h => h.IsTuple l xs
  | ⟨_, l, false⟩, xs, h => h.IsList l xs
theorem Zs.src {P : Program} {w : World} : ∀ S : Zs, Src P w S.i S.l S.it S.sq
  | ⟨_, _, true⟩ => src_tup
  | ⟨_, _, false⟩ => src_list
theorem Zs.keepI : ∀ {S : Zs} {k : Nat} {h h' : Heap}, S.it k h → (∀ o, h.get? S.i = some o → h'.get? S.i = some o) → S.it k h'
  | ⟨_, _, true⟩, _, _, _, ⟨o, e, z⟩, kp => ⟨o, kp o e, z⟩
  | ⟨_, _, false⟩, _, _, _, ⟨o, e, z⟩, kp => ⟨o, kp o e, z⟩
theorem Zs.keepQ : ∀ {S : Zs} {xs : Array Value} {h h' : Heap}, S.sq xs h → (∀ o, h.get? S.l = some o → h'.get? S.l = some o) → S.sq xs h'
  | ⟨_, _, true⟩, _, _, _, ⟨o, e, z⟩, kp => ⟨o, kp o e, z⟩
  | ⟨_, _, false⟩, _, _, _, ⟨o, e, z⟩, kp => ⟨o, kp o e, z⟩
abbrev ZipSt (h : Heap) (z TI TO : Addr) (f0 f1 : Value) : Prop := h.get? z = some { cls := .type "zip", dict := none, data := .fields #[f0, f1, .bool false, .ref TI, .ref TO], slots := #[] }
abbrev SeqT (h : Heap) (T : Addr) (vs : Array Value) : Prop := h.get? T = some { cls := .type "tuple", data := .seq vs }
structure ZApart (z TI TO : Addr) (Ss : List Zs) : Prop where
  TIz : TI ≠ z
  TOz : TO ≠ z
  TITO : TI ≠ TO
  iz : ∀ S ∈ Ss, S.i ≠ z
  iTI : ∀ S ∈ Ss, S.i ≠ TI
  iTO : ∀ S ∈ Ss, S.i ≠ TO
  lz : ∀ S ∈ Ss, S.l ≠ z
  lTO : ∀ S ∈ Ss, S.l ≠ TO
  li : ∀ S ∈ Ss, ∀ S' ∈ Ss, S.l ≠ S'.i
  nd : (Ss.map (·.i)).Nodup
def itsOf (Ss : List Zs) : List Value := Ss.map fun S => .ref S.i
section
variable {P : Program} {w : World} {A : Around} {E : Value → Shared → Prop} {s : Shared} {z TI TO : Addr} {Ss : List Zs} {k : Nat}
/-- what the sources stand at: the first j of them one further -/
def At (Ss : List Zs) (k j : Nat) (h : Heap) : Prop := ∀ (n : Nat) (S : Zs), Ss[n]? = some S → S.it (if n < j then k + 1 else k) h
def Sqs (Ss : List Zs) (X : List (Array Value)) (h : Heap) : Prop := X.length = Ss.length ∧ ∀ (n : Nat) (S : Zs), Ss[n]? = some S → ∃ xs, X[n]? = some xs ∧ S.sq xs h
theorem Sqs.keep {h h' : Heap} {X : List (Array Value)} (q : Sqs Ss X h) (k : ∀ S ∈ Ss, ∀ o, h.get? S.l = some o → h'.get? S.l = some o) : Sqs Ss X h' := ⟨q.1, fun n S e => by
  obtain ⟨xs, e1, e2⟩ := q.2 n S e
  exact ⟨xs, e1, Zs.keepQ e2 (k S (List.mem_of_getElem? e))⟩⟩
theorem At.keep {h h' : Heap} {j : Nat} (q : At Ss k j h) (kp : ∀ S ∈ Ss, ∀ o, h.get? S.i = some o → h'.get? S.i = some o) : At Ss k j h' := fun n S e => Zs.keepI (q n S e) (kp S (List.mem_of_getElem? e))
theorem At.next {h h' : Heap} {j : Nat} {S : Zs} (q : At Ss k j h) (nd : (Ss.map (·.i)).Nodup) (e : Ss[j]? = some S) (u : S.it (k + 1) h') (kp : ∀ S' ∈ Ss, S'.i ≠ S.i → ∀ o, h.get? S'.i = some o → h'.get? S'.i = some o) : At Ss k (j + 1) h' := fun n S' e' => by
  by_cases c : n = j
  · subst c
    cases (Option.some.inj (e.symm.trans e'))
    rw [if_pos (Nat.lt_succ_self _)]
    exact u
  · have ne : S'.i ≠ S.i := fun z => c (by
      have a1 : (Ss.map (·.i))[n]? = some S'.i := by rw [List.getElem?_map, e']; rfl
      have a2 : (Ss.map (·.i))[j]? = some S.i := by rw [List.getElem?_map, e]; rfl
      rw [z] at a1
      exact (List.getElem?_inj (List.getElem?_eq_some_iff.mp a1).1 nd).mp (a1.trans a2.symm))
    have g := Zs.keepI (q n S' e') (kp S' (List.mem_of_getElem? e') ne)
    have ce : (if n < j + 1 then k + 1 else k) = (if n < j then k + 1 else k) := by split <;> split <;> omega
    rw [ce]
    exact g
theorem zipIdx_drop (l : List Value) (j : Nat) (h : j < l.length) : l.zipIdx.drop j = (l[j], j) :: l.zipIdx.drop (j + 1) := by
  have hl : j < l.zipIdx.length := by rw [List.length_zipIdx]; exact h
  rw [List.drop_eq_getElem_cons hl, List.getElem_zipIdx]
  simp
theorem itsOf_len (Ss : List Zs) : (itsOf Ss).length = Ss.length := List.length_map ..
theorem zip_itemA {f0 f1 : Value} {arr : Array Value} {X : List (Array Value)} {vs : List Value} {Q : Value → Shared → Prop} (D : ZApart z TI TO Ss) (hz : ZipSt s.heap z TI TO f0 f1) (free : ∀ Q : Bool → Shared → Prop, Q true s → wpAny (model P w) A (Builtin.SmallTypes.ownedTupleIsFree (.ref z)) Q E s) (h0 : Ss ≠ [])
    (hTI : SeqT s.heap TI (itsOf Ss).toArray) (hTO : SeqT s.heap TO arr) (hA : arr.size = Ss.length) (hI : At Ss k 0 s.heap) (hX : Sqs Ss X s.heap) (hv : vs.length = Ss.length) (hx : ∀ (n : Nat) (xs : Array Value), X[n]? = some xs → xs[k]? = vs[n]?) (few : Ss.length ≤ sizeLine)
    (hQ : ∀ h', ZipSt h' z TI TO (rawInt s.heap.objs.size) (.bool false) → SeqT h' TO vs.toArray → At Ss k Ss.length h' → SeqT h' s.heap.objs.size vs.toArray →
      (∀ c o, c ≠ z → c ≠ TO → (∀ S ∈ Ss, c ≠ S.i) → s.heap.get? c = some o → h'.get? c = some o) → Q (.ref s.heap.objs.size) { s with heap := h' }) :
    wpAny (model P w) A (Builtin.«zip.__next__» ⟨[.ref z], []⟩) (fun fin s' => ∃ v, fin = .done (.ret v) ∧ Q v s') E s := by
  show wpAny _ _ (field (Value.ref z) 2 >>= _) _ _ _
  refine wpAny_bind (wpAny_field hz rfl (x := .bool false) rfl ?_)
  show wpAny _ _ (field (Value.ref z) 3 >>= _) _ _ _
  refine wpAny_bind (wpAny_field hz rfl (x := .ref TI) rfl ?_)
  refine wpAny_bind (wpAny_seqItems hTI rfl ?_)
  have ne : (itsOf Ss).toArray.isEmpty = false := by
    cases Ss with
    | nil => exact absurd rfl h0
    | cons a r => rfl
  simp only [ne, Bool.false_eq_true, if_false]
  refine wpAny_bind (free _ ?_)
  simp only [if_true]
  refine wpAny_bind (wpAny_rule ?_)
  refine wpAny_bind (wpAny_field hz rfl (x := .ref TO) rfl ?_)
  refine wpAny_bind (wpAny_setField_rec hz (by simp) fun g1 z1 b1 => ?_)
  replace z1 : ZipSt g1 z TI TO .ellipsis f1 := z1
  have li : (itsOf Ss).length = Ss.length := itsOf_len Ss
  refine wpAny_bind (wpAny_forIn_list _ (fun rest b s' => b = (none, ()) ∧ ∃ (j : Nat) (h' : Heap) (ar : Array Value), rest = (itsOf Ss).zipIdx.drop j ∧ j ≤ Ss.length ∧ s' = { s with heap := h' } ∧ ZipSt h' z TI TO .ellipsis f1 ∧ SeqT h' TO ar ∧ ar.size = Ss.length ∧ (∀ n, n < j → ar[n]? = vs[n]?) ∧ At Ss k j h' ∧ Sqs Ss X h' ∧ h'.objs.size = s.heap.objs.size ∧ (∀ c o, c ≠ z → c ≠ TO → (∀ S ∈ Ss, c ≠ S.i) → s.heap.get? c = some o → h'.get? c = some o)) _ ?_ ?_ _ _ ?_)
  · rintro ⟨it, n0⟩ rest b s' ⟨rfl, j, g, ar, er, jl, rfl, gz, gT, ga, gv, gA, gX, gs, gk⟩
    have jlt : j < Ss.length := by
      rcases Nat.lt_or_ge j Ss.length with h | h
      · exact h
      · rw [List.drop_of_length_le (by rw [List.length_zipIdx, li]; exact h)] at er
        cases er
    rw [zipIdx_drop _ j (by rw [li]; exact jlt)] at er
    injection er with e1 e2
    injection e1 with e3 e4
    subst e3 e4 e2
    have eS : Ss[n0]? = some Ss[n0] := List.getElem?_eq_getElem jlt
    have ei : (itsOf Ss)[n0]'(by rw [li]; exact jlt) = .ref Ss[n0].i := by unfold itsOf; rw [List.getElem_map]
    rw [ei]
    generalize Ss[n0] = S at eS
    have hS := List.mem_of_getElem? eS
    obtain ⟨xs, ex, sx⟩ := gX.2 _ _ eS
    have hvl : n0 < vs.length := by omega
    have hxk : xs[k]? = some vs[n0] := (hx _ _ ex).trans (List.getElem?_eq_getElem hvl)
    generalize hvn : vs[n0] = v at hxk
    have evn : vs[n0]? = some v := by rw [List.getElem?_eq_getElem hvl, hvn]
    have it0 := gA _ _ eS
    rw [if_neg (Nat.lt_irrefl _)] at it0
    refine wpAny_bind (wpAny_onRaise ?_)
    show wpAny _ _ (Builtin.SmallTypes.nextOf (Value.ref S.i) >>= _) _ _ _
    refine wpAny_bind ((Zs.src (P := P) (w := w) S).item _ _ _ k xs v _ it0 sx hxk fun g2 u2 b2 => wpAny_pure ?_)
    have p2 : SeqT g2 TO ar := b2.extBut _ _ (D.iTO S hS).symm gT
    refine wpAny_bind (wpAny_seqItems p2 rfl ?_)
    refine wpAny_bind (wpAny_updateSeq p2 rfl ?_ (by rw [ga]; exact few) (by rw [Array.size_setIfInBounds, ga]; exact Nat.le_succ_of_le few))
    have b3 : Heap.SameBut TO g2 (g2.update TO (Obj.mapSeq fun x => x.setIfInBounds n0 v)) := Heap.SameBut.update ..
    have p3 : SeqT (g2.update TO (Obj.mapSeq fun x => x.setIfInBounds n0 v)) TO (ar.setIfInBounds n0 v) := by
      show (g2.update TO (Obj.mapSeq fun x => x.setIfInBounds n0 v)).get? TO = _
      rw [Heap.get?_update_self (Obj.mapSeq fun x => x.setIfInBounds n0 v) p2 rfl]
      simp [Obj.mapSeq]
    generalize g2.update TO (Obj.mapSeq fun x => x.setIfInBounds n0 v) = g3 at b3 p3
    refine wpAny_bind (wpAny_letGo (wpAny_pure ?_))
    have k3 : ∀ c o, c ≠ TO → c ≠ S.i → g.get? c = some o → g3.get? c = some o := fun c o c1 c2 e => b3.extBut _ _ c1 (b2.extBut _ _ c2 e)
    refine ⟨rfl, n0 + 1, g3, _, rfl, jlt, rfl, k3 _ _ D.TOz.symm (D.iz S hS).symm gz, p3, by rw [Array.size_setIfInBounds, ga], fun n hn => ?_, ?_, ?_, by rw [b3.1, b2.1, gs], fun c o c1 c2 c3 e => k3 c o c2 (c3 S hS) (gk c o c1 c2 c3 e)⟩
    · by_cases c : n = n0
      · subst c
        rw [Array.getElem?_setIfInBounds_self_of_lt (by rw [ga]; exact jlt), evn]
      · rw [Array.getElem?_setIfInBounds_ne (fun z => c z.symm)]
        exact gv n (by omega)
    · have u3 : S.it (k + 1) g3 := Zs.keepI u2 fun o e => b3.extBut _ _ (D.iTO S hS) e
      exact gA.next D.nd eS u3 fun S' hS' ne o e => k3 _ _ (D.iTO S' hS') ne e
    · exact gX.keep fun S' hS' o e => k3 _ _ (D.lTO S' hS') (D.li S' hS' S hS) e
  · rintro b s' ⟨rfl, j, g, ar, er, jl, rfl, gz, gT, ga, gv, gA, gX, gs, gk⟩
    have ej : j = Ss.length := by
      have h := congrArg List.length er
      rw [List.length_drop, List.length_zipIdx, li] at h
      have h0 : ([] : List (Value × Nat)).length = 0 := rfl
      omega
    subst ej
    have ear : ar = vs.toArray := by
      apply Array.ext_getElem?
      intro n
      by_cases c : n < Ss.length
      · rw [gv n c]
        simp
      · rw [Array.getElem?_eq_none (by rw [ga]; omega)]
        simp
        omega
    subst ear
    refine wpAny_bind (wpAny_seqItems gT rfl ?_)
    refine wpAny_bind (wpAny_newTuple ?_ (by show vs.toArray.toList.length ≤ sizeLine; rw [List.toList_toArray, hv]; exact few))
    show wpAny _ _ (Builtin.SmallTypes.ownedTupleHandOut (Value.ref z) (.ref g.objs.size) >>= _) _ _ _
    refine wpAny_bind ?_
    unfold Builtin.SmallTypes.ownedTupleHandOut
    have zl : z < g.objs.size := Heap.lt_size gz
    have z6 : ZipSt (g.push { cls := .type "tuple", data := .seq vs.toArray.toList.toArray }) z TI TO .ellipsis f1 := Heap.get?_push_of_some _ gz
    refine wpAny_bind (wpAny_setField_rec z6 (by simp) fun g7 z7 b7 => ?_)
    replace z7 : ZipSt g7 z TI TO (rawInt g.objs.size) f1 := z7
    refine wpAny_setField_rec z7 (by simp) fun g8 z8 b8 => ?_
    replace z8 : ZipSt g8 z TI TO (rawInt g.objs.size) (.bool false) := z8
    have up : ∀ c o, c ≠ z → g.get? c = some o → g8.get? c = some o := fun c o c1 e => b8.extBut _ _ c1 (b7.extBut _ _ c1 (Heap.get?_push_of_some _ e))
    have p8 : SeqT g8 g.objs.size vs.toArray := b8.extBut _ _ (Nat.ne_of_gt zl) (b7.extBut _ _ (Nat.ne_of_gt zl) (Heap.get?_push_size _ rfl))
    rw [gs] at z8 p8
    refine wpAny_pure ⟨_, rfl, ?_⟩
    show Q (.ref g.objs.size) _
    rw [gs]
    exact hQ g8 z8 (up _ _ D.TOz gT) (gA.keep fun S' hS' o e => up _ _ (D.iz S' hS') e) p8 fun c o c1 c2 c3 e => up c o c1 (gk c o c1 c2 c3 e)
  · exact ⟨rfl, 0, g1, arr, rfl, Nat.zero_le _, rfl, z1, b1.extBut _ _ D.TOz hTO, hA, fun n hn => absurd hn (Nat.not_lt_zero _), hI.keep fun S' hS' o e => b1.extBut _ _ (D.iz S' hS') e, hX.keep fun S' hS' o e => b1.extBut _ _ (D.lz S' hS') e, b1.1, fun c o c1 _ _ e => b1.extBut _ _ c1 e⟩
theorem zip_endA {f0 f1 : Value} {arr : Array Value} {X : List (Array Value)} {Q : PySem.Fin → Shared → Prop} (hh : A.handled = none) (D : ZApart z TI TO Ss) (hz : ZipSt s.heap z TI TO f0 f1) (free : ∀ (E' : Value → Shared → Prop) (Q : Bool → Shared → Prop), Q true s → wpAny (model P w) A (Builtin.SmallTypes.ownedTupleIsFree (.ref z)) Q E' s) (h0 : Ss ≠ [])
    (hTI : SeqT s.heap TI (itsOf Ss).toArray) (hTO : SeqT s.heap TO arr) (hA : arr.size = Ss.length) (hI : At Ss k 0 s.heap) (hX : Sqs Ss X s.heap) (hx : ∃ xs ∈ X, xs[k]? = none) (few : Ss.length ≤ sizeLine)
    (hE : ∀ h' e, (∀ c o, c ≠ z → c ≠ TO → (∀ S ∈ Ss, c ≠ S.i) → s.heap.get? c = some o → h'.get? c = some o) → (∃ o, h'.get? e = some o ∧ o.cls = .type "StopIteration") → E (.ref e) { s with heap := h' }) :
    wpAny (model P w) A (Builtin.«zip.__next__» ⟨[.ref z], []⟩) Q E s := by
  show wpAny _ _ (field (Value.ref z) 2 >>= _) _ _ _
  refine wpAny_bind (wpAny_field hz rfl (x := .bool false) rfl ?_)
  show wpAny _ _ (field (Value.ref z) 3 >>= _) _ _ _
  refine wpAny_bind (wpAny_field hz rfl (x := .ref TI) rfl ?_)
  refine wpAny_bind (wpAny_seqItems hTI rfl ?_)
  have ne : (itsOf Ss).toArray.isEmpty = false := by
    cases Ss with
    | nil => exact absurd rfl h0
    | cons a r => rfl
  simp only [ne, Bool.false_eq_true, if_false]
  refine wpAny_bind (free _ _ ?_)
  simp only [if_true]
  refine wpAny_bind (wpAny_rule ?_)
  refine wpAny_bind (wpAny_field hz rfl (x := .ref TO) rfl ?_)
  refine wpAny_bind (wpAny_setField_rec hz (by simp) fun g1 z1 b1 => ?_)
  replace z1 : ZipSt g1 z TI TO .ellipsis f1 := z1
  have li : (itsOf Ss).length = Ss.length := itsOf_len Ss
  refine wpAny_bind (wpAny_forIn_list _ (fun rest b s' => b = (none, ()) ∧ ∃ (j : Nat) (h' : Heap) (ar : Array Value), rest = (itsOf Ss).zipIdx.drop j ∧ j ≤ Ss.length ∧ s' = { s with heap := h' } ∧ ZipSt h' z TI TO .ellipsis f1 ∧ SeqT h' TO ar ∧ ar.size = Ss.length ∧ (∀ n xs, n < j → X[n]? = some xs → xs[k]? ≠ none) ∧ At Ss k j h' ∧ Sqs Ss X h' ∧ (∀ c o, c ≠ z → c ≠ TO → (∀ S ∈ Ss, c ≠ S.i) → s.heap.get? c = some o → h'.get? c = some o)) _ ?_ ?_ _ _ ?_)
  · rintro ⟨it, n0⟩ rest b s' ⟨rfl, j, g, ar, er, jl, rfl, gz, gT, ga, gv, gA, gX, gk⟩
    have jlt : j < Ss.length := by
      rcases Nat.lt_or_ge j Ss.length with h | h
      · exact h
      · rw [List.drop_of_length_le (by rw [List.length_zipIdx, li]; exact h)] at er
        cases er
    rw [zipIdx_drop _ j (by rw [li]; exact jlt)] at er
    injection er with e1 e2
    injection e1 with e3 e4
    subst e3 e4 e2
    have eS : Ss[n0]? = some Ss[n0] := List.getElem?_eq_getElem jlt
    have ei : (itsOf Ss)[n0]'(by rw [li]; exact jlt) = .ref Ss[n0].i := by unfold itsOf; rw [List.getElem_map]
    rw [ei]
    generalize Ss[n0] = S at eS
    have hS := List.mem_of_getElem? eS
    obtain ⟨xs, ex, sx⟩ := gX.2 _ _ eS
    have it0 := gA _ _ eS
    rw [if_neg (Nat.lt_irrefl _)] at it0
    refine wpAny_bind (wpAny_onRaise ?_)
    show wpAny _ _ (Builtin.SmallTypes.nextOf (Value.ref S.i) >>= _) _ _ _
    cases hxk : xs[k]? with
    | none =>
      refine wpAny_bind ((Zs.src (P := P) (w := w) S).fin _ _ _ k xs _ hh it0 sx hxk fun g2 e b2 he => ?_)
      obtain ⟨oe, hoe, hce⟩ := he
      have z2 : ZipSt g2 z TI TO .ellipsis f1 := b2 _ _ (D.iz S hS).symm gz
      have ez : e ≠ z := fun q => by
        subst q
        rw [z2] at hoe
        cases hoe
        simp at hce
      exact wpAny_setField_rec z2 (by simp) fun g3 _ b3 => hE g3 e (fun c o c1 c2 c3 q => b3.extBut _ _ c1 (b2 _ _ (c3 S hS) (gk c o c1 c2 c3 q))) ⟨oe, b3.extBut _ _ ez hoe, hce⟩
    | some v =>
      refine wpAny_bind ((Zs.src (P := P) (w := w) S).item _ _ _ k xs v _ it0 sx hxk fun g2 u2 b2 => wpAny_pure ?_)
      have p2 : SeqT g2 TO ar := b2.extBut _ _ (D.iTO S hS).symm gT
      refine wpAny_bind (wpAny_seqItems p2 rfl ?_)
      refine wpAny_bind (wpAny_updateSeq p2 rfl ?_ (by rw [ga]; exact few) (by rw [Array.size_setIfInBounds, ga]; exact Nat.le_succ_of_le few))
      have b3 : Heap.SameBut TO g2 (g2.update TO (Obj.mapSeq fun x => x.setIfInBounds n0 v)) := Heap.SameBut.update ..
      have p3 : SeqT (g2.update TO (Obj.mapSeq fun x => x.setIfInBounds n0 v)) TO (ar.setIfInBounds n0 v) := by
        show (g2.update TO (Obj.mapSeq fun x => x.setIfInBounds n0 v)).get? TO = _
        rw [Heap.get?_update_self (Obj.mapSeq fun x => x.setIfInBounds n0 v) p2 rfl]
        simp [Obj.mapSeq]
      generalize g2.update TO (Obj.mapSeq fun x => x.setIfInBounds n0 v) = g3 at b3 p3
      refine wpAny_bind (wpAny_letGo (wpAny_pure ?_))
      have k3 : ∀ c o, c ≠ TO → c ≠ S.i → g.get? c = some o → g3.get? c = some o := fun c o c1 c2 e => b3.extBut _ _ c1 (b2.extBut _ _ c2 e)
      refine ⟨rfl, n0 + 1, g3, _, rfl, jlt, rfl, k3 _ _ D.TOz.symm (D.iz S hS).symm gz, p3, by rw [Array.size_setIfInBounds, ga], fun n xs' hn e => ?_, ?_, ?_, fun c o c1 c2 c3 e => k3 c o c2 (c3 S hS) (gk c o c1 c2 c3 e)⟩
      · by_cases c : n = n0
        · subst c
          cases (Option.some.inj (ex.symm.trans e))
          rw [hxk]
          exact fun z => nomatch z
        · exact gv n xs' (by omega) e
      · exact gA.next D.nd eS (Zs.keepI u2 fun o e => b3.extBut _ _ (D.iTO S hS) e) fun S' hS' ne o e => k3 _ _ (D.iTO S' hS') ne e
      · exact gX.keep fun S' hS' o e => k3 _ _ (D.lTO S' hS') (D.li S' hS' S hS) e
  · rintro b s' ⟨rfl, j, g, ar, er, jl, rfl, gz, gT, ga, gv, gA, gX, gk⟩
    exfalso
    have ej : j = Ss.length := by
      have h := congrArg List.length er
      rw [List.length_drop, List.length_zipIdx, li] at h
      have h0 : ([] : List (Value × Nat)).length = 0 := rfl
      omega
    obtain ⟨xs, hm, hn⟩ := hx
    obtain ⟨n, en⟩ := List.getElem?_of_mem hm
    have hl := (List.getElem?_eq_some_iff.mp en).1
    rw [gX.1] at hl
    exact gv n xs (by omega) en hn
  · exact ⟨rfl, 0, g1, arr, rfl, Nat.zero_le _, rfl, z1, b1.extBut _ _ D.TOz hTO, hA, fun n _ hn => absurd hn (Nat.not_lt_zero _), hI.keep fun S' hS' o e => b1.extBut _ _ (D.iz S' hS') e, hX.keep fun S' hS' o e => b1.extBut _ _ (D.lz S' hS') e, fun c o c1 _ _ e => b1.extBut _ _ c1 e⟩
theorem zip_itemB {f0 f1 : Value} {X : List (Array Value)} {vs : List Value} {Q : Value → Shared → Prop} (D : ZApart z TI TO Ss) (hz : ZipSt s.heap z TI TO f0 f1) (held : ∀ Q : Bool → Shared → Prop, (∀ h' f1', ZipSt h' z TI TO f0 f1' → Heap.SameBut z s.heap h' → Q false { s with heap := h' }) → wpAny (model P w) A (Builtin.SmallTypes.ownedTupleIsFree (.ref z)) Q E s) (h0 : Ss ≠ [])
    (hTI : SeqT s.heap TI (itsOf Ss).toArray) (hI : At Ss k 0 s.heap) (hX : Sqs Ss X s.heap) (hv : vs.length = Ss.length) (hx : ∀ (n : Nat) (xs : Array Value), X[n]? = some xs → xs[k]? = vs[n]?) (few : Ss.length ≤ sizeLine)
    (hQ : ∀ h' f1', ZipSt h' z TI TO f0 f1' → At Ss k Ss.length h' → SeqT h' s.heap.objs.size vs.toArray → (∀ c o, c ≠ z → (∀ S ∈ Ss, c ≠ S.i) → s.heap.get? c = some o → h'.get? c = some o) → Q (.ref s.heap.objs.size) { s with heap := h' }) :
    wpAny (model P w) A (Builtin.«zip.__next__» ⟨[.ref z], []⟩) (fun fin s' => ∃ v, fin = .done (.ret v) ∧ Q v s') E s := by
  show wpAny _ _ (field (Value.ref z) 2 >>= _) _ _ _
  refine wpAny_bind (wpAny_field hz rfl (x := .bool false) rfl ?_)
  show wpAny _ _ (field (Value.ref z) 3 >>= _) _ _ _
  refine wpAny_bind (wpAny_field hz rfl (x := .ref TI) rfl ?_)
  refine wpAny_bind (wpAny_seqItems hTI rfl ?_)
  have ne : (itsOf Ss).toArray.isEmpty = false := by
    cases Ss with
    | nil => exact absurd rfl h0
    | cons a r => rfl
  simp only [ne, Bool.false_eq_true, if_false]
  refine wpAny_bind (held _ fun g1 f1' z1 b1 => ?_)
  simp only [Bool.false_eq_true, if_false]
  have li : (itsOf Ss).length = Ss.length := itsOf_len Ss
  refine wpAny_bind (wpAny_forIn_array' _ (fun rest b s' => ∃ (j : Nat) (h' : Heap), b = (none, (vs.take j).toArray) ∧ rest = (itsOf Ss).drop j ∧ j ≤ Ss.length ∧ s' = { s with heap := h' } ∧ ZipSt h' z TI TO f0 f1' ∧ At Ss k j h' ∧ Sqs Ss X h' ∧ h'.objs.size = s.heap.objs.size ∧ (∀ c o, c ≠ z → (∀ S ∈ Ss, c ≠ S.i) → s.heap.get? c = some o → h'.get? c = some o)) _ ?_ ?_ _ _ ?_)
  · rintro it rest b s' ⟨j, g, rfl, er, jl, rfl, gz, gA, gX, gs, gk⟩
    have jlt : j < Ss.length := by
      rcases Nat.lt_or_ge j Ss.length with h | h
      · exact h
      · rw [List.drop_of_length_le (by rw [li]; exact h)] at er
        cases er
    rw [List.drop_eq_getElem_cons (by rw [li]; exact jlt)] at er
    injection er with e1 e2
    subst e1 e2
    have eS : Ss[j]? = some Ss[j] := List.getElem?_eq_getElem jlt
    have ei : (itsOf Ss)[j]'(by rw [li]; exact jlt) = .ref Ss[j].i := by unfold itsOf; rw [List.getElem_map]
    rw [ei]
    generalize Ss[j] = S at eS
    have hS := List.mem_of_getElem? eS
    obtain ⟨xs, ex, sx⟩ := gX.2 _ _ eS
    have hvl : j < vs.length := by omega
    have hxk : xs[k]? = some vs[j] := (hx _ _ ex).trans (List.getElem?_eq_getElem hvl)
    generalize hvn : vs[j] = v at hxk
    have evn : vs[j]? = some v := by rw [List.getElem?_eq_getElem hvl, hvn]
    have it0 := gA _ _ eS
    rw [if_neg (Nat.lt_irrefl _)] at it0
    refine wpAny_bind (wpAny_holding ?_)
    show wpAny _ _ (Builtin.SmallTypes.nextOf (Value.ref S.i) >>= _) _ _ _
    refine wpAny_bind ((Zs.src (P := P) (w := w) S).item _ _ _ k xs v _ it0 sx hxk fun g2 u2 b2 => wpAny_pure (wpAny_pure ?_))
    have k2 : ∀ c o, c ≠ S.i → g.get? c = some o → g2.get? c = some o := fun c o c2 e => b2.extBut _ _ c2 e
    refine ⟨j + 1, g2, ?_, rfl, jlt, rfl, k2 _ _ (D.iz S hS).symm gz, gA.next D.nd eS u2 fun S' hS' ne o e => k2 _ _ ne e, gX.keep fun S' hS' o e => k2 _ _ (D.li S' hS' S hS) e, b2.1.trans gs, fun c o c1 c3 e => k2 c o (c3 S hS) (gk c o c1 c3 e)⟩
    rw [List.take_add_one, evn]
    simp
  · rintro b s' ⟨j, g, rfl, er, jl, rfl, gz, gA, gX, gs, gk⟩
    have ej : j = Ss.length := by
      have h := congrArg List.length er
      rw [List.length_drop, li] at h
      have h0 : ([] : List Value).length = 0 := rfl
      omega
    subst ej
    rw [← hv, List.take_length]
    refine wpAny_bind (wpAny_newTuple ?_ (by show vs.toArray.toList.length ≤ sizeLine; rw [List.toList_toArray, hv]; exact few))
    have up : ∀ c o, g.get? c = some o → (g.push { cls := .type "tuple", data := .seq vs.toArray.toList.toArray }).get? c = some o := fun c o e => Heap.get?_push_of_some _ e
    have p8 : SeqT (g.push { cls := .type "tuple", data := .seq vs.toArray.toList.toArray }) g.objs.size vs.toArray := Heap.get?_push_size _ rfl
    rw [gs] at p8
    refine wpAny_pure ⟨_, rfl, ?_⟩
    show Q (.ref g.objs.size) _
    rw [gs]
    exact hQ _ f1' (up _ _ gz) (gA.keep fun S' hS' o e => up _ _ e) p8 fun c o c1 c3 e => up c o (gk c o c1 c3 e)
  · exact ⟨0, g1, rfl, rfl, Nat.zero_le _, rfl, z1, hI.keep fun S' hS' o e => b1.extBut _ _ (D.iz S' hS') e, hX.keep fun S' hS' o e => b1.extBut _ _ (D.lz S' hS') e, b1.1, fun c o c1 _ e => b1.extBut _ _ c1 e⟩
theorem zip_endB {f0 f1 : Value} {X : List (Array Value)} {Q : PySem.Fin → Shared → Prop} (hh : A.handled = none) (D : ZApart z TI TO Ss) (hz : ZipSt s.heap z TI TO f0 f1) (held : ∀ Q : Bool → Shared → Prop, (∀ h' f1', ZipSt h' z TI TO f0 f1' → Heap.SameBut z s.heap h' → Q false { s with heap := h' }) → wpAny (model P w) A (Builtin.SmallTypes.ownedTupleIsFree (.ref z)) Q E s) (h0 : Ss ≠ [])
    (hTI : SeqT s.heap TI (itsOf Ss).toArray) (hI : At Ss k 0 s.heap) (hX : Sqs Ss X s.heap) (hx : ∃ xs ∈ X, xs[k]? = none)
    (hE : ∀ h' e, (∀ c o, c ≠ z → (∀ S ∈ Ss, c ≠ S.i) → s.heap.get? c = some o → h'.get? c = some o) → (∃ o, h'.get? e = some o ∧ o.cls = .type "StopIteration") → E (.ref e) { s with heap := h' }) :
    wpAny (model P w) A (Builtin.«zip.__next__» ⟨[.ref z], []⟩) Q E s := by
  show wpAny _ _ (field (Value.ref z) 2 >>= _) _ _ _
  refine wpAny_bind (wpAny_field hz rfl (x := .bool false) rfl ?_)
  show wpAny _ _ (field (Value.ref z) 3 >>= _) _ _ _
  refine wpAny_bind (wpAny_field hz rfl (x := .ref TI) rfl ?_)
  refine wpAny_bind (wpAny_seqItems hTI rfl ?_)
  have ne : (itsOf Ss).toArray.isEmpty = false := by
    cases Ss with
    | nil => exact absurd rfl h0
    | cons a r => rfl
  simp only [ne, Bool.false_eq_true, if_false]
  refine wpAny_bind (held _ fun g1 f1' z1 b1 => ?_)
  simp only [Bool.false_eq_true, if_false]
  have li : (itsOf Ss).length = Ss.length := itsOf_len Ss
  refine wpAny_bind (wpAny_forIn_array' _ (fun rest b s' => ∃ (j : Nat) (h' : Heap) (vs : Array Value), b = (none, vs) ∧ rest = (itsOf Ss).drop j ∧ j ≤ Ss.length ∧ s' = { s with heap := h' } ∧ (∀ n xs, n < j → X[n]? = some xs → xs[k]? ≠ none) ∧ At Ss k j h' ∧ Sqs Ss X h' ∧ (∀ c o, c ≠ z → (∀ S ∈ Ss, c ≠ S.i) → s.heap.get? c = some o → h'.get? c = some o)) _ ?_ ?_ _ _ ?_)
  · rintro it rest b s' ⟨j, g, vs, rfl, er, jl, rfl, gv, gA, gX, gk⟩
    have jlt : j < Ss.length := by
      rcases Nat.lt_or_ge j Ss.length with h | h
      · exact h
      · rw [List.drop_of_length_le (by rw [li]; exact h)] at er
        cases er
    rw [List.drop_eq_getElem_cons (by rw [li]; exact jlt)] at er
    injection er with e1 e2
    subst e1 e2
    have eS : Ss[j]? = some Ss[j] := List.getElem?_eq_getElem jlt
    have ei : (itsOf Ss)[j]'(by rw [li]; exact jlt) = .ref Ss[j].i := by unfold itsOf; rw [List.getElem_map]
    rw [ei]
    generalize Ss[j] = S at eS
    have hS := List.mem_of_getElem? eS
    obtain ⟨xs, ex, sx⟩ := gX.2 _ _ eS
    have it0 := gA _ _ eS
    rw [if_neg (Nat.lt_irrefl _)] at it0
    refine wpAny_bind (wpAny_holding ?_)
    show wpAny _ _ (Builtin.SmallTypes.nextOf (Value.ref S.i) >>= _) _ _ _
    cases hxk : xs[k]? with
    | none =>
      refine wpAny_bind ((Zs.src (P := P) (w := w) S).fin _ _ _ k xs _ hh it0 sx hxk fun g2 e b2 he => ?_)
      exact hE g2 e (fun c o c1 c3 q => b2 _ _ (c3 S hS) (gk c o c1 c3 q)) he
    | some v =>
      refine wpAny_bind ((Zs.src (P := P) (w := w) S).item _ _ _ k xs v _ it0 sx hxk fun g2 u2 b2 => wpAny_pure (wpAny_pure ?_))
      have k2 : ∀ c o, c ≠ S.i → g.get? c = some o → g2.get? c = some o := fun c o c2 e => b2.extBut _ _ c2 e
      refine ⟨j + 1, g2, _, rfl, rfl, jlt, rfl, fun n xs' hn e => ?_, gA.next D.nd eS u2 fun S' hS' ne o e => k2 _ _ ne e, gX.keep fun S' hS' o e => k2 _ _ (D.li S' hS' S hS) e, fun c o c1 c3 e => k2 c o (c3 S hS) (gk c o c1 c3 e)⟩
      by_cases c : n = j
      · subst c
        cases (Option.some.inj (ex.symm.trans e))
        rw [hxk]
        exact fun z => nomatch z
      · exact gv n xs' (by omega) e
  · rintro b s' ⟨j, g, vs, rfl, er, jl, rfl, gv, gA, gX, gk⟩
    exfalso
    have ej : j = Ss.length := by
      have h := congrArg List.length er
      rw [List.length_drop, li] at h
      have h0 : ([] : List Value).length = 0 := rfl
      omega
    obtain ⟨xs, hm, hn⟩ := hx
    obtain ⟨n, en⟩ := List.getElem?_of_mem hm
    have hl := (List.getElem?_eq_some_iff.mp en).1
    rw [gX.1] at hl
    exact gv n xs (by omega) en hn
  · exact ⟨0, g1, _, rfl, rfl, Nat.zero_le _, rfl, fun n _ hn => absurd hn (Nat.not_lt_zero _), hI.keep fun S' hS' o e => b1.extBut _ _ (D.iz S' hS') e, hX.keep fun S' hS' o e => b1.extBut _ _ (D.lz S' hS') e, fun c o c1 _ e => b1.extBut _ _ c1 e⟩
theorem ask_alive {a : Addr} {Q : Option Obj → Shared → Prop} (h : Q (s.heap.get? a) s) : wpAny (model P w) A (loadIfAlive a) Q E s := fun Γ p hΓ => by
  unfold loadIfAlive
  rw [Sem.wp_loadIfAlive]
  exact wpAny_pure h Γ p hΓ
/-- whether the tuple handed out may be used again -/
def F0 (f0 : Value) : Prop := f0 = .none ∨ ∃ T : Nat, f0 = rawInt T
theorem owned_cases {f0 f1 : Value} (hz : ZipSt s.heap z TI TO f0 f1) (hf : F0 f0) :
    (∀ (E' : Value → Shared → Prop) (Q : Bool → Shared → Prop), Q true s → wpAny (model P w) A (Builtin.SmallTypes.ownedTupleIsFree (.ref z)) Q E' s) ∨
    ∀ (E' : Value → Shared → Prop) (Q : Bool → Shared → Prop), (∀ h' f1', ZipSt h' z TI TO f0 f1' → Heap.SameBut z s.heap h' → Q false { s with heap := h' }) → wpAny (model P w) A (Builtin.SmallTypes.ownedTupleIsFree (.ref z)) Q E' s := by
  rcases hf with rfl | ⟨T, rfl⟩
  · refine .inl fun E' Q q => ?_
    unfold Builtin.SmallTypes.ownedTupleIsFree
    exact wpAny_bind (wpAny_field hz rfl (x := .none) rfl (wpAny_pure q))
  · cases e : s.heap.get? T with
    | none =>
      refine .inl fun E' Q q => ?_
      unfold Builtin.SmallTypes.ownedTupleIsFree
      refine wpAny_bind (wpAny_field hz rfl (x := rawInt T) rfl ?_)
      show wpAny _ _ (loadIfAlive _ >>= _) _ _ _
      refine wpAny_bind (ask_alive ?_)
      rw [show ((T : Int)).toNat = T from Int.toNat_natCast T, e]
      exact wpAny_pure q
    | some o =>
      refine .inr fun E' Q q => ?_
      unfold Builtin.SmallTypes.ownedTupleIsFree
      refine wpAny_bind (wpAny_field hz rfl (x := rawInt T) rfl ?_)
      show wpAny _ _ (loadIfAlive _ >>= _) _ _ _
      refine wpAny_bind (ask_alive ?_)
      rw [show ((T : Int)).toNat = T from Int.toNat_natCast T, e]
      simp only [Option.isNone_some, Bool.false_eq_true, if_false]
      refine wpAny_bind (wpAny_field hz rfl (x := f1) rfl ?_)
      split
      · refine wpAny_bind (wpAny_setField_rec hz (by simp) fun g2 z2 b2 => wpAny_pure ?_)
        exact q g2 (.bool true) z2 b2
      · exact wpAny_pure (q s.heap f1 hz ⟨rfl, fun _ _ => rfl⟩)
end
end Bw
set_option Elab.async false
set_option linter.all false
set_option maxRecDepth 100000
set_option maxHeartbeats 4000000
namespace Bw
open PySem PySem.Spec PyProof.Rows L2
/-! ### zip(..) of any number of lists and tuples made -/
theorem zipN_type (us : List Value) : checkTypeCall "zip" ⟨us, []⟩ = pure () := by kernel_rfl
theorem zipN_new (a : Value) (us : List Value) : checkBuiltinCall "zip.__new__" ⟨.type "zip" :: a :: us, []⟩ = pure () := by kernel_rfl
theorem zipN_init (c : Value) (us : List Value) : argsOk "object.__init__" ⟨c :: us, []⟩ := by
  unfold argsOk; rw [signature?_of (id := "object.__init__") (n := ['_', '_', 't', 'i', 'n', 'i', '_', '_']) (o := ['t', 'c', 'e', 'j', 'b', 'o']) (by kernel_rfl) F.owner_object]; kernel_rfl
theorem zipN_cls (us : List Value) : Builtin.SmallTypes.newClass "zip" ⟨.type "zip" :: us, []⟩ = pure (.type "zip", us) := by kernel_rfl
/-- what is zipped: a list or a tuple at an address -/
abbrev Zl := Addr × Bool
def Zl.sq (l : Zl) (xs : Array Value) (h : Heap) : Prop := match l.2 with
  | true => h.IsTuple l.1 xs
  | false => h.IsList l.1 xs
def zsFrom (n : Nat) : List Zl → List Zs
  | [] => []
  | l :: ls => ⟨n, l.1, l.2⟩ :: zsFrom (n + 1) ls
theorem zsFrom_len : ∀ (n : Nat) (ls : List Zl), (zsFrom n ls).length = ls.length
  | _, [] => rfl
  | n, _ :: ls => congrArg (· + 1) (zsFrom_len (n + 1) ls)
theorem zsFrom_at : ∀ (n : Nat) (ls : List Zl) (j : Nat) (l : Zl), ls[j]? = some l → (zsFrom n ls)[j]? = some ⟨n + j, l.1, l.2⟩
  | n, l :: ls, 0, l', h => by
    cases h
    rfl
  | n, l :: ls, j + 1, l', h => by
    have := zsFrom_at (n + 1) ls j l' h
    rw [show n + (j + 1) = n + 1 + j by omega]
    exact this
section
variable {P : Program} {w : World} {A : Around} {E : Value → Shared → Prop} {s : Shared}
theorem iter_zl {l : Zl} {xs : Array Value} {Q : Value → Shared → Prop} (hl : l.sq xs s.heap) (h : ∀ h', h'.objs.size = s.heap.objs.size + 1 → (⟨s.heap.objs.size, l.1, l.2⟩ : Zs).it 0 h' → (∀ c o, s.heap.get? c = some o → h'.get? c = some o) → Q (.ref s.heap.objs.size) { s with heap := h' }) : wpAny (model P w) A (pyIter (.ref l.1)) Q E s := by
  obtain ⟨a, b⟩ := l
  cases b with
  | true => exact wpAny_pyIter_tuple hl (h _ (Heap.size_push ..) ⟨_, Heap.get?_push_size _ rfl, rfl, rfl⟩ fun c o e => Heap.get?_push_of_some _ e)
  | false => exact wpAny_pyIter_list hl (h _ (Heap.size_push ..) ⟨_, Heap.get?_push_size _ rfl, rfl, rfl⟩ fun c o e => Heap.get?_push_of_some _ e)
theorem iterAll_zl {ls : List Zl} {X : List (Array Value)} {Q : List Value → Shared → Prop} (hX : X.length = ls.length) (hs : ∀ (n : Nat) (l : Zl), ls[n]? = some l → ∃ xs, X[n]? = some xs ∧ l.sq xs s.heap)
    (h : ∀ h', h'.objs.size = s.heap.objs.size + ls.length → (∀ (n : Nat) (S : Zs), (zsFrom s.heap.objs.size ls)[n]? = some S → S.it 0 h') → (∀ c o, s.heap.get? c = some o → h'.get? c = some o) → Q (itsOf (zsFrom s.heap.objs.size ls)) { s with heap := h' }) :
    wpAny (model P w) A (Builtin.SmallTypes.iterAll (ls.map fun l => .ref l.1)) Q E s := by
  unfold Builtin.SmallTypes.iterAll
  refine wpAny_bind ?_
  refine wpAny_forIn_list _ (fun rest b s' => ∃ (j : Nat) (h' : Heap), rest = (ls.drop j).map (fun l => Value.ref l.1) ∧ j ≤ ls.length ∧ b = ((itsOf (zsFrom s.heap.objs.size ls)).take j).toArray ∧ s' = { s with heap := h' } ∧ h'.objs.size = s.heap.objs.size + j ∧ (∀ (n : Nat) (S : Zs), n < j → (zsFrom s.heap.objs.size ls)[n]? = some S → S.it 0 h') ∧ (∀ c o, s.heap.get? c = some o → h'.get? c = some o)) _ ?_ ?_ _ _ ⟨0, s.heap, by rw [List.drop_zero], Nat.zero_le _, by rw [List.take_zero], rfl, rfl, fun n S hn => absurd hn (Nat.not_lt_zero _), fun c o e => e⟩
  · rintro x rest b s' ⟨j, g, er, jl, rfl, rfl, gs, gi, gk⟩
    have jlt : j < ls.length := by
      rcases Nat.lt_or_ge j ls.length with h | h
      · exact h
      · rw [List.drop_of_length_le h] at er
        cases er
    rw [List.drop_eq_getElem_cons jlt, List.map_cons] at er
    injection er with e1 e2
    subst e1 e2
    have el : ls[j]? = some ls[j] := List.getElem?_eq_getElem jlt
    generalize ls[j] = l at el
    obtain ⟨xs, ex, sx⟩ := hs j l el
    have sx' : l.sq xs g := by
      obtain ⟨a, b⟩ := l
      cases b with
      | true =>
        obtain ⟨o, e, z⟩ := sx
        exact ⟨o, gk _ _ e, z⟩
      | false =>
        obtain ⟨o, e, z⟩ := sx
        exact ⟨o, gk _ _ e, z⟩
    refine wpAny_bind (wpAny_holding (iter_zl (s := { s with heap := g }) sx' fun h' hz hi hk => ?_))
    refine wpAny_pure ?_
    have eS := zsFrom_at s.heap.objs.size ls j l el
    refine ⟨j + 1, h', rfl, jlt, ?_, rfl, by rw [hz]; show g.objs.size + 1 = _; omega, fun n S hn e => ?_, fun c o e => hk _ _ (gk _ _ e)⟩
    · have e3 : (itsOf (zsFrom s.heap.objs.size ls))[j]? = some (.ref (s.heap.objs.size + j)) := by
        unfold itsOf
        rw [List.getElem?_map, eS]
        rfl
      rw [List.take_succ, e3]
      show (Array.push _ (Value.ref g.objs.size)) = _
      rw [gs]
      simp
    · by_cases c : n = j
      · subst c
        cases (Option.some.inj (e.symm.trans eS))
        rw [← gs]
        exact hi
      · exact Zs.keepI (gi n S (by omega) e) fun o e => hk _ _ e
  · rintro b s' ⟨j, g, er, jl, rfl, rfl, gs, gi, gk⟩
    have ej : j = ls.length := by
      have h := congrArg List.length er
      rw [List.length_map, List.length_drop] at h
      have h0 : ([] : List Value).length = 0 := rfl
      omega
    subst ej
    refine wpAny_pure ?_
    have e4 : ((itsOf (zsFrom s.heap.objs.size ls)).take ls.length).toArray.toList = itsOf (zsFrom s.heap.objs.size ls) := by
      rw [List.take_of_length_le (by unfold itsOf; rw [List.length_map, zsFrom_len]; exact Nat.le_refl _)]
    show Q (Array.toList _) _
    rw [e4]
    refine h g gs (fun n S e => gi n S ?_ e) gk
    have := (List.getElem?_eq_some_iff.mp e).1
    rw [zsFrom_len] at this
    exact this
end
end Bw
set_option Elab.async false
set_option linter.all false
set_option maxRecDepth 100000
set_option maxHeartbeats 4000000
namespace Bw
open PySem PySem.Spec PyProof.Rows L2
/-! ### zip(..) of any number of lists and tuples called -/
section
variable {P : Program} {w : World} {A : Around} {E : Value → Shared → Prop} {s : Shared}
theorem new_zipN (ls : List Zl) (few : ls.length ≤ sizeLine) : MeetsIn P w (Builtin.«zip.__new__» ⟨.type "zip" :: (ls.map fun l => Value.ref l.1), []⟩)
    (fun A R s => ∃ X : List (Array Value), X.length = ls.length ∧ (∀ (n : Nat) (l : Zl), ls[n]? = some l → ∃ xs, X[n]? = some xs ∧ l.sq xs s.heap) ∧
      ∀ h', ZipSt h' (s.heap.objs.size + ls.length + 2) (s.heap.objs.size + ls.length) (s.heap.objs.size + ls.length + 1) .none (.bool false) →
        SeqT h' (s.heap.objs.size + ls.length) (itsOf (zsFrom s.heap.objs.size ls)).toArray → SeqT h' (s.heap.objs.size + ls.length + 1) ((itsOf (zsFrom s.heap.objs.size ls)).map fun _ => Value.none).toArray →
        (∀ (n : Nat) (S : Zs), (zsFrom s.heap.objs.size ls)[n]? = some S → S.it 0 h') → h'.objs.size = s.heap.objs.size + ls.length + 3 → (∀ c o, s.heap.get? c = some o → h'.get? c = some o) →
        R (.ok (.ret (.ref (s.heap.objs.size + ls.length + 2)))) { s with heap := h' }) :=
  .of_wp fun A R s h => by
    obtain ⟨X, hX, hs, h⟩ := h
    unfold Builtin.«zip.__new__»
    refine wpAny_bind (wpAny_of_eq (zipN_cls _) ?_)
    try dsimp only
    refine wpAny_bind (iterAll_zl hX hs fun h1 z1 i1 k1 => ?_)
    have li : (itsOf (zsFrom s.heap.objs.size ls)).length = ls.length := by rw [itsOf_len, zsFrom_len]
    refine wpAny_bind (wpAny_newTuple ?_ (by rw [li]; exact few))
    refine wpAny_bind (wpAny_newTuple ?_ (by rw [List.length_map, li]; exact few))
    show wpAny _ _ (newObj (.type "zip") (.fields #[.none, .bool false, .bool false, .ref h1.objs.size, .ref (h1.push { cls := .type "tuple", data := .seq (itsOf (zsFrom s.heap.objs.size ls)).toArray }).objs.size]) >>= _) _ _ _
    refine wpAny_bind (wpAny_newObj_type ?_)
    refine wpAny_pure ⟨_, rfl, ?_⟩
    generalize (itsOf (zsFrom s.heap.objs.size ls)).map (fun _ => Value.none) = nn at h ⊢
    generalize itsOf (zsFrom s.heap.objs.size ls) = ii at h ⊢
    have z2 : (h1.push { cls := .type "tuple", data := .seq ii.toArray }).objs.size = s.heap.objs.size + ls.length + 1 := by rw [Heap.size_push, z1]
    have z3 : ((h1.push { cls := .type "tuple", data := .seq ii.toArray }).push { cls := .type "tuple", data := .seq nn.toArray }).objs.size = s.heap.objs.size + ls.length + 2 := by rw [Heap.size_push, z2]
    have key : ∀ z : Obj, z = ({ cls := .type "zip", data := .fields #[.none, .bool false, .bool false, .ref (s.heap.objs.size + ls.length), .ref (s.heap.objs.size + ls.length + 1)] } : Obj) →
        R (.ok (.ret (.ref (s.heap.objs.size + ls.length + 2)))) { s with heap := ((h1.push { cls := .type "tuple", data := .seq ii.toArray }).push { cls := .type "tuple", data := .seq nn.toArray }).push z } := by
      rintro z rfl
      have g3 : (((h1.push { cls := .type "tuple", data := .seq ii.toArray }).push { cls := .type "tuple", data := .seq nn.toArray }).push { cls := .type "zip", data := .fields #[.none, .bool false, .bool false, .ref (s.heap.objs.size + ls.length), .ref (s.heap.objs.size + ls.length + 1)] }).get? ((h1.push { cls := .type "tuple", data := .seq ii.toArray }).push { cls := .type "tuple", data := .seq nn.toArray }).objs.size = some _ := Heap.get?_push_size _ rfl
      have g2 : (((h1.push { cls := .type "tuple", data := .seq ii.toArray }).push { cls := .type "tuple", data := .seq nn.toArray }).push { cls := .type "zip", data := .fields #[.none, .bool false, .bool false, .ref (s.heap.objs.size + ls.length), .ref (s.heap.objs.size + ls.length + 1)] }).get? (h1.push { cls := .type "tuple", data := .seq ii.toArray }).objs.size = some _ := Heap.get?_push_of_some _ (Heap.get?_push_size _ rfl)
      have g1 : (((h1.push { cls := .type "tuple", data := .seq ii.toArray }).push { cls := .type "tuple", data := .seq nn.toArray }).push { cls := .type "zip", data := .fields #[.none, .bool false, .bool false, .ref (s.heap.objs.size + ls.length), .ref (s.heap.objs.size + ls.length + 1)] }).get? h1.objs.size = some _ := Heap.get?_push_of_some _ (Heap.get?_push_of_some _ (Heap.get?_push_size _ rfl))
      rw [z3] at g3
      rw [z2] at g2
      rw [z1] at g1
      have kk : ∀ c o, h1.get? c = some o → (((h1.push { cls := .type "tuple", data := .seq ii.toArray }).push { cls := .type "tuple", data := .seq nn.toArray }).push { cls := .type "zip", data := .fields #[.none, .bool false, .bool false, .ref (s.heap.objs.size + ls.length), .ref (s.heap.objs.size + ls.length + 1)] }).get? c = some o := fun c o e => Heap.get?_push_of_some _ (Heap.get?_push_of_some _ (Heap.get?_push_of_some _ e))
      refine h _ g3 g1 g2 (fun n S e => Zs.keepI (i1 n S e) fun o e => kk _ _ e) ?_ fun c o e => kk _ _ (k1 c o e)
      rw [Heap.size_push, z3]
    have := key _ rfl
    rw [← z3] at this
    rw [← z2] at this
    rw [← z1] at this
    exact this
/-- zip(..) of the sources ls, at least one -/
theorem call_zipN {l0 : Zl} {ls : List Zl} {X : List (Array Value)} {Q : Value → Shared → Prop} (few : (l0 :: ls).length ≤ sizeLine) (hX : X.length = (l0 :: ls).length) (hs : ∀ (n : Nat) (l : Zl), (l0 :: ls)[n]? = some l → ∃ xs, X[n]? = some xs ∧ l.sq xs s.heap)
    (h : ∀ h', ZipSt h' (s.heap.objs.size + (l0 :: ls).length + 2) (s.heap.objs.size + (l0 :: ls).length) (s.heap.objs.size + (l0 :: ls).length + 1) .none (.bool false) →
        SeqT h' (s.heap.objs.size + (l0 :: ls).length) (itsOf (zsFrom s.heap.objs.size (l0 :: ls))).toArray → SeqT h' (s.heap.objs.size + (l0 :: ls).length + 1) ((itsOf (zsFrom s.heap.objs.size (l0 :: ls))).map fun _ => Value.none).toArray →
        (∀ (n : Nat) (S : Zs), (zsFrom s.heap.objs.size (l0 :: ls))[n]? = some S → S.it 0 h') → h'.objs.size = s.heap.objs.size + (l0 :: ls).length + 3 → (∀ c o, s.heap.get? c = some o → h'.get? c = some o) →
        Q (.ref (s.heap.objs.size + (l0 :: ls).length + 2)) { s with heap := h' }) :
    wpAny (model P w) A (call (.type "zip") ((l0 :: ls).map fun l => Value.ref l.1)) Q E s := by
  refine callType_newIn F.called_zip (by decide) (zipN_type _) (zipN_new _ _) (fun obj => zipN_init _ _) F.entry_zip_new (new_zipN (l0 :: ls) few) ?_
  refine ⟨X, hX, hs, fun h' a b c d e f => ?_⟩
  exact ⟨⟨_, a, rfl⟩, h h' a b c d e f⟩
end
end Bw
set_option Elab.async false
set_option linter.all false
set_option maxRecDepth 100000
set_option maxHeartbeats 4000000
namespace Bw
open PySem PySem.Spec PyProof.Rows L2
/-! ### loops and comprehensions over zip(..) of any number of lists and tuples -/
def SrcV (K : PySem.W.Frag) (H : Hp) (l : Zl) (xs : List V) : Prop := match l.2 with
  | true => SqT K H l.1 xs
  | false => SqL K H l.1 xs
def Srcs (K : PySem.W.Frag) (H : Hp) (ls : List Zl) (vss : List (List V)) : Prop := vss.length = ls.length ∧ ∀ (n : Nat) (l : Zl), ls[n]? = some l → ∃ xs, vss[n]? = some xs ∧ SrcV K H l xs
def Col (i : Nat) (vss : List (List V)) (vs : List V) : Prop := vs.length = vss.length ∧ ∀ (n : Nat) (xs : List V), vss[n]? = some xs → xs[i]? = vs[n]?
def ItzN (K : PySem.W.Frag) (ls : List Zl) : It :=
  ⟨fun i H => ∃ vss vs, Srcs K H ls vss ∧ Col i vss vs,
    fun i H v H' => ∃ T vs, v = .ref T ∧ H T = none ∧ H' = upd H T (.tup vs) ∧ ∀ vss, Srcs K H ls vss → Col i vss vs,
    fun i H => ∃ vss, Srcs K H ls vss ∧ ∃ xs ∈ vss, xs[i]? = none⟩
theorem SrcV.get {X : Cx} {pins : List (Addr × Obj)} {σ : L2.St} {H : Hp} {s : Shared} {l : Zl} {xs : List V} (I : L2.Inv X pins σ H s) (h : SrcV X.K H l xs) : ∃ its : List Value, Vals xs its ∧ l.sq its.toArray s.heap ∧ l.1 < s.heap.objs.size := by
  obtain ⟨a, b⟩ := l
  cases b with
  | true => exact (side_tup (a := a)).get X pins σ H s xs rfl I h
  | false => exact (side_list (a := a)).get X pins σ H s xs rfl I h
theorem SrcV.inj {X : Cx} {pins : List (Addr × Obj)} {σ : L2.St} {H : Hp} {s : Shared} {l : Zl} {xs ys : List V} (I : L2.Inv X pins σ H s) (h : SrcV X.K H l xs) (h' : SrcV X.K H l ys) : xs = ys := by
  obtain ⟨a, b⟩ := l
  cases b with
  | true => exact (side_tup (a := a)).inj X pins σ H s xs ys rfl I h h'
  | false => exact (side_list (a := a)).inj X pins σ H s xs ys rfl I h h'
theorem Srcs.inj {X : Cx} {pins : List (Addr × Obj)} {σ : L2.St} {H : Hp} {s : Shared} {ls : List Zl} {vss wss : List (List V)} (I : L2.Inv X pins σ H s) (h : Srcs X.K H ls vss) (h' : Srcs X.K H ls wss) : vss = wss := by
  refine List.ext_getElem? fun n => ?_
  rcases Nat.lt_or_ge n ls.length with c | c
  · obtain ⟨xs, e1, k1⟩ := h.2 n _ (List.getElem?_eq_getElem c)
    obtain ⟨ys, e2, k2⟩ := h'.2 n _ (List.getElem?_eq_getElem c)
    rw [e1, e2, SrcV.inj I k1 k2]
  · rw [List.getElem?_eq_none (by rw [h.1]; exact c), List.getElem?_eq_none (by rw [h'.1]; exact c)]
theorem Srcs.vals {X : Cx} {pins : List (Addr × Obj)} {σ : L2.St} {H : Hp} {s : Shared} (I : L2.Inv X pins σ H s) : ∀ {ls : List Zl} {vss : List (List V)}, Srcs X.K H ls vss → ∃ Y : List (List Value), Y.length = ls.length ∧ ∀ (n : Nat) (l : Zl), ls[n]? = some l → ∃ xs its, vss[n]? = some xs ∧ Y[n]? = some its ∧ Vals xs its ∧ l.sq its.toArray s.heap ∧ l.1 < s.heap.objs.size
  | [], _, _ => ⟨[], rfl, fun n l e => by simp at e⟩
  | l :: ls, [], h => by
    have := h.1
    cases this
  | l :: ls, xs :: vss, h => by
    obtain ⟨Y, hY, hh⟩ := Srcs.vals I (ls := ls) (vss := vss) ⟨Nat.succ.inj h.1, fun n l' e => h.2 (n + 1) l' e⟩
    obtain ⟨xs', e1, k1⟩ := h.2 0 l rfl
    cases e1
    obtain ⟨its, r1, r2, r3⟩ := SrcV.get I k1
    refine ⟨its :: Y, congrArg (· + 1) hY, fun n l' e => ?_⟩
    match n, e with
    | 0, e =>
      cases e
      exact ⟨xs, its, rfl, rfl, r1, r2, r3⟩
    | n + 1, e => exact hh n l' e
theorem col_vals {i : Nat} : ∀ {vss : List (List V)} {vs : List V} {Y : List (List Value)}, Y.length = vss.length → (∀ (n : Nat) xs, vss[n]? = some xs → ∃ its, Y[n]? = some its ∧ Vals xs its) → Col i vss vs → ∃ us : List Value, Vals vs us ∧ ∀ (n : Nat) (its : List Value), Y[n]? = some its → its[i]? = us[n]?
  | [], vs, Y, hY, hv, hc => by
    have e : vs = [] := List.length_eq_zero_iff.mp hc.1
    have e2 : Y = [] := List.length_eq_zero_iff.mp hY
    subst e e2
    exact ⟨[], .nil, fun n its e => by simp at e⟩
  | xs :: vss, [], Y, hY, hv, hc => by
    have := hc.1
    cases this
  | xs :: vss, v :: vs, [], hY, hv, hc => by cases hY
  | xs :: vss, v :: vs, it :: Y, hY, hv, hc => by
    obtain ⟨us, r, hu⟩ := col_vals (i := i) (vss := vss) (vs := vs) (Y := Y) (Nat.succ.inj hY) (fun n xs' e => hv (n + 1) xs' e) ⟨Nat.succ.inj hc.1, fun n xs' e => hc.2 (n + 1) xs' e⟩
    obtain ⟨its, e1, r1⟩ := hv 0 xs rfl
    cases e1
    have e0 : xs[i]? = some v := hc.2 0 xs rfl
    obtain ⟨u, eu, ru⟩ := r1.get e0
    refine ⟨u :: us, .cons ru r, fun n its' e => ?_⟩
    match n, e with
    | 0, e =>
      cases e
      exact eu
    | n + 1, e => exact hu n its' e
section
variable {P : Program} {w : World} {A : Around} {E : Value → Shared → Prop} {s : Shared} {z TI TO : Addr}
theorem go_zipN {tg : Expr} {f0 f1 : Value} {T : Addr} {Q : Unit → Shared → Prop} (hz : ZipSt s.heap z TI TO f0 f1) (hf : F0 f0) (h : ∀ h' f0', F0 f0' → ZipSt h' z TI TO f0' f1 → Heap.SameBut z s.heap h' → Q () { s with heap := h' }) : wpAny (model P w) A (letOwnedTupleGo tg (.ref z) (.ref T)) Q E s := by
  have h0 : Q () s := h s.heap f0 hf hz ⟨rfl, fun _ _ => rfl⟩
  unfold letOwnedTupleGo
  cases tg <;> first
    | exact wpAny_pure h0
    | (refine wpAny_bind (wpAny_load hz ?_)
       dsimp only
       split
       · refine wpAny_bind (wpAny_rule ?_)
         show wpAny _ _ (setField (.ref z) 0 .none) Q E s
         exact wpAny_setField_rec hz (by simp) fun h' hz' hs' => h h' .none (.inl rfl) hz' hs'
       · exact wpAny_pure h0)
end
def TnZ (z TI TO : Addr) (Ss : List Zs) (i : Nat) (h : Heap) : Prop := ∃ f0 f1 arr, F0 f0 ∧ ZipSt h z TI TO f0 f1 ∧ SeqT h TI (itsOf Ss).toArray ∧ SeqT h TO arr ∧ arr.size = Ss.length ∧ At Ss i 0 h
theorem at_succ {Ss : List Zs} {i : Nat} {h : Heap} (a : At Ss i Ss.length h) : At Ss (i + 1) 0 h := fun n S e => by
  have := a n S e
  rw [if_pos (List.getElem?_eq_some_iff.mp e).1] at this
  exact this
theorem turn_zipN {P : Program} {w : World} {K : PySem.W.Frag} {tg : Expr} {z TI TO : Addr} {ls : List Zl} {Ss : List Zs} (D : ZApart z TI TO Ss) (h0 : Ss ≠ []) (few : Ss.length ≤ sizeLine) (eS : Ss.map (fun S => ((S.l, S.tup) : Zl)) = ls) :
    Turn P w K tg (ItzN K ls) (z :: TI :: TO :: Ss.map (·.i)) z (TnZ z TI TO Ss) where
  mem := by simp
  obj := fun i h st c hc => by
    obtain ⟨f0, f1, arr, hf, hz, hTI, hTO, hA, hI⟩ := st
    rcases List.mem_cons.mp hc with rfl | hc
    · exact ⟨_, hz, fun v q => nomatch q⟩
    rcases List.mem_cons.mp hc with rfl | hc
    · exact ⟨_, hTI, fun v q => nomatch q⟩
    rcases List.mem_cons.mp hc with rfl | hc
    · exact ⟨_, hTO, fun v q => nomatch q⟩
    obtain ⟨S, hS, rfl⟩ := List.mem_map.mp hc
    obtain ⟨n, en⟩ := List.getElem?_of_mem hS
    exact (Zs.src (P := P) (w := w) S).obj _ _ (hI n S en)
  keep := fun i h h' st k => by
    obtain ⟨f0, f1, arr, hf, hz, hTI, hTO, hA, hI⟩ := st
    exact ⟨f0, f1, arr, hf, k z (by simp) _ hz, k TI (by simp) _ hTI, k TO (by simp) _ hTO, hA, hI.keep fun S hS o e => k S.i (by simp; exact .inr (.inr (.inr ⟨S, hS, rfl⟩))) o e⟩
  item := by
    intro X hP hw hK hc i pins s σ H E I hf st hg
    subst hP hw hK
    obtain ⟨f0, f1, arr, hF, hz, hTI, hTO, hA, hI⟩ := st
    obtain ⟨vss, vs, hs, hcol⟩ := hg
    obtain ⟨Y, hY, hh⟩ := hs.vals I
    have ll : Ss.length = ls.length := by rw [← eS, List.length_map]
    obtain ⟨us, rv, hu⟩ := col_vals (i := i) (Y := Y) (by rw [hY, hs.1]) (fun n xs e => by
      have hn := (List.getElem?_eq_some_iff.mp e).1
      rw [hs.1] at hn
      obtain ⟨xs', its, e1, e2, e3, _⟩ := hh n _ (List.getElem?_eq_getElem hn)
      cases (Option.some.inj (e.symm.trans e1))
      exact ⟨its, e2, e3⟩) hcol
    have lus : us.length = Ss.length := by rw [← rv.length, hcol.1, hs.1, ll]
    have hX : Sqs Ss (Y.map fun y => y.toArray) s.heap := by
      refine ⟨by rw [List.length_map, hY, ll], fun n S e => ?_⟩
      obtain ⟨xs', its, e1, e2, e3, e4, _⟩ := hh n (S.l, S.tup) (by rw [← eS, List.getElem?_map, e]; rfl)
      refine ⟨its.toArray, by rw [List.getElem?_map, e2]; rfl, ?_⟩
      obtain ⟨i', l', t'⟩ := S
      cases t' <;> exact e4
    have hx : ∀ (n : Nat) (xs : Array Value), (Y.map fun y => y.toArray)[n]? = some xs → xs[i]? = us[n]? := fun n xs e => by
      rw [List.getElem?_map] at e
      obtain ⟨y, ey, rfl⟩ := Option.map_eq_some_iff.mp e
      rw [← hu n y ey]
      simp
    have fpz : ∀ c, c ∈ (z :: TI :: TO :: Ss.map (·.i)) → c < s.heap.objs.size := fun c hc => by
      rcases List.mem_cons.mp hc with rfl | hc
      · exact Heap.lt_size hz
      rcases List.mem_cons.mp hc with rfl | hc
      · exact Heap.lt_size hTI
      rcases List.mem_cons.mp hc with rfl | hc
      · exact Heap.lt_size hTO
      obtain ⟨S, hS, rfl⟩ := List.mem_map.mp hc
      obtain ⟨n, en⟩ := List.getElem?_of_mem hS
      obtain ⟨o, ho, _⟩ := (Zs.src (P := X.prog) (w := X.w) S).obj _ _ (hI n S en)
      exact Heap.lt_size ho
    have hzl : z < s.heap.objs.size := Heap.lt_size hz
    have hT : s.TypeIs (.ref z) "zip" := ⟨_, hz, rfl⟩
    have fin : ∀ (h' : Heap) (f0' f1' : Value) (arr' : Array Value), F0 f0' → ZipSt h' z TI TO f0' f1' → SeqT h' TO arr' → arr'.size = Ss.length → At Ss i Ss.length h' → SeqT h' s.heap.objs.size us.toArray → (∀ c o, c ≠ z → c ≠ TO → (∀ S ∈ Ss, c ≠ S.i) → s.heap.get? c = some o → h'.get? c = some o) →
        wpAny (model X.prog X.w) X.A (letOwnedTupleGo tg (.ref z) (.ref s.heap.objs.size)) (fun _ s2 => ∃ x H', L2.Inv X pins σ H' s2 ∧ RelV x (.ref s.heap.objs.size) ∧ (ItzN X.K ls).yld i H x H' ∧ TnZ z TI TO Ss (i + 1) s2.heap ∧ ∀ b ∈ (z :: TI :: TO :: Ss.map (·.i)), H' b = none) E { s with heap := h' } := by
      intro h' f0' f1' arr' hF' hz' hTO' hA' hI' hn' hk
      refine go_zipN (s := { s with heap := h' }) hz' hF' fun h'' f0'' hF'' hz'' sb => ?_
      have up : ∀ c o, c ≠ z → h'.get? c = some o → h''.get? c = some o := fun c o c1 e => sb.extBut _ _ c1 e
      have hT2 := up _ _ (Nat.ne_of_gt hzl) hn'
      have new : ObjOk X.prog X.w (upd H s.heap.objs.size (.tup vs)) h'' s.heap.objs.size (.tup vs) := ⟨by rw [rv.length, lus]; exact few, us, rv, ⟨_, hT2, rfl, _, rfl⟩⟩
      have kk' : ∀ (c : Addr) (o : Obj), c ∉ (z :: TI :: TO :: Ss.map (·.i)) → s.heap.get? c = some o → h''.get? c = some o := fun c o hb q => up c o (fun q' => hb (by simp [q'])) (hk c o (fun q' => hb (by simp [q'])) (fun q' => hb (by simp [q'])) (fun S hS q' => hb (by rw [q']; simp; exact .inr (.inr (.inr ⟨S, hS, rfl⟩)))) q)
      have I1 : L2.Inv X pins σ (upd H s.heap.objs.size (.tup vs)) { s with heap := h'' } := I.turnedNew (t' := s.toks) (ch := (z :: TI :: TO :: Ss.map (·.i))) kk' hf (Nat.le_refl _) new
      refine ⟨.ref s.heap.objs.size, _, I1, rfl, ⟨_, vs, rfl, I.hok.fresh (Nat.le_refl _), rfl, fun wss hw => ?_⟩, ⟨f0'', f1', arr', hF'', hz'', ?_, up _ _ D.TOz hTO', hA', (at_succ hI').keep fun S hS o e => up _ _ (D.iz S hS) e⟩, fun c hcm => ?_⟩
      · rw [Srcs.inj I hw hs]
        exact hcol
      · exact up _ _ D.TIz (hk _ _ D.TIz D.TITO (fun S hS => (D.iTI S hS).symm) hTI)
      · rw [upd_ne (Nat.ne_of_lt (fpz c hcm))]
        exact (hf c hcm).1
    unfold pyNext
    rcases owned_cases (P := X.prog) (w := X.w) (A := X.A.in1) (s := s) hz hF with free | held
    · refine wpAny_bind (wpAny_attempt (wpAny_callSpecial?_slot (name := Str.ofString "__next__") hT F.slot_zip_next (wpAny_call_entry F.slot_zip_next hT F.entry_zip_next
        (zip_itemA (s := s) (arr := arr) (X := Y.map fun y => y.toArray) (vs := us) D hz (free _) h0 hTI hTO hA hI hX lus hx few fun h' z' TO' h1' hT' hk => wpAny_pure ?_) (F.args_zip_next_1 _))))
      exact ⟨_, rfl, fin h' _ _ _ (.inr ⟨_, rfl⟩) z' TO' (by rw [List.size_toArray, lus]) h1' hT' hk⟩
    · refine wpAny_bind (wpAny_attempt (wpAny_callSpecial?_slot (name := Str.ofString "__next__") hT F.slot_zip_next (wpAny_call_entry F.slot_zip_next hT F.entry_zip_next
        (zip_itemB (s := s) (X := Y.map fun y => y.toArray) (vs := us) D hz (held _) h0 hTI hI hX lus hx few fun h' f1' z' h1' hT' hk => wpAny_pure ?_) (F.args_zip_next_1 _))))
      exact ⟨_, rfl, fin h' _ _ arr hF z' (hk _ _ D.TOz (fun S hS => (D.iTO S hS).symm) hTO) hA h1' hT' fun c o c1 _ c3 e => hk c o c1 c3 e⟩
  done := by
    intro X hP hw hK hc i pins s σ H E I hf st hg
    subst hP hw hK
    obtain ⟨f0, f1, arr, hF, hz, hTI, hTO, hA, hI⟩ := st
    obtain ⟨vss, hs, xs, hm, hn⟩ := hg
    obtain ⟨Y, hY, hh⟩ := hs.vals I
    have ll : Ss.length = ls.length := by rw [← eS, List.length_map]
    have hX : Sqs Ss (Y.map fun y => y.toArray) s.heap := by
      refine ⟨by rw [List.length_map, hY, ll], fun n S e => ?_⟩
      obtain ⟨xs', its, e1, e2, e3, e4, _⟩ := hh n (S.l, S.tup) (by rw [← eS, List.getElem?_map, e]; rfl)
      refine ⟨its.toArray, by rw [List.getElem?_map, e2]; rfl, ?_⟩
      obtain ⟨i', l', t'⟩ := S
      cases t' <;> exact e4
    have hx : ∃ ys ∈ (Y.map fun y => y.toArray), ys[i]? = none := by
      obtain ⟨n, en⟩ := List.getElem?_of_mem hm
      have hl := (List.getElem?_eq_some_iff.mp en).1
      rw [hs.1] at hl
      obtain ⟨xs', its, e1, e2, e3, _⟩ := hh n _ (List.getElem?_eq_getElem hl)
      cases (Option.some.inj (en.symm.trans e1))
      refine ⟨its.toArray, List.mem_map.mpr ⟨its, List.mem_of_getElem? e2, rfl⟩, ?_⟩
      have := e3.none_of hn
      simpa using this
    have hT : s.TypeIs (.ref z) "zip" := ⟨_, hz, rfl⟩
    unfold pyNext
    rcases owned_cases (P := X.prog) (w := X.w) (A := X.A.in1) (s := s) hz hF with free | held
    · refine wpAny_bind (wpAny_attempt (wpAny_callSpecial?_slot (name := Str.ofString "__next__") hT F.slot_zip_next
        (wpAny_call_entry F.slot_zip_next hT F.entry_zip_next (zip_endA (s := s) (arr := arr) (X := Y.map fun y => y.toArray) (I.ok.hd hc) D hz free h0 hTI hTO hA hI hX hx few fun h' e hk he => ?_) (F.args_zip_next_1 _))))
      obtain ⟨o, ho, hc'⟩ := he
      refine wpAny_bind (wpAny_isInstance (T := "StopIteration") (b := true) ⟨o, ho, hc'⟩ isSubtype_stop ?_)
      refine wpAny_pure ⟨rfl, I.turnedL (t' := s.toks) (ch := (z :: TI :: TO :: Ss.map (·.i))) (fun c o hb q => hk c o (fun q' => hb (by simp [q'])) (fun q' => hb (by simp [q'])) (fun S hS q' => hb (by rw [q']; simp; exact .inr (.inr (.inr ⟨S, hS, rfl⟩)))) q) hf⟩
    · refine wpAny_bind (wpAny_attempt (wpAny_callSpecial?_slot (name := Str.ofString "__next__") hT F.slot_zip_next
        (wpAny_call_entry F.slot_zip_next hT F.entry_zip_next (zip_endB (s := s) (X := Y.map fun y => y.toArray) (I.ok.hd hc) D hz (held _) h0 hTI hI hX hx fun h' e hk he => ?_) (F.args_zip_next_1 _))))
      obtain ⟨o, ho, hc'⟩ := he
      refine wpAny_bind (wpAny_isInstance (T := "StopIteration") (b := true) ⟨o, ho, hc'⟩ isSubtype_stop ?_)
      refine wpAny_pure ⟨rfl, I.turnedL (t' := s.toks) (ch := (z :: TI :: TO :: Ss.map (·.i))) (fun c o hb q => hk c o (fun q' => hb (by simp [q'])) (fun S hS q' => hb (by rw [q']; simp; exact .inr (.inr (.inr ⟨S, hS, rfl⟩)))) q) hf⟩
  self := fun A i s Q E st h => by
    obtain ⟨f0, f1, arr, hf, hz, _⟩ := st
    have hT : s.TypeIs (.ref z) "zip" := ⟨_, hz, rfl⟩
    refine wpAny_pyIter_slot hT F.slot_zip_iter (wpAny_call_entry F.slot_zip_iter hT F.entry_zip_iter ?_ (F.args_zip_iter_1 _))
    show wpAny _ _ (ret (.ref z)) _ _ s
    exact wpAny_pure ⟨_, rfl, "zip", _, hT, F.slot_zip_next.lookup, h⟩
theorem zapart_from {m : Nat} : ∀ {ls : List Zl} {n : Nat}, (∀ l ∈ ls, @LT.lt Nat _ l.1 m) → m ≤ n → (∀ S ∈ zsFrom n ls, @LE.le Nat _ n S.i ∧ @LT.lt Nat _ S.i (n + ls.length) ∧ @LT.lt Nat _ S.l m) ∧ ((zsFrom n ls).map (·.i)).Nodup ∧ (zsFrom n ls).map (fun S => ((S.l, S.tup) : Zl)) = ls
  | [], n, _, _ => ⟨fun S h => (by cases h), List.nodup_nil, rfl⟩
  | l :: ls, n, hl, hm => by
    obtain ⟨h1, h2, h3⟩ := zapart_from (m := m) (ls := ls) (n := n + 1) (fun l' h => hl l' (List.mem_cons_of_mem _ h)) (by omega)
    refine ⟨fun S h => ?_, ?_, ?_⟩
    · rcases List.mem_cons.mp h with rfl | h
      · exact ⟨Nat.le_refl _, by show n < n + (ls.length + 1); omega, hl l (List.mem_cons_self ..)⟩
      · obtain ⟨a, b, c⟩ := h1 S h
        exact ⟨Nat.le_of_succ_le a, by show @LT.lt Nat _ S.i (n + (ls.length + 1)); omega, c⟩
    · refine List.nodup_cons.mpr ⟨fun h => ?_, h2⟩
      obtain ⟨S, hS, e⟩ := List.mem_map.mp h
      have k := (h1 S hS).1
      rw [e] at k
      exact absurd k (Nat.not_succ_le_self n)
    · show (l.1, l.2) :: _ = l :: ls
      rw [h3]
theorem Srcs.lt {X : Cx} {pins : List (Addr × Obj)} {σ : L2.St} {H : Hp} {s : Shared} {ls : List Zl} {vss : List (List V)} (I : L2.Inv X pins σ H s) (h : Srcs X.K H ls vss) : ∀ l ∈ ls, l.1 < s.heap.objs.size := fun l hl => by
  obtain ⟨n, en⟩ := List.getElem?_of_mem hl
  obtain ⟨Y, _, hh⟩ := h.vals I
  obtain ⟨_, _, _, _, _, _, k⟩ := hh n l en
  exact k
/-- zip(..) of the sources called, an iterator of which comes -/
theorem zip_comes {X : Cx} {pins : List (Addr × Obj)} {σ : L2.St} {H : Hp} {s : Shared} {ls : List Zl} {vss : List (List V)} {tg : Expr} {R : It → Hp → Prop} (I : L2.Inv X pins σ H s) (h0 : ls ≠ []) (few : ls.length ≤ sizeLine) (hs : Srcs X.K H ls vss) (q : R (ItzN X.K ls) H) :
    wpAny (model X.prog X.w) X.A (call (.type "zip") (ls.map fun l => Value.ref l.1)) (fun v s1 => wpAny (model X.prog X.w) X.A (pyIter v) (PIE X pins σ tg R) X.xe s1) X.xe s := by
  obtain ⟨Y, hY, hh⟩ := hs.vals I
  have lt := hs.lt I
  obtain ⟨z1, z2, z3⟩ := zapart_from (m := s.heap.objs.size) (ls := ls) (n := s.heap.objs.size) lt (Nat.le_refl _)
  cases ls with
  | nil => exact absurd rfl h0
  | cons l0 ls =>
    refine call_zipN (X := Y.map fun y => y.toArray) few (by rw [List.length_map, hY]) (fun n l e => ?_) fun h' hz hTI hTO hI hsz hk => ?_
    · obtain ⟨xs', its, e1, e2, e3, e4, _⟩ := hh n l e
      exact ⟨its.toArray, by rw [List.getElem?_map, e2]; rfl, e4⟩
    · generalize hS : zsFrom s.heap.objs.size (l0 :: ls) = Ss at *
      have lS : Ss.length = (l0 :: ls).length := by rw [← hS, zsFrom_len]
      have D : ZApart (s.heap.objs.size + (l0 :: ls).length + 2) (s.heap.objs.size + (l0 :: ls).length) (s.heap.objs.size + (l0 :: ls).length + 1) Ss := by
        refine ⟨by show @Ne Nat _ _; omega, by show @Ne Nat _ _; omega, by show @Ne Nat _ _; omega, fun S h => ?_, fun S h => ?_, fun S h => ?_, fun S h => ?_, fun S h => ?_, fun S h S' h' => ?_, z2⟩
        · obtain ⟨_, _, _⟩ := z1 S h; show @Ne Nat _ _; omega
        · obtain ⟨_, _, _⟩ := z1 S h; show @Ne Nat _ _; omega
        · obtain ⟨_, _, _⟩ := z1 S h; show @Ne Nat _ _; omega
        · obtain ⟨_, _, _⟩ := z1 S h; show @Ne Nat _ _; omega
        · obtain ⟨_, _, _⟩ := z1 S h; show @Ne Nat _ _; omega
        · obtain ⟨_, _, _⟩ := z1 S h; obtain ⟨_, _, _⟩ := z1 S' h'; show @Ne Nat _ _; omega
      have hT : ({ s with heap := h' } : Shared).TypeIs (.ref (s.heap.objs.size + (l0 :: ls).length + 2)) "zip" := ⟨_, hz, rfl⟩
      have I2 : L2.Inv X pins σ H { s with heap := h' } := I.kept (t' := s.toks) hk
      have T := turn_zipN (P := X.prog) (w := X.w) (K := X.K) (tg := tg) (ls := l0 :: ls) D (fun e => by rw [e] at lS; cases lS) (by rw [lS]; exact few) z3
      have st : TnZ (s.heap.objs.size + (l0 :: ls).length + 2) (s.heap.objs.size + (l0 :: ls).length) (s.heap.objs.size + (l0 :: ls).length + 1) Ss 0 h' := by
        refine ⟨.none, .bool false, _, .inl rfl, hz, hTI, hTO, by rw [List.size_toArray, List.length_map, itsOf_len], fun n S e => ?_⟩
        rw [if_neg (Nat.not_lt_zero _)]
        exact hI n S e
      refine T.self X.A 0 { s with heap := h' } _ _ st ?_
      refine ⟨_, _, _, _, H, rfl, I2, T, st, fun c hc => ?_, q⟩
      have hle : s.heap.objs.size ≤ c := by
        rcases List.mem_cons.mp hc with rfl | hc
        · omega
        rcases List.mem_cons.mp hc with rfl | hc
        · omega
        rcases List.mem_cons.mp hc with rfl | hc
        · omega
        obtain ⟨S, hS', rfl⟩ := List.mem_map.mp hc
        exact (z1 S hS').1
      exact I.fpOk hle (I.hok.fresh hle)
theorem vals_refs : ∀ {ls : List Zl} {us : List Value}, Vals (ls.map fun l => V.ref l.1) us → us = ls.map fun l => Value.ref l.1
  | [], us, r => by
    cases r
    rfl
  | l :: ls, us, r => by
    cases r with
    | cons r rr =>
      cases r
      rw [vals_refs rr]
      rfl
def iZipN (K : PySem.W.Frag) (ta : TA) : TI := fun σ H R => ta σ H fun vs H1 => ∃ ls vss, vs = (ls.map fun l : Zl => V.ref l.1) ∧ ls ≠ [] ∧ ls.length ≤ 1000 ∧ Srcs K H1 ls vss ∧ R (ItzN K ls) H1
theorem thousand_line : (1000 : Nat) ≤ sizeLine := by decide
/-- zip(e, ..) of lists and tuples, whatever the target -/
theorem p_zipN {X : Cx} {K : PySem.W.Frag} {tg e : Expr} {es : List Expr} {ta : TA} {p pos : Pos} (hg : Gl X "zip") (hm : X.mg "zip" = none) (ha : PA X (e :: es) ta) (hK : X.K = K := by rfl)
    (hs : starEach (e :: es) X.env = (false, eval e X.env) :: starEach es X.env := by rfl) (hpl : (backTo pos (starEach es X.env)).any (·.1) = false := by rfl) : PI X tg (.Call (.Name "zip" p) (e :: es) [] pos) (iZipN K ta) := by
  subst hK
  refine ⟨fun pins s σ H R I h => ?_⟩
  refine Call_ (ld_blt I hg hm PyProof.Rows.boot_zip (PyProof.Rows.callWith_type1 (thn (ha.run pos pins s σ H _ I h) fun us s1 ⟨vs, H1, I1, r1, q1⟩ => ?_) hs hpl))
  obtain ⟨ls, vss, rfl, n0, few, hsr, q⟩ := q1
  rw [vals_refs r1]
  exact zip_comes I1 n0 (Nat.le_trans few thousand_line) hsr q
def iZipP (K : PySem.W.Frag) (te : TE) : TI := fun σ H R => te σ H fun y H1 => ∃ a ls vss, y = V.ref a ∧ (SqT K H1 a (ls.map fun l : Zl => V.ref l.1) ∨ SqL K H1 a (ls.map fun l : Zl => V.ref l.1)) ∧ ls ≠ [] ∧ ls.length ≤ 1000 ∧ Srcs K H1 ls vss ∧ R (ItzN K ls) H1
theorem looks_type {M : Model} {h : Heap} {T : String} : ∃ k, (k = Keeper.frame ∨ k = Keeper.machine ∨ k = Keeper.boundFrame) ∧ PySem.W.Looks M h (keeperOf (.type T)) k := ⟨.machine, .inr (.inl rfl), PySem.W.Looks.of_pure rfl⟩
/-- zip(*e), e a list or tuple of lists and tuples -/
theorem p_zipP {X : Cx} {K : PySem.W.Frag} {tg e : Expr} {te : TE} {p pos sp_ : Pos} (hg : Gl X "zip") (hm : X.mg "zip" = none) (he : PE X e te) (hK : X.K = K := by rfl)
    (hst : starEach [.Starred e sp_] X.env = [(true, eval e X.env)] := by rfl) : PI X tg (.Call (.Name "zip" p) [.Starred e sp_] [] pos) (iZipP K te) := by
  subst hK
  refine ⟨fun pins s σ H R I h => ?_⟩
  refine Call_ (ld_blt I hg hm PyProof.Rows.boot_zip ?_)
  rw [hst]
  refine PySem.W.ks_call (P := fun _ => True) rfl (fun _ _ => looks_type) (PySem.W.ks_lone (thn (he.run pins s σ H _ I h) fun v s1 ⟨y, H1, I1, ry, q1⟩ => ?_))
  obtain ⟨a, ls, vss, rfl, hsq, n0, few, hsr, q⟩ := q1
  obtain rfl : v = Value.ref a := ry
  refine StX.star_any I1 hsq fun us s2 I2 rv => ⟨trivial, ?_⟩
  rw [List.nil_append, vals_refs rv]
  exact zip_comes I2 n0 (Nat.le_trans few thousand_line) hsr q
/-- what is drawn from zip(..): tuples of columns -/
theorem walk_zipN {K : PySem.W.Frag} {ls : List Zl} {vss : List (List V)} {cols : Nat → List V} {n : Nat} (hc : ∀ i, i < n → Col i vss (cols i)) (hn : ∃ xs ∈ vss, xs[n]? = none) :
    Walk (ItzN K ls) n (fun H => Srcs K H ls vss) (fun i H v H' => ∃ T, v = .ref T ∧ H T = none ∧ H' = upd H T (.tup (cols i))) := by
  refine ⟨fun i H hi h => ⟨vss, cols i, h, hc i hi⟩, fun H h => ⟨vss, h, hn⟩, fun i H v H' hi h y => ?_⟩
  obtain ⟨T, vs, k1, k2, k3, k4⟩ := y
  have e := k4 vss h
  have e2 := hc i hi
  have : vs = cols i := by
    refine List.ext_getElem? fun n => ?_
    rcases Nat.lt_or_ge n vss.length with c | c
    · rw [← e.2 n _ (List.getElem?_eq_getElem c), e2.2 n _ (List.getElem?_eq_getElem c)]
    · rw [List.getElem?_eq_none (by rw [e.1]; exact c), List.getElem?_eq_none (by rw [e2.1]; exact c)]
  subst this
  exact ⟨T, k1, k2, k3⟩
end Bw
set_option Elab.async false
set_option linter.all false
set_option maxRecDepth 100000
set_option maxHeartbeats 4000000
namespace Bw
open PySem PySem.Spec PyProof.Rows L2
/-! ### max of a dict whose keys are tuples of ints -/
def gz (q : List Int) (j : Nat) : Int := q.getD j 0
theorem lexAt_lex (p q : List Int) : ∀ k i, i + k = min p.length q.length →
    Ob.lexAt (fun j => decide (gz p j = gz q j)) (fun j => decide (gz q j < gz p j)) (decide (p.length > q.length)) i k = HT.lexLt (q.drop i) (p.drop i)
  | 0, i, h => by
    rw [Ob.lexAt_zero]
    by_cases c : i < p.length
    · have c2 : q.length ≤ i := by omega
      rw [List.drop_of_length_le c2, List.drop_eq_getElem_cons c, HT.lexLt_nil_cons, decide_eq_true (by omega)]
    · rw [List.drop_of_length_le (show p.length ≤ i by omega), decide_eq_false (by omega)]
      by_cases d : i < q.length
      · rw [List.drop_eq_getElem_cons d, HT.lexLt_cons_nil]
      · rw [List.drop_of_length_le (show q.length ≤ i by omega), HT.lexLt_nil_nil]
  | k + 1, i, h => by
    have c : i < p.length := by omega
    have d : i < q.length := by omega
    have ep : gz p i = p[i] := by unfold gz; rw [List.getD_eq_getElem?_getD, List.getElem?_eq_getElem c]; rfl
    have eq : gz q i = q[i] := by unfold gz; rw [List.getD_eq_getElem?_getD, List.getElem?_eq_getElem d]; rfl
    rw [Ob.lexAt_succ, lexAt_lex p q k (i + 1) (by omega), List.drop_eq_getElem_cons c, List.drop_eq_getElem_cons d, HT.lexLt_cons, ep, eq]
    by_cases e : p[i] = q[i]
    · rw [decide_eq_true e, if_pos rfl, if_pos e.symm]
    · rw [decide_eq_false e, if_neg (by decide), if_neg (fun z => e z.symm)]
theorem rc_gtI {A : Around} {s : Shared} {l b : Addr} {its its2 : List Value} {p q : List Int} (hl : s.heap.IsTuple l its.toArray) (hb : s.heap.IsTuple b its2.toArray) (i1 : IntsAre its p) (i2 : IntsAre its2 q) (hu : A.units < cLine) : Ob.RcOp .Gt A s (.ref l) (.ref b) (HT.lexLt q p) := by
  have z1 : its.toArray.size = p.length := by rw [List.size_toArray]; exact i1.length
  have z2 : its2.toArray.size = q.length := by rw [List.size_toArray]; exact i2.length
  have a1 : ∀ j (h : j < its.toArray.size), ∃ t, its.toArray[j] = .int (gz p j) t := fun j h => PyProof.Rows.IntsAre.int_at i1 _ _ (by simp at h; simp [h])
  have a2 : ∀ j (h : j < its2.toArray.size), ∃ t, its2.toArray[j] = .int (gz q j) t := fun j h => PyProof.Rows.IntsAre.int_at i2 _ _ (by simp at h; simp [h])
  have R := Ob.RcOp.tuples_gt (A := A) (s := s) (e := fun j => decide (gz p j = gz q j)) (r := fun j => decide (gz q j < gz p j)) hl hb hu ?_ ?_
  · rw [z1, z2, lexAt_lex p q _ 0 (Nat.zero_add _)] at R
    exact R
  · intro j h1 h2
    obtain ⟨t, e1⟩ := a1 j h1
    obtain ⟨u, e2⟩ := a2 j h2
    have z : decide (gz p j = gz q j) = (gz p j == gz q j) := by
      by_cases y : gz p j = gz q j
      · rw [decide_eq_true y]; exact (beq_iff_eq.mpr y).symm
      · rw [decide_eq_false y]; exact (beq_eq_false_iff_ne.mpr y).symm
    show SeqAt.EqAt A.in1 s its.toArray[j] its2.toArray[j] (decide (gz p j = gz q j))
    rw [e1, e2, z]
    exact SeqAt.EqAt.int_int _ _ _ _
  · intro j h1 h2 _
    obtain ⟨t, e1⟩ := a1 j h1
    obtain ⟨u, e2⟩ := a2 j h2
    rw [e1, e2]
    exact Ob.RcOp.gt_int _ _ _ _
theorem best_lex (key : Nat → List Int) : ∀ k, argBest (fun i j => HT.lexLt (key j) (key i)) k ≤ k ∧ ∀ j, j ≤ k → HT.lexLt (key (argBest (fun i j => HT.lexLt (key j) (key i)) k)) (key j) = false
  | 0 => ⟨Nat.le_refl _, fun j hj => by
    have : j = 0 := by omega
    subst this
    cases e : HT.lexLt (key (argBest (fun i j => HT.lexLt (key j) (key i)) 0)) (key 0) with
    | false => rfl
    | true => have z := NtL.lex_asym _ _ e; exact e.symm.trans z⟩
  | k + 1 => by
    obtain ⟨i1, i2⟩ := best_lex key k
    have un : argBest (fun i j => HT.lexLt (key j) (key i)) (k + 1) = if HT.lexLt (key (argBest (fun i j => HT.lexLt (key j) (key i)) k)) (key (k + 1)) then k + 1 else argBest (fun i j => HT.lexLt (key j) (key i)) k := rfl
    generalize argBest (fun i j => HT.lexLt (key j) (key i)) k = b at i1 i2 un
    rw [un]
    cases e : HT.lexLt (key b) (key (k + 1)) with
    | true =>
      rw [if_pos rfl]
      have as := NtL.lex_asym _ _ e
      refine ⟨Nat.le_refl _, fun j hj => ?_⟩
      by_cases c : j = k + 1
      · subst c
        cases z : HT.lexLt (key (k + 1)) (key (k + 1)) with
        | false => rfl
        | true => exact z.symm.trans (NtL.lex_asym _ _ z)
      · exact NtL.lex_tr _ _ _ (i2 j (by omega)) as
    | false =>
      rw [if_neg (by decide)]
      refine ⟨by omega, fun j hj => ?_⟩
      by_cases c : j = k + 1
      · subst c; exact e
      · exact i2 j (by omega)
theorem kt_at {H : Hp} {kvs : List (List Key × V)} {ks : List (List Key × Addr × Value)} {ps : List (List Int)} (r : KT H kvs ks) (h : KeysI kvs ps) {j : Nat} {b : List Key × Addr × Value} (hb : ks[j]? = some b) : ∃ q, ps[j]? = some q ∧ H b.2.1 = some (.tup (q.map V.int)) := by
  obtain ⟨k1, k2⟩ := keys_kt r h
  obtain ⟨q, hq⟩ := k1 b.2.1 (List.mem_map.mpr ⟨b, List.mem_of_getElem? hb, rfl⟩)
  refine ⟨q, ?_, hq⟩
  rw [← k2, List.getElem?_map, List.getElem?_map, hb]
  exact congrArg some (keyOf_at hq)
def rMaxDT : List V → Hp → VK → Prop := fun vs H Q => ∃ (d : Addr) (kvs : List (List Key × V)) (ps : List (List Int)), vs = [V.ref d] ∧ Rd H d (.dT kvs) ∧ KeysI kvs ps ∧ 0 < ps.length ∧
  ∀ (b : Addr) (q : List Int), H b = some (.tup (q.map V.int)) → q ∈ ps → (∀ p ∈ ps, HT.lexLt q p = false) → Q (.ref b) H
section
variable {X : Cx}
theorem c_maxDT (hc : X.calm = true) (hu : X.A.units + 64 < cLine) : CallR X (.builtin "max") rMaxDT := by
  intro pins s σ H vs us Q I r h
  obtain ⟨d, kvs, ps, rfl, hd, hK, h0, q⟩ := h
  rw [Vals.ref1 r]
  obtain ⟨z, hs, ks, pr, o, es, ep, ho, hx, hdt, he, hn⟩ := (show ObjOk X.prog X.w H s.heap d (.dT kvs) from hd.ok I.hok)
  have l1 : es.size = ks.length := size_of_entries he
  have l3 : ks.length = ps.length := by
    rw [← (keys_kt pr hK).2, List.length_map, List.length_map]
  have key : ∀ (i : Nat) (v : Value), (∃ en : DictEntry, es[i]? = some en ∧ v = en.key) → ∃ b q, v = .ref b ∧ ps[i]? = some q ∧ H b = some (.tup (q.map V.int)) := fun i v ⟨en, hen, hv⟩ => by
    have qe := entry_at he i
    rw [hen] at qe
    cases hb : ks[i]? with
    | none =>
      rw [hb] at qe
      cases qe
    | some b =>
      rw [hb] at qe
      have e2 := Option.some.inj qe
      obtain ⟨p, hp, hq⟩ := kt_at pr hK hb
      exact ⟨b.2.1, p, by rw [hv, e2]; rfl, hp, hq⟩
  refine call_max_walkH (iter_keys hs ho hx hdt ?_)
  have hne : d ≠ s.heap.objs.size := Nat.ne_of_lt (Heap.lt_size ho)
  refine ⟨_, _, _, _, _, _, _, s.heap, fun i j => HT.lexLt (ps.getD j []) (ps.getD i []), rfl, (walks_raw (prog := X.prog) (w := X.w) (A := X.A.in1) (I.ok.hd hc) s.heap.objs.size d hne hdt).toS,
    ⟨⟨_, Heap.get?_push_size _ rfl, rfl, rfl⟩, Heap.get?_push_of_some _ ho⟩, fun b hb => ?_, by omega, fun b u e hb => ?_, fun b u e => Heap.get?_push_of_some _ e, fun i j vi vj s' Q' E' hk hi hj hq => ?_, fun v s' hP hm => ?_⟩
  · show b < (s.heap.push _).objs.size
    rw [Heap.size_push]
    rcases List.mem_cons.mp hb with e | hb
    · rw [e]; exact Nat.lt_succ_self _
    · rw [List.mem_singleton.mp hb]; exact Nat.lt_succ_of_lt (Heap.lt_size ho)
  · rw [List.mem_singleton.mp hb] at e
    exact absurd (Heap.lt_size e) (Nat.lt_irrefl _)
  · obtain ⟨b1, q1, rfl, p1, t1⟩ := key i vi hi
    obtain ⟨b2, q2, rfl, p2, t2⟩ := key j vj hj
    obtain ⟨its1, r1, u1, _⟩ := I.tuple (SqT.of t1)
    obtain ⟨its2, r2, u2, _⟩ := I.tuple (SqT.of t2)
    have e1 : ps.getD i [] = q1 := by rw [List.getD_eq_getElem?_getD, p1]; rfl
    have e2 : ps.getD j [] = q2 := by rw [List.getD_eq_getElem?_getD, p2]; rfl
    have hq : Q' (.bool (HT.lexLt (ps.getD j []) (ps.getD i []))) s' := hq
    rw [e1, e2] at hq
    have k1 : s'.heap.IsTuple b1 its1.toArray := Heap.IsTuple.at u1 fun o e => hk _ _ e
    have k2 : s'.heap.IsTuple b2 its2.toArray := Heap.IsTuple.at u2 fun o e => hk _ _ e
    refine rc_gtI k1 k2 (Vals.ints r1) (Vals.ints r2) ?_ _ _ _ _ hq
    show X.A.in1.units < cLine
    have : X.A.in1.units ≤ X.A.units + 1 := Nat.le_refl _
    omega
  · obtain ⟨b, q', rfl, p1, t1⟩ := key _ v hP
    obtain ⟨g1, g2⟩ := best_lex (fun i => ps.getD i []) (es.size - 1)
    have e1 : ps.getD (argBest (fun i j => HT.lexLt (ps.getD j []) (ps.getD i [])) (es.size - 1)) [] = q' := by rw [List.getD_eq_getElem?_getD, p1]; rfl
    rw [hm.eq_with]
    have J : Inv X pins σ H { s with heap := s'.heap, toks := s'.toks } := I.kept fun c u e => hm.heap c u (fun hb => by
      rw [List.mem_singleton.mp hb] at e
      exact absurd (Heap.lt_size e) (Nat.lt_irrefl _)) (Heap.get?_push_of_some _ e)
    refine ⟨.ref b, H, J, rfl, q b q' t1 (List.mem_of_getElem? p1) fun p hp => ?_⟩
    obtain ⟨j, hj⟩ := List.getElem?_of_mem hp
    have hjl := (List.getElem?_eq_some_iff.mp hj).1
    have g := g2 j (by omega)
    rw [← e1]
    have e3 : ps.getD j [] = p := by rw [List.getD_eq_getElem?_getD, hj]; rfl
    rw [← e3]
    exact g
end
end Bw
set_option Elab.async false
set_option linter.all false
set_option maxRecDepth 100000
set_option maxHeartbeats 4000000
namespace Bw
open PySem PySem.Spec PyProof.Rows L2
/-! ### min(list, default=None), max(list, default=None) of whole numbers -/
theorem reads_ints {h : Heap} : ∀ {vs : List Value} {ns : List Int}, IntsAre vs ns → ∃ as, ReadsAll h vs (ns.map .int) as
  | [], [], _ => ⟨_, .nil⟩
  | [], _ :: _, r => nomatch r
  | _ :: _, [], r => nomatch r
  | v :: vs, n :: ns, r => by
    cases r with
    | cons _ t r =>
      obtain ⟨as, hh⟩ := reads_ints (h := h) r
      exact ⟨_, .cons (.int n t) hh⟩
theorem alike_ints (ns : List Int) : PySem.W.AlikeAll (ns.map .int) := by
  refine ⟨fun x hx y hy => ?_, fun x hx => ?_⟩
  · obtain ⟨a, _, rfl⟩ := List.mem_map.mp hx
    obtain ⟨b, _, rfl⟩ := List.mem_map.mp hy
    rfl
  · obtain ⟨a, _, rfl⟩ := List.mem_map.mp hx
    exact fun z => nomatch z
theorem depth_ints : ∀ ns : List Int, PyData.depthAll (ns.map .int) ≤ 1
  | [] => Nat.zero_le _
  | n :: ns => Nat.max_le.mpr ⟨by show PyData.depth (.int n) ≤ 1; unfold PyData.depth; omega, depth_ints ns⟩
section
variable {X : Cx} {K : PySem.W.Frag}
def rMinD (K : PySem.W.Frag) : List V → List V → Hp → VK → Prop := fun vs zs H Q => ∃ (a : Addr) (ns : List Int), vs = [V.ref a] ∧ zs = [V.non] ∧ SqL K H a (ns.map V.int) ∧ (ns = [] → Q .non H) ∧ ∀ n ms, ns = n :: ms → Q (.int (ms.foldl min n)) H
def rMaxD (K : PySem.W.Frag) : List V → List V → Hp → VK → Prop := fun vs zs H Q => ∃ (a : Addr) (ns : List Int), vs = [V.ref a] ∧ zs = [V.non] ∧ SqL K H a (ns.map V.int) ∧ (ns = [] → Q .non H) ∧ ∀ n ms, ns = n :: ms → Q (.int (ms.foldl max n)) H
theorem cr_minD (hc : X.calm = true) (hu : X.A.units + 64 < cLine) (h : X.K = K := by rfl) : CallRK X (.builtin "min") [Str.ofString "default"] (rMinD K) := by
  subst h
  intro pins s σ H vs zs us ws Q I r rz h
  obtain ⟨a, ns, rfl, rfl, hs, q0, q⟩ := h
  obtain rfl := Vals.ref1 r
  obtain ⟨w1, rfl, e1⟩ := vals1 rz
  obtain rfl : w1 = Value.none := e1
  obtain ⟨its, rv, hl, _⟩ := I.list hs
  obtain ⟨as, hr⟩ := reads_ints (h := s.heap) rv.ints
  show wpAny (model X.prog X.w) X.A (call (.builtin "min") [.ref a] [(Str.ofString "default", .none)]) _ _ _
  refine PySem.W.min_list_default (I.ok.hd hc) hl.isList (vs := its.toArray) (by exact hr) (alike_ints ns) (by have := depth_ints ns; omega) (fun e h' tk hk => ?_) fun y ys i v h' tk bs e hv hrd hk => ?_
  · have e : ns = [] := List.map_eq_nil_iff.mp e
    exact ⟨.non, H, I.kept hk, rfl, q0 e⟩
  · cases ns with
    | nil => cases e
    | cons n ms =>
      obtain ⟨e1, e2⟩ := List.cons.inj e
      subst e1 e2
      rw [PySem.W.minD_ints] at hrd
      cases hrd
      exact ⟨.int _, H, I.kept hk, ⟨_, rfl⟩, q n ms rfl⟩
theorem cr_maxD (hc : X.calm = true) (hu : X.A.units + 64 < cLine) (h : X.K = K := by rfl) : CallRK X (.builtin "max") [Str.ofString "default"] (rMaxD K) := by
  subst h
  intro pins s σ H vs zs us ws Q I r rz h
  obtain ⟨a, ns, rfl, rfl, hs, q0, q⟩ := h
  obtain rfl := Vals.ref1 r
  obtain ⟨w1, rfl, e1⟩ := vals1 rz
  obtain rfl : w1 = Value.none := e1
  obtain ⟨its, rv, hl, _⟩ := I.list hs
  obtain ⟨as, hr⟩ := reads_ints (h := s.heap) rv.ints
  show wpAny (model X.prog X.w) X.A (call (.builtin "max") [.ref a] [(Str.ofString "default", .none)]) _ _ _
  refine PySem.W.max_list_default (I.ok.hd hc) hl.isList (vs := its.toArray) (by exact hr) (alike_ints ns) (by have := depth_ints ns; omega) (fun e h' tk hk => ?_) fun y ys i v h' tk bs e hv hrd hk => ?_
  · have e : ns = [] := List.map_eq_nil_iff.mp e
    exact ⟨.non, H, I.kept hk, rfl, q0 e⟩
  · cases ns with
    | nil => cases e
    | cons n ms =>
      obtain ⟨e1, e2⟩ := List.cons.inj e
      subst e1 e2
      rw [PySem.W.maxD_ints] at hrd
      cases hrd
      exact ⟨.int _, H, I.kept hk, ⟨_, rfl⟩, q n ms rfl⟩
end
end Bw
set_option Elab.async false
set_option linter.all false
set_option maxRecDepth 100000
set_option maxHeartbeats 4000000
/-! ### dicts whose keys are tuples: del, truth -/
namespace Bw
open PySem PySem.Spec PyProof.Rows L2
section
variable {X : Cx} {pins : List (Addr × Obj)} {σ : L2.St} {H : Hp} {s : Shared} {A : Around} {E : Value → Shared → Prop}
theorem kt_there {H : Hp} {kvs : List (List Key × V)} {xs : List (List Key × Addr × Value)} (r : KT H kvs xs) {k : List Key} (l : (valV kvs k).isSome = true) : ∃ p, atKey xs k = some p := by
  have g := r.val k
  cases e : atKey xs k with
  | some p => exact ⟨p, rfl⟩
  | none =>
    rw [e] at g
    cases ev : valV kvs k with
    | none => rw [ev] at l; cases l
    | some v => rw [ev] at g; exact (show False from g).elim
theorem delT {a b : Addr} {kvs : List (List Key × V)} {k : List Key} {Q : Unit → Shared → Prop} (room : A.units + 1 < cLine) (I : L2.Inv X pins σ H s) (ea : H a = some (.dT kvs)) (eb : H b = some (.tup (k.map kV))) (l : (valV kvs k).isSome = true)
    (q : ∀ s', L2.Inv X pins σ (upd H a (.dT (dropK kvs k))) s' → Q () s') : wpAny (model X.prog X.w) A (delItem (.ref a) (.ref b)) Q E s := by
  obtain ⟨z, hd, xs, rel, dd⟩ := dt_of I.hok ea
  obtain ⟨p, hp⟩ := kt_there rel l
  have len : xs.length ≤ sizeLine := (Paired.length rel) ▸ z
  refine wpAny_delItem_heap (tupleKind_room_in1 room) (key_of I.hok eb) hd dd hp (fun h' dd' hs => q _ ?_) len
  obtain ⟨o, es, ep, ho, g1, g2, g3, _, g4⟩ := dd'
  have keep : KT (upd H a (.dT (dropK kvs k))) (dropK kvs k) (withoutH xs k) := (DX.KT_drop k rel).keeps fun c ys ec => by
    rw [upd_ne (ne_of ec ea (fun z => nomatch z))]
    exact ec
  exact d_write I (by rw [ea]; exact True.intro) hs ⟨o, ho⟩ ⟨Nat.le_trans (dropK_le kvs k) z, hd, _, keep, o, es, ep, ho, g1, g2, g3, g4⟩
theorem truT {d : Addr} {kvs : List (List Key × V)} {Q : Bool → Shared → Prop} (I : L2.Inv X pins σ H s) (ed : H d = some (.dT kvs)) (q : ∀ s', L2.Inv X pins σ H s' → Q (!kvs.isEmpty) s') : wpAny (model X.prog X.w) A (truthy (.ref d)) Q E s := by
  obtain ⟨z, hd, xs, rel, dd⟩ := dt_of I.hok ed
  have len : xs.length = kvs.length := (Paired.length rel).symm
  have fit : (xs.length : Int) < 2 ^ 63 := by
    rw [sizeLine_eq] at z
    omega
  have ne : ((xs.length : Int) != 0) = !kvs.isEmpty := by
    rw [len]
    cases kvs with
    | nil => rfl
    | cons a r =>
      show (((r.length + 1 : Nat) : Int) != 0) = true
      rw [bne_iff_ne]
      omega
  have asked : wpAny (model X.prog X.w) A (runValue (.builtin "len" ⟨[.ref d], []⟩)) (fun r s' => (∃ t, r = .int xs.length t) ∧ Q (!kvs.isEmpty) s') E s := by
    refine wpAny_runValue (codeAny_builtin entry_len ?_)
    rw [Around.under_plainId plain_len _]
    have body := wpAny_len_body_dictH (prog := X.prog) (w := X.w) (A := A.in1) (E := E) (s := s) (Q := fun r s' => (∃ t, r = Value.int xs.length t) ∧ Q (!kvs.isEmpty) s') hd dd fit ⟨⟨_, rfl⟩, q _ (I.tok _)⟩
    exact wpAny_mono body (fun fin s' h' => by
      obtain ⟨r, rfl, hq⟩ := h'
      exact hq) fun _ _ e => e
  unfold truthy
  refine wpAny_bind (wpAny_callSpecial?_none (name := Str.ofString "__bool__") dd.typeIs noBool_dict ?_)
  refine wpAny_bind (wpAny_specialOf (name := Str.ofString "__len__") dd.typeIs F.slot_dict_len.lookup ?_)
  refine wpAny_bind (wpAny_mono asked (fun r s' h' => ?_) fun _ _ e => e)
  obtain ⟨⟨t, rfl⟩, hq⟩ := h'
  exact wpAny_pure (ne ▸ hq)
end
def sDelT (td ty : TE) : TS := fun D σ H => td σ H fun x H1 => ty σ H1 fun y H2 => ∃ (a b : Addr) (kvs : List (List Key × V)) (k : List Key), x = .ref a ∧ y = .ref b ∧ H2 a = some (.dT kvs) ∧ H2 b = some (.tup (k.map kV)) ∧ (valV kvs k).isSome = true ∧ D.nx σ (upd H2 a (.dT (dropK kvs k)))
section
variable {X : Cx} {o i a : Expr} {pos tpos : Pos} {td ty ta : TE}
theorem ps_delT (room : X.A.units + 1 < cLine) (ho : PE X o td) (hi : PE X i ty) : PS X (.Delete [.Subscript o i tpos] pos) (sDelT td ty) := by
  constructor
  intro pins s σ H D I h
  refine wpAny_Delete (wpAny_deleteEach_cons (wpAny_delete_Subscript (thn (ho.run pins s σ H _ I h) ?_)))
  rintro u s1 ⟨x, H1, I1, rx, q1⟩
  refine thn (hi.run pins s1 σ H1 _ I1 q1) ?_
  rintro iv s2 ⟨y, H2, I2, ry, d, b, kvs, k, rfl, rfl, ed, eb, l, q2⟩
  cases (show u = Value.ref d from rx)
  cases (show iv = Value.ref b from ry)
  exact delT room I2 ed eb l fun s3 I3 => wpAny_deleteEach_nil ⟨σ, _, I3, q2⟩
def tTruT (ta : TE) : TT := fun σ H Q => ta σ H fun x H' => ∃ (d : Addr) (kvs : List (List Key × V)), x = .ref d ∧ H' d = some (.dT kvs) ∧ Q (!kvs.isEmpty) H'
theorem pt_truT (ha : PE X a ta) (he : ∀ whole, isTrue a X.env whole = (do let v ← whole; standAt a.pos; holding [v] (truthy v))) : PT X a (tTruT ta) := by
  constructor
  intro pins s σ H Q I h
  refine isTrue_plain (thn (ha.run pins s σ H _ I h) ?_) (he _)
  rintro v s1 ⟨x, H1, I1, r1, d, kvs, rfl, ed, q⟩
  cases (show v = Value.ref d from r1)
  exact truT I1 ed fun s' I' => ⟨H1, I', q⟩
end
end Bw
set_option Elab.async false
set_option linter.all false
set_option maxRecDepth 100000
set_option maxHeartbeats 4000000
/-! ### {tuple: value for ..} -/
namespace Bw
open PySem PySem.Spec PyProof.Rows L2
section
variable {X : Cx}
/-- a dict that a comprehension fills, its keys tuples -/
theorem setT {pins : List (Addr × Obj)} {σ : L2.St} {H : Hp} {s : Shared} {E : Value → Shared → Prop} {D b : Addr} {kvs : List (List Key × V)} {k : List Key} {v : V} {r : Value} {Q : Unit → Shared → Prop} (room : X.A.units < cLine) (I : L2.Inv X pins σ H s) (eD : H D = some (.dT kvs)) (eb : H b = some (.tup (k.map kV))) (few : kvs.length < sizeLine) (rv : L2.RelV v r)
    (q : ∀ s', L2.Inv X pins σ (upd H D (.dT (putK kvs k v))) s' → Q () s') : wpAny (model X.prog X.w) X.A (dictSet D (.ref b) r) Q E s := by
  obtain ⟨z, hd, xs, rel, dd⟩ := dt_of I.hok eD
  have len : xs.length ≤ sizeLine := (Paired.length rel) ▸ z
  have more : (putK kvs k v).length ≤ sizeLine := by
    have := length_putK kvs k v
    omega
  refine wpAny_dictSet_heap (knd := tupleKind (mixKind X.prog X.w)) room (key_of I.hok eb) dd (fun h' dd' hs => q _ ?_) len
  obtain ⟨o, es, ep, ho, g1, g2, g3, _, g4⟩ := dd'
  have keep : KT (upd H D (.dT (putK kvs k v))) (putK kvs k v) _ := (rel.put k eb rv).keeps fun c ys ec => by
    rw [upd_ne (ne_of ec eD (fun z => nomatch z))]
    exact ec
  exact d_write I (by rw [eD]; exact True.intro) hs ⟨o, ho⟩ ⟨more, hd, _, keep, o, es, ep, ho, g1, g2, g3, g4⟩
def StepT (J : It) (g : TG) (tt : TT) (tk tv : TE) (vs : List Nat) (σ : L2.St) (D : Addr) (Q : VK) (W : Nat → Nat → Hp → Prop) : Prop := ∀ i m H, W i m H → (J.stop i H ∧ Q (.ref D) H) ∨ (J.go i H ∧ ∃ Nx : Hp → Prop, (∀ H', Nx H' → ∃ m', m' < m ∧ W (i + 1) m' H') ∧
  ∀ x H', J.yld i H x H' → g x (wipe σ vs) H' fun σ2 H2 => wipe σ2 vs = wipe σ vs ∧ tt σ2 H2 fun b H3 => if b = true then tk σ2 H3 fun y H4 => tv σ2 H4 fun z H5 => ∃ (kvs : List (List Key × V)) (k : List Key) (q : Addr), y = .ref q ∧ H5 q = some (.tup (k.map kV)) ∧ H5 D = some (.dT kvs) ∧ kvs.length < sizeLine ∧ Nx (upd H5 D (.dT (putK kvs k z))) else Nx H3)
def tDcT (wi : TI) (g : TG) (tt : TT) (tk tv : TE) (vs : List Nat) : TE := fun σ H Q => wi σ H fun J H1 => ∀ D, H1 D = none → ∃ W : Nat → Nat → Hp → Prop, (∃ m, W 0 m (upd H1 D (.dT []))) ∧ StepT J g tt tk tv vs σ D Q W
abbrev cellsOf (scope : Scope) (env : Env) (n : Nat) : List (Str × Addr) := cellsFrom (n + 1) scope.names (cloFrom env.cells scope.names [])
theorem pe_dcT {kx vx tg iter : Expr} {ifs : List Expr} {scope : Scope} {own : List (Str × Nat)} {pos : Pos} {wi : TI} {g : TG} {tt : TT} {tk tv : TE} (calm : X.calm = true) (room : X.A.units < cLine) (nd : X.N.Nodup) (pi : PI X tg iter wi) (ok : BlkOk X.N X.env.scope scope own)
    (pg : ∀ (s : Shared) (H : Hp) (C : Addr) (cl : List (Str × Addr)) (fp : List Addr), PG (X.blk s H scope (compEnvC scope cl C X.env) fp) tg g)
    (pt : ∀ (s : Shared) (H : Hp) (C : Addr) (cl : List (Str × Addr)) (fp : List Addr), PTs (X.blk s H scope (compEnvC scope cl C X.env) fp) ifs tt)
    (pk : ∀ (s : Shared) (H : Hp) (C : Addr) (cl : List (Str × Addr)) (fp : List Addr), PE (X.blk s H scope (compEnvC scope cl C X.env) fp) kx tk)
    (pv : ∀ (s : Shared) (H : Hp) (C : Addr) (cl : List (Str × Addr)) (fp : List Addr), PE (X.blk s H scope (compEnvC scope cl C X.env) fp) vx tv)
    (nf : ∀ x, foldedSetIterable iter X.env x = pure x := by intro _; rfl) : PE X (.DictComp kx vx [⟨tg, iter, ifs, 0⟩] scope pos) (tDcT wi g tt tk tv (own.map (·.2))) := by
  constructor
  intro pins s σ H Q I h
  rw [arm_eval_DictComp]
  have free : ∀ y ∈ scope.names, y.2 = .free → ∃ c, X.env.cells.lookup y.1 = some c := fun y hy e => (ok.free y hy e).elim (fun k => I.ok.has _ (.inl k)) fun k => I.ok.has _ (.inr k)
  refine wpAny_comprehension_free rfl nf (closure_ok free) ok.kind (fun y hy e => by rw [ok.uniq y hy, e]) (thn (pi.run pins s σ H _ I h) fun xv s1 hx => thn hx ?_)
  rintro itv s2 ⟨it, fp, tn, J, H2, rfl, I2, TN, st2, f2, q⟩
  refine wpAny_newObj_type (newEnv_comp ?_)
  have new : H2 s2.heap.objs.size = none := I2.hok.fresh (Nat.le_refl _)
  obtain ⟨W, ⟨m0, w0⟩, turn⟩ := q _ new
  have old : ∀ b ∈ fp, b < s2.heap.objs.size := fun b hb => (TN.obj _ _ st2 b hb).elim fun o e => Heap.lt_size e.1
  generalize eD : s2.heap.objs.size = D at new w0 turn old
  generalize e3 : ({ s2 with heap := s2.heap.push { cls := .type "dict", data := .dict #[] } } : Shared) = s3
  have hp3 : s3.heap = s2.heap.push { cls := .type "dict", data := .dict #[] } := e3 ▸ rfl
  have I3 : L2.Inv X pins σ (upd H2 D (.dT [])) s3 := by
    subst e3 eD
    exact I2.laid (t' := s2.toks) (fun b o e => Heap.get?_push_of_some _ e) (Nat.le_refl _) (dt_empty s2.heap I2.big)
  have f3 : ∀ b ∈ fp, FpOk X pins (upd H2 D (.dT [])) b ∧ b < s3.heap.objs.size := fun b hb => by
    have lt := old b hb
    have ne : b ≠ D := Nat.ne_of_lt lt
    refine ⟨⟨(upd_ne ne).trans (f2 b hb).1, (f2 b hb).2⟩, ?_⟩
    rw [hp3, Heap.size_push, eD]
    exact Nat.lt_succ_of_lt lt
  have st3 : tn 0 s3.heap := TN.keep _ _ _ st2 fun b _ o e => hp3 ▸ Heap.get?_push_of_some _ e
  have I4 := block_start I3 ok nd f3
  have pg := pg s3 (upd H2 D (.dT [])) s3.heap.objs.size (cellsOf scope X.env s3.heap.objs.size) fp
  have pt := pt s3 (upd H2 D (.dT [])) s3.heap.objs.size (cellsOf scope X.env s3.heap.objs.size) fp
  have pk := pk s3 (upd H2 D (.dT [])) s3.heap.objs.size (cellsOf scope X.env s3.heap.objs.size) fp
  have pv := pv s3 (upd H2 D (.dT [])) s3.heap.objs.size (cellsOf scope X.env s3.heap.objs.size) fp
  show codeAny _ _ (.compStart (.DictComp kx vx [⟨tg, iter, ifs, 0⟩] scope pos) 0 (.ref it) (.ref D) (compEnvC scope (cellsOf scope X.env s3.heap.objs.size) s3.heap.objs.size X.env)) _ { s3 with heap := pushCells (s3.heap.push { cls := .type "dict", data := .dict #[] }) scope.names }
  have none3 : ∀ b ∈ fp, (upd H2 D (.dT [])) b = none := fun b hb => (f3 b hb).1.1
  generalize ec : compEnvC scope (cellsOf scope X.env s3.heap.objs.size) s3.heap.objs.size X.env = ce at I4 pg pt pk pv ⊢
  have loc : ce.locals = s3.heap.objs.size := ec ▸ rfl
  generalize upd H2 D (.dT []) = H3 at I3 I4 pg pt pk pv w0 none3 f3
  generalize e4 : ({ s3 with heap := pushCells (s3.heap.push { cls := .type "dict", data := .dict #[] }) scope.names } : Shared) = s4 at I4 ⊢
  have st4 : tn 0 s4.heap := TN.keep _ _ _ st3 fun b _ o e => e4 ▸ pushCells_keeps _ _ _ _ (Heap.get?_push_of_some _ e)
  have apart : ∀ {σ' : L2.St} {H' : Hp} {s' : Shared}, L2.Inv (X.blk s3 H3 scope ce fp) [] σ' H' s' → (∀ b ∈ fp, H' b = none) → ∀ b ∈ fp, FpOk (X.blk s3 H3 scope ce fp) [] H' b := fun I' n b hb =>
    ⟨n b hb, (I'.ok.exf b hb).1, I'.ok.exfs b hb, .inl hb, fun x c e => (I'.ok.exf b hb).2 x c e, fun p hp => absurd hp (by simp)⟩
  have loop : codeAny (model X.prog X.w) X.A (.compLoop (.DictComp kx vx [⟨tg, iter, ifs, 0⟩] scope pos) 0 (.ref it) (.ref D) ce) (compPost (model X.prog X.w) X.A X.xe none (EP X pins σ Q) (.ref D) s3.heap.objs.size) s4 := by
    refine compLoop_anyD (fun n s' => ∃ i H', L2.Inv (X.blk s3 H3 scope ce fp) [] (wipe σ (own.map (·.2))) H' s' ∧ tn i s'.heap ∧ (∀ b ∈ fp, H' b = none) ∧ W i n H') ?_ m0 ⟨0, H3, I4, st4, none3, w0⟩
    rintro n s5 ⟨i, H5, I5, st5, n5, w5⟩
    rcases turn i n H5 w5 with ⟨stop, qq⟩ | ⟨go, Nx, less, step⟩
    · refine thnF (TN.done (X.blk s3 H3 scope ce fp) rfl rfl rfl calm i [] s5 _ H5 (fun _ _ => False) I5 (apart I5 n5) st5 stop) ?_
      rintro r s6 ⟨rfl, I6⟩
      have I7 : L2.Inv X pins σ H5 s6 := I3.call' (ch := fp) I6.os I6.base I6.hok I6.bare fun b hb => ⟨(f3 b hb).1.2.2.2.1, (f3 b hb).1.2.1, (f3 b hb).1.2.2.2.2.1, (f3 b hb).1.2.2.2.2.2⟩
      have no : H5 s3.heap.objs.size = none := loc ▸ (show H5 ce.locals = none from I6.free)
      obtain ⟨m, hn, _⟩ := I6.loc
      have hn : s6.heap.Ns s3.heap.objs.size m := loc ▸ (show s6.heap.Ns ce.locals m from hn)
      obtain ⟨c0, c1, c2, c3, c4, c5⟩ := I3.fpOk (Nat.le_refl _) no
      exact ⟨m, hn, fun h'' sb => ⟨.ref D, H5, I7.turned (t' := s6.toks) (fun b o hb e => (sb.2 b hb).trans e) c0 c1 c3 c4 c5, rfl, qq⟩⟩
    · refine thnF (TN.item (X.blk s3 H3 scope ce fp) rfl rfl rfl calm i [] s5 _ H5 (fun _ _ => False) I5 (apart I5 n5) st5 go) ?_
      rintro r s6 ⟨u, rfl, h6⟩
      refine thnF h6 ?_
      rintro _ s7 ⟨x, H7, I7, r7, y7, st7, n7⟩
      refine thnF (pg.run _ s7 _ H7 x u _ (I7.pinned (apart I7 n7) (TN.obj _ _ st7)) r7 (step x H7 y7)) ?_
      rintro _ s8 ⟨σ8, H8, I8, hw, q8⟩
      refine thnF (pt.run _ s8 σ8 H8 _ I8 q8) ?_
      rintro b s9 ⟨H9, I9, q9⟩
      have fin : ∀ {s' : Shared} {H' : Hp}, L2.Inv (X.blk s3 H3 scope ce fp) ([] ++ pinsAt fp s7.heap) σ8 H' s' → Nx H' → ∃ m, m < n ∧ ∃ i H', L2.Inv (X.blk s3 H3 scope ce fp) [] (wipe σ (own.map (·.2))) H' s' ∧ tn i s'.heap ∧ (∀ b ∈ fp, H' b = none) ∧ W i m H' := by
        intro s' H' I' nx
        obtain ⟨m', lt, w'⟩ := less H' nx
        have pin : ∀ b ∈ fp, ∀ o, s7.heap.get? b = some o → s'.heap.get? b = some o ∧ H' b = none := fun b hb o e => by
          have z := I'.pin (b, o) (List.mem_append_right _ (List.mem_append_right _ (mem_pinsAt hb e)))
          exact ⟨z.1, z.2.1⟩
        have same : (wipe σ (own.map (·.2))).length = σ8.length := by rw [← hw, wipe_length]
        refine ⟨m', lt, i + 1, H', (I'.unpinned (pins := [])).weak same fun j v e => (wipe_some (hw.symm ▸ e)).1, TN.keep _ _ _ st7 fun b hb o e => (pin b hb o e).1, fun b hb => ?_, w'⟩
        obtain ⟨o, e, _⟩ := TN.obj _ _ st7 b hb
        exact (pin b hb o e).2
      cases b with
      | false =>
        rw [if_neg (by decide)] at q9
        exact fin I9 q9
      | true =>
        rw [if_pos rfl] at q9
        refine thnF (pk.run _ s9 σ8 H9 _ I9 q9) ?_
        rintro z s10 ⟨yk, H10, I10, r10, q10⟩
        refine thnF (pv.run _ s10 σ8 H10 _ I10 q10) ?_
        rintro z2 s11 ⟨yv, H11, I11, r11, kvs, k, qa, rfl, eq, eD11, few, nx⟩
        cases (show z = Value.ref qa from r10)
        exact setT (X := X.blk s3 H3 scope ce fp) room I11 eD11 eq few r11 fun s12 I12 => fin I12 nx
  exact codeAny_compStart_dict loop (TN.self X.A 0 _ _ _ st4 loop)
end
end Bw
set_option Elab.async false
set_option linter.all false
set_option maxRecDepth 100000
set_option maxHeartbeats 4000000
/-! ### name = {tuple: value for ..} on one line, the name a local -/
namespace Bw
open PySem PySem.Spec PyProof.Rows L2
section
variable {X : Cx}
theorem dcT_core {pins : List (Addr × Obj)} {s : Shared} {σ : L2.St} {H : Hp} {Q : VK} {kx vx tg iter : Expr} {ifs : List Expr} {scope : Scope} {own : List (Str × Nat)} {pos pos' : Pos} {wi : TI} {g : TG} {tt : TT} {tk tv : TE} {use : Option (Value → Sem Unit)} {Qf : Value → Shared → Prop} (calm : X.calm = true) (room : X.A.units < cLine) (nd : X.N.Nodup) (I : L2.Inv X pins σ H s) (pi : PI X tg iter wi) (ok : BlkOk X.N X.env.scope scope own)
    (pg : ∀ (s : Shared) (H : Hp) (C : Addr) (cl : List (Str × Addr)) (fp : List Addr), PG (X.blk s H scope (compEnvC scope cl C X.env) fp) tg g)
    (pt : ∀ (s : Shared) (H : Hp) (C : Addr) (cl : List (Str × Addr)) (fp : List Addr), PTs (X.blk s H scope (compEnvC scope cl C X.env) fp) ifs tt)
    (pk : ∀ (s : Shared) (H : Hp) (C : Addr) (cl : List (Str × Addr)) (fp : List Addr), PE (X.blk s H scope (compEnvC scope cl C X.env) fp) kx tk)
    (pv : ∀ (s : Shared) (H : Hp) (C : Addr) (cl : List (Str × Addr)) (fp : List Addr), PE (X.blk s H scope (compEnvC scope cl C X.env) fp) vx tv)
    (nf : ∀ x, foldedSetIterable iter X.env x = pure x) (h : tDcT wi g tt tk tv (own.map (·.2)) σ H Q)
    (hRR : ∀ D C s' m H', L2.Inv X pins σ H' s' → Q (.ref D) H' → s'.heap.Ns C m → FpOk X pins H' C → compPost (model X.prog X.w) X.A X.xe use Qf (.ref D) C (.ok .next) s') :
    wpAny (model X.prog X.w) X.A (comprehension (.DictComp kx vx [⟨tg, iter, ifs, 0⟩] scope pos) scope X.env pos' newDict false (eval iter X.env) use) Qf X.xe s := by
  have free : ∀ y ∈ scope.names, y.2 = .free → ∃ c, X.env.cells.lookup y.1 = some c := fun y hy e => (ok.free y hy e).elim (fun k => I.ok.has _ (.inl k)) fun k => I.ok.has _ (.inr k)
  refine wpAny_comprehension_free (use := use) rfl nf (closure_ok free) ok.kind (fun y hy e => by rw [ok.uniq y hy, e]) (thn (pi.run pins s σ H _ I h) fun xv s1 hx => thn hx ?_)
  rintro itv s2 ⟨it, fp, tn, J, H2, rfl, I2, TN, st2, f2, q⟩
  refine wpAny_newObj_type (newEnv_comp ?_)
  have new : H2 s2.heap.objs.size = none := I2.hok.fresh (Nat.le_refl _)
  obtain ⟨W, ⟨m0, w0⟩, turn⟩ := q _ new
  have old : ∀ b ∈ fp, b < s2.heap.objs.size := fun b hb => (TN.obj _ _ st2 b hb).elim fun o e => Heap.lt_size e.1
  generalize eD : s2.heap.objs.size = D at new w0 turn old
  generalize e3 : ({ s2 with heap := s2.heap.push { cls := .type "dict", data := .dict #[] } } : Shared) = s3
  have hp3 : s3.heap = s2.heap.push { cls := .type "dict", data := .dict #[] } := e3 ▸ rfl
  have I3 : L2.Inv X pins σ (upd H2 D (.dT [])) s3 := by
    subst e3 eD
    exact I2.laid (t' := s2.toks) (fun b o e => Heap.get?_push_of_some _ e) (Nat.le_refl _) (dt_empty s2.heap I2.big)
  have f3 : ∀ b ∈ fp, FpOk X pins (upd H2 D (.dT [])) b ∧ b < s3.heap.objs.size := fun b hb => by
    have lt := old b hb
    have ne : b ≠ D := Nat.ne_of_lt lt
    refine ⟨⟨(upd_ne ne).trans (f2 b hb).1, (f2 b hb).2⟩, ?_⟩
    rw [hp3, Heap.size_push, eD]
    exact Nat.lt_succ_of_lt lt
  have st3 : tn 0 s3.heap := TN.keep _ _ _ st2 fun b _ o e => hp3 ▸ Heap.get?_push_of_some _ e
  have I4 := block_start I3 ok nd f3
  have pg := pg s3 (upd H2 D (.dT [])) s3.heap.objs.size (cellsOf scope X.env s3.heap.objs.size) fp
  have pt := pt s3 (upd H2 D (.dT [])) s3.heap.objs.size (cellsOf scope X.env s3.heap.objs.size) fp
  have pk := pk s3 (upd H2 D (.dT [])) s3.heap.objs.size (cellsOf scope X.env s3.heap.objs.size) fp
  have pv := pv s3 (upd H2 D (.dT [])) s3.heap.objs.size (cellsOf scope X.env s3.heap.objs.size) fp
  show codeAny _ _ (.compStart (.DictComp kx vx [⟨tg, iter, ifs, 0⟩] scope pos) 0 (.ref it) (.ref D) (compEnvC scope (cellsOf scope X.env s3.heap.objs.size) s3.heap.objs.size X.env)) _ { s3 with heap := pushCells (s3.heap.push { cls := .type "dict", data := .dict #[] }) scope.names }
  have none3 : ∀ b ∈ fp, (upd H2 D (.dT [])) b = none := fun b hb => (f3 b hb).1.1
  generalize ec : compEnvC scope (cellsOf scope X.env s3.heap.objs.size) s3.heap.objs.size X.env = ce at I4 pg pt pk pv ⊢
  have loc : ce.locals = s3.heap.objs.size := ec ▸ rfl
  generalize upd H2 D (.dT []) = H3 at I3 I4 pg pt pk pv w0 none3 f3
  generalize e4 : ({ s3 with heap := pushCells (s3.heap.push { cls := .type "dict", data := .dict #[] }) scope.names } : Shared) = s4 at I4 ⊢
  have st4 : tn 0 s4.heap := TN.keep _ _ _ st3 fun b _ o e => e4 ▸ pushCells_keeps _ _ _ _ (Heap.get?_push_of_some _ e)
  have apart : ∀ {σ' : L2.St} {H' : Hp} {s' : Shared}, L2.Inv (X.blk s3 H3 scope ce fp) [] σ' H' s' → (∀ b ∈ fp, H' b = none) → ∀ b ∈ fp, FpOk (X.blk s3 H3 scope ce fp) [] H' b := fun I' n b hb =>
    ⟨n b hb, (I'.ok.exf b hb).1, I'.ok.exfs b hb, .inl hb, fun x c e => (I'.ok.exf b hb).2 x c e, fun p hp => absurd hp (by simp)⟩
  have loop : codeAny (model X.prog X.w) X.A (.compLoop (.DictComp kx vx [⟨tg, iter, ifs, 0⟩] scope pos) 0 (.ref it) (.ref D) ce) (compPost (model X.prog X.w) X.A X.xe use Qf (.ref D) s3.heap.objs.size) s4 := by
    refine compLoop_anyD (fun n s' => ∃ i H', L2.Inv (X.blk s3 H3 scope ce fp) [] (wipe σ (own.map (·.2))) H' s' ∧ tn i s'.heap ∧ (∀ b ∈ fp, H' b = none) ∧ W i n H') ?_ m0 ⟨0, H3, I4, st4, none3, w0⟩
    rintro n s5 ⟨i, H5, I5, st5, n5, w5⟩
    rcases turn i n H5 w5 with ⟨stop, qq⟩ | ⟨go, Nx, less, step⟩
    · refine thnF (TN.done (X.blk s3 H3 scope ce fp) rfl rfl rfl calm i [] s5 _ H5 (fun _ _ => False) I5 (apart I5 n5) st5 stop) ?_
      rintro r s6 ⟨rfl, I6⟩
      have I7 : L2.Inv X pins σ H5 s6 := I3.call' (ch := fp) I6.os I6.base I6.hok I6.bare fun b hb => ⟨(f3 b hb).1.2.2.2.1, (f3 b hb).1.2.1, (f3 b hb).1.2.2.2.2.1, (f3 b hb).1.2.2.2.2.2⟩
      have no : H5 s3.heap.objs.size = none := loc ▸ (show H5 ce.locals = none from I6.free)
      obtain ⟨m, hn, _⟩ := I6.loc
      have hn : s6.heap.Ns s3.heap.objs.size m := loc ▸ (show s6.heap.Ns ce.locals m from hn)
      exact hRR D _ s6 m H5 I7 qq hn (I3.fpOk (Nat.le_refl _) no)
    · refine thnF (TN.item (X.blk s3 H3 scope ce fp) rfl rfl rfl calm i [] s5 _ H5 (fun _ _ => False) I5 (apart I5 n5) st5 go) ?_
      rintro r s6 ⟨u, rfl, h6⟩
      refine thnF h6 ?_
      rintro _ s7 ⟨x, H7, I7, r7, y7, st7, n7⟩
      refine thnF (pg.run _ s7 _ H7 x u _ (I7.pinned (apart I7 n7) (TN.obj _ _ st7)) r7 (step x H7 y7)) ?_
      rintro _ s8 ⟨σ8, H8, I8, hw, q8⟩
      refine thnF (pt.run _ s8 σ8 H8 _ I8 q8) ?_
      rintro b s9 ⟨H9, I9, q9⟩
      have fin : ∀ {s' : Shared} {H' : Hp}, L2.Inv (X.blk s3 H3 scope ce fp) ([] ++ pinsAt fp s7.heap) σ8 H' s' → Nx H' → ∃ m, m < n ∧ ∃ i H', L2.Inv (X.blk s3 H3 scope ce fp) [] (wipe σ (own.map (·.2))) H' s' ∧ tn i s'.heap ∧ (∀ b ∈ fp, H' b = none) ∧ W i m H' := by
        intro s' H' I' nx
        obtain ⟨m', lt, w'⟩ := less H' nx
        have pin : ∀ b ∈ fp, ∀ o, s7.heap.get? b = some o → s'.heap.get? b = some o ∧ H' b = none := fun b hb o e => by
          have z := I'.pin (b, o) (List.mem_append_right _ (List.mem_append_right _ (mem_pinsAt hb e)))
          exact ⟨z.1, z.2.1⟩
        have same : (wipe σ (own.map (·.2))).length = σ8.length := by rw [← hw, wipe_length]
        refine ⟨m', lt, i + 1, H', (I'.unpinned (pins := [])).weak same fun j v e => (wipe_some (hw.symm ▸ e)).1, TN.keep _ _ _ st7 fun b hb o e => (pin b hb o e).1, fun b hb => ?_, w'⟩
        obtain ⟨o, e, _⟩ := TN.obj _ _ st7 b hb
        exact (pin b hb o e).2
      cases b with
      | false =>
        rw [if_neg (by decide)] at q9
        exact fin I9 q9
      | true =>
        rw [if_pos rfl] at q9
        refine thnF (pk.run _ s9 σ8 H9 _ I9 q9) ?_
        rintro z s10 ⟨yk, H10, I10, r10, q10⟩
        refine thnF (pv.run _ s10 σ8 H10 _ I10 q10) ?_
        rintro z2 s11 ⟨yv, H11, I11, r11, kvs, k, qa, rfl, eq, eD11, few, nx⟩
        cases (show z = Value.ref qa from r10)
        exact setT (X := X.blk s3 H3 scope ce fp) room I11 eD11 eq few r11 fun s12 I12 => fin I12 nx
  exact codeAny_compStart_dict loop (TN.self X.A 0 _ _ _ st4 loop)
theorem ps_setDcT {i : Nat} {y : Str} {py : Pos} {kx vx tg iter : Expr} {ifs : List Expr} {scope : Scope} {own : List (Str × Nat)} {pos spos : Pos} {wi : TI} {g : TG} {tt : TT} {tk tv : TE} (calm : X.calm = true) (room : X.A.units < cLine) (nd : X.N.Nodup) (hy : X.N[i]? = some y) (hyl : X.env.scope.names.lookup y = some .local)
    (hsw : swapsWith (.DictComp kx vx [⟨tg, iter, ifs, 0⟩] scope pos) (some (.Name y py)) spos.line X.env = pure true) (pi : PI X tg iter wi) (ok : BlkOk X.N X.env.scope scope own)
    (pg : ∀ (s : Shared) (H : Hp) (C : Addr) (cl : List (Str × Addr)) (fp : List Addr), PG (X.blk s H scope (compEnvC scope cl C X.env) fp) tg g)
    (pt : ∀ (s : Shared) (H : Hp) (C : Addr) (cl : List (Str × Addr)) (fp : List Addr), PTs (X.blk s H scope (compEnvC scope cl C X.env) fp) ifs tt)
    (pk : ∀ (s : Shared) (H : Hp) (C : Addr) (cl : List (Str × Addr)) (fp : List Addr), PE (X.blk s H scope (compEnvC scope cl C X.env) fp) kx tk)
    (pv : ∀ (s : Shared) (H : Hp) (C : Addr) (cl : List (Str × Addr)) (fp : List Addr), PE (X.blk s H scope (compEnvC scope cl C X.env) fp) vx tv)
    (nf : ∀ x, foldedSetIterable iter X.env x = pure x := by intro _; rfl) : PS X (.Assign [.Name y py] (.DictComp kx vx [⟨tg, iter, ifs, 0⟩] scope pos) spos) (tAsg (tDcT wi g tt tk tv (own.map (·.2))) (gName i)) := by
  refine ⟨fun pins s σ H D I h => ?_⟩
  rw [exec_Assign_Name_used _ _ _ _ hsw]
  refine wpAny_bind (wpAny_standAt (wpAny_bind ?_))
  show wpAny _ X.A (do let _ ← comprehension (.DictComp kx vx [⟨tg, iter, ifs, 0⟩] scope pos) scope X.env (firstIterPos [⟨tg, iter, ifs, 0⟩] pos) newDict false (eval iter X.env) (some (assign (.Name y py) X.env))) _ _ s
  have h : tDcT wi g tt tk tv (own.map (·.2)) σ H (fun x H1 => gName i x σ H1 D.nx) := h
  refine wpAny_bind (thn (dcT_core (Qf := fun _ s' => SP X pins D .next s') calm room nd I pi ok pg pt pk pv nf h fun L C s' m H' I' q hn f => ?_) fun _ s' hq => wpAny_pure (wpAny_pure hq))
  show wpAny _ _ (assign (.Name y py) X.env (.ref L)) _ _ _
  refine wpAny_assign_Name (store_ok2 (v := V.ref L) I' nd hy (.inl hyl) rfl (fun s2 I2 ⟨a, sb, ha⟩ => ?_) (.inr hyl))
  obtain ⟨f0, f1, f2, f3, f4, f5⟩ := f
  have haC : C ≠ a := by
    rcases ha with z | z
    · rw [z]; exact f1
    · exact fun e => f4 y a z e.symm
  refine ⟨m, hn.sameBut sb haC, fun h3 sb3 => ?_⟩
  exact ⟨_, H', I2.turned (t' := s2.toks) (fun b o hb e => (sb3.2 b hb).trans e) f0 f1 f3 f4 f5, q⟩
theorem sw_trueD {kx vx : Expr} {gs : List Comprehension} {scope : Scope} {pos py : Pos} {y : Str} {l : Nat} {env : Env} (hk : env.scope.kind = .function) (hy : env.scope.names.lookup y = some .local) (hl : (py.line == pos.line) = true)
    (ha : (scope.names.any fun (n, k) => n == y && (k == .local || k == .cell)) = false) : swapsWith (.DictComp kx vx gs scope pos) (some (.Name y py)) l env = pure true := by
  have ky : env.kindOf y = some .local := hy
  have hb : env.blockKind = .function := by unfold Env.blockKind; rw [hk]; rfl
  unfold swapsWith
  simp only [hb, ky, ha, Expr.pos, hl]
  rfl
end
end Bw
set_option Elab.async false
set_option linter.all false
set_option maxRecDepth 100000
set_option maxHeartbeats 4000000
namespace L2
open PySem PySem.Spec PyProof.Rows
/-! ### len(set(tuple of unlike ints)) -/
def tLenSetT (K : PySem.W.Frag) (ta : TE) : TE := fun σ H Q => ta σ H fun x H1 => ∃ (l : Addr) (ns : List Int), x = V.ref l ∧ SqT K H1 l (ns.map V.int) ∧ ns.length < 64 ∧ ns.Nodup ∧ Q (.int ns.length) H1
theorem nodup_size {l m : List Int} (h1 : l.Nodup) (h2 : m.Nodup) (h : ∀ k, k ∈ l ↔ k ∈ m) : l.length = m.length := ((List.perm_ext_iff_of_nodup h1 h2).mpr h).length_eq
theorem pe_lenSetT {X : Cx} {a : Expr} {ta : TE} {p p2 q pos : Pos} (calm : X.calm = true) (g1 : Gl X "len") (m1 : X.mg "len" = none) (g2 : Gl X "set") (m2 : X.mg "set" = none) (ha : PE X a ta)
    (pa : starEach [a] X.env = (false, eval a X.env) :: starEach [] X.env := by rfl) : PE X (.Call (.Name "len" p) [.Call (.Name "set" p2) [a] [] q] [] pos) (tLenSetT X.K ta) := by
  constructor
  intro pins s σ H Q I h
  refine Call_ (ld_blt I g1 m1 PySem.boot_len ?_)
  refine PyProof.Rows.callWith_builtin1 (PyProof.Rows.args_cons (Call_ (ld_blt I g2 m2 PyProof.Rows.boot_set (PyProof.Rows.callWith_type1 (PyProof.Rows.args_cons (thn (ha.run pins s σ H _ I h) ?_) pa) pa rfl))) rfl) rfl rfl
  rintro v s1 ⟨x, H1, I1, r1, l, ns, rfl, hq, h1, hnd, q1⟩
  refine PyProof.Rows.args_nil ?_
  cases r1
  obtain ⟨its, rv, pt, _⟩ := I1.tuple hq
  refine call_set_tupI ns (I1.ok.hd calm) (show s1.heap.IsTuple l its.toArray from pt) (ints_of_vals rv) (by unfold scanBound; omega) fun h' tk c R1 _ k => ?_
  refine PyProof.Rows.args_nil ?_
  obtain ⟨o, es, ep, t, ho, hex, hdt, _, nd, mm, _, hf, _, _, _⟩ := R1
  have hn : es.size = ns.length := by
    have e := nodup_size nd hnd fun j => by rw [← mm j, decide_eq_true_eq]
    rw [List.length_map, Array.length_toList] at e
    exact e
  have J : Inv X pins σ H1 { s1 with heap := h', toks := tk } := I1.kept k
  exact call_len_set ho hex hdt hf (by rw [hn]; omega) ⟨.int ns.length, H1, J.tok _, ⟨_, by rw [hn]⟩, q1⟩
end L2
set_option Elab.async false
set_option linter.all false
set_option maxRecDepth 100000
set_option maxHeartbeats 4000000
namespace Bw
open PySem PySem.Spec PyProof.Rows L2
/-! ### sep.join(reversed(list)) -/
section
variable {prog : Program} {w : World} {A : Around} {E : Value → Shared → Prop} {s : Shared}
theorem join_rev {it l : Addr} {x : Str} {t : Tok} {items : Array Value} {Q : Value → Shared → Prop} (hh : A.handled = none) (hit : s.heap.IsRevIter it l ((items.size : Int) - 1)) (hl : s.heap.IsList l items) (hne : l ≠ it) (hn : items.size ≤ sizeLine)
    (hstr : ∀ v ∈ items.toList, ∃ y u, v = Value.str y u)
    (hq : ∀ (h' : Heap) (tk : Nat) (l' : List (Str × Tok)), (∀ b o, b ≠ it → s.heap.get? b = some o → h'.get? b = some o) → ItemsOf (fun i v => items[items.size - 1 - i]? = some v) (strValues l').toArray items.size →
      JoinOk x (l'.map (·.1)) = true ∧ ∀ t' k, Q (.str (Txt.join x (l'.map (·.1))) t') { s with heap := h', toks := k }) :
    wpAny (model prog w) A (call (.builtin "str.join") [.str x t, .ref it]) Q E s := by
  refine wpAny_call (codeAny_call_builtin F.slot_str_join.plain F.entry_str_join (F.slot_str_join.check _ _ _ _ _ _ _ _ (typeIs_str _ _ _) (F.args_str_join_2 _ _) ?_))
  rw [join_tree_other]
  refine wpAny_bind (wpAny_typeOf hit.typeIs ?_)
  show wpAny _ A.in1 ((pyIter (.ref it)).tryCatch _ >>= fun it => collect it >>= fun items => joinTail x items) _ _ s
  refine wpAny_bind (wpAny_tryCatch (wpAny_pyIter_revIter hit ?_))
  refine wpAny_bind (RT.collect_rev (A := A.in1) hh hit hl hne hn fun h' tk acc hk hacc => ?_)
  obtain ⟨l', hl'⟩ := exists_strValues acc.toList fun v hv => by
    obtain ⟨j, hj, rfl⟩ := Array.mem_iff_getElem.mp (Array.mem_toList_iff.mp hv)
    have := hacc.2 j _ (Array.getElem?_eq_getElem hj)
    exact hstr _ (Array.mem_toList_iff.mpr (Array.mem_of_getElem? this))
  rw [← hl']
  have hacc' : ItemsOf (fun i v => items[items.size - 1 - i]? = some v) (strValues l').toArray items.size := by rw [hl']; simpa using hacc
  obtain ⟨hok, hpost⟩ := hq h' tk l' hk hacc'
  unfold JoinOk at hok
  rw [Bool.not_eq_true'] at hok
  have g : Gives (joinTail x (strValues l')) (joinMade x l') := by
    have g0 := gives_joinTail x l' hok
    cases l' with
    | nil => exact g0
    | cons p r => cases r with
      | nil => exact g0
      | cons q r' => exact g0
  exact g prog w A (wants Q E) _ (post_join l' ⟨joinFit_length hok, hpost⟩)
end
def tJoinRev (K : PySem.W.Frag) (to te : TE) : TE := fun σ H Q => to σ H fun x H1 => ∃ a : Str, x = .str a ∧ te σ H1 fun v H2 => ∃ (p : Addr) (ys : List Str), v = .ref p ∧ SqL K H2 p (ys.map V.str) ∧ JoinOk a ys.reverse = true ∧ Q (.str (Txt.join a ys.reverse)) H2
theorem vals_strs {ys : List Str} : ∀ {us : List Value}, Vals (ys.map V.str) us → ∀ v ∈ us, ∃ y u, v = Value.str y u := by
  induction ys with
  | nil =>
    intro us r v hv
    cases r
    cases hv
  | cons y ys ih =>
    intro us r v hv
    cases r with
    | cons a b =>
      rcases List.mem_cons.mp hv with rfl | hv
      · obtain ⟨t, e⟩ := a
        exact ⟨y, t, e⟩
      · exact ih b v hv
theorem vals_map {ys : List Str} : ∀ {l : List (Str × Tok)}, Vals (ys.map V.str) (strValues l) → l.map (·.1) = ys := by
  induction ys with
  | nil =>
    intro l r
    cases l with
    | nil => rfl
    | cons a l => cases r
  | cons y ys ih =>
    intro l r
    cases l with
    | nil => cases r
    | cons a l =>
      cases r with
      | cons p q =>
        obtain ⟨t, e⟩ := p
        have e : Value.str a.1 a.2 = Value.str y t := e
        injection e with e1 e2
        rw [List.map_cons, ih q, e1]
theorem pe_joinRev {X : Cx} {K : PySem.W.Frag} {o e : Expr} {to te : TE} {apos pos p2 pos2 : Pos} (hc : X.calm = true) (ho : PE X o to) (hg2 : Gl X "reversed") (hm2 : X.mg "reversed" = none) (he : PE X e te) (hK : X.K = K := by rfl)
    (hs : starEach [e] X.env = (false, eval e X.env) :: starEach [] X.env := by rfl)
    (hs2 : starEach [.Call (.Name "reversed" p2) [e] [] pos2] X.env = [(false, eval (.Call (.Name "reversed" p2) [e] [] pos2) X.env)] := by rfl)
    (hbase : attributeBase o "join" X.env (eval o X.env) = eval o X.env := by rfl) (hline : (apos.endLine == pos.line) = true := by rfl) :
    PE X (.Call (.Attribute o "join" apos) [.Call (.Name "reversed" p2) [e] [] pos2] [] pos) (tJoinRev K to te) := by
  subst hK
  refine ⟨fun pins s σ H Q I h => ?_⟩
  refine PySem.Call_method1 hbase hs2 hline (thn (ho.run pins s σ H _ I h) fun v s1 ⟨x, H1, I1, r1, q1⟩ => ?_)
  obtain ⟨sep, rfl, q1⟩ := q1
  obtain ⟨t, rfl⟩ := _root_.id r1
  refine ⟨"str", _, F.plainAttrs_str, F.slot_str_join, F.type_str_join, typeIs_str _ _ _, (fun _ e => nomatch e), Calls.callWith_builtin rfl (Calls.evalArgs_plain (Calls.spliced_cons ?_))⟩
  refine Call_ (ld_blt I1 hg2 hm2 PyProof.Rows.boot_reversed (PyProof.Rows.callWith_type1 (args_cons (thn (he.run pins s1 σ H1 _ I1 q1) fun u s2 ⟨v, H2, I2, r2, q2⟩ => args_nil ?_) hs) hs rfl))
  obtain ⟨a, ys, ev, hq, hok, q⟩ := q2
  subst ev
  obtain rfl : u = Value.ref a := r2
  obtain ⟨its, rv, p', hz⟩ := I2.list hq
  refine call_reversed_list p'.isList (Calls.spliced_nil ?_)
  have k0 : ∀ b o, s2.heap.get? b = some o → (s2.heap.push (revObj a ((its.toArray.size : Int) - 1))).get? b = some o := fun b o e => Heap.get?_push_of_some _ e
  have I3 : Inv X pins σ H2 { s2 with heap := s2.heap.push (revObj a ((its.toArray.size : Int) - 1)) } := I2.kept (t' := s2.toks) k0
  obtain ⟨f0, f1, f2, f3, f4, f5⟩ := I2.fpOk (H' := H2) (b := s2.heap.objs.size) (Nat.le_refl _) (I2.hok.fresh (Nat.le_refl _))
  have hl := p'.isList
  obtain ⟨ol, hol, _⟩ := id hl
  have hne : a ≠ s2.heap.objs.size := Nat.ne_of_lt (Heap.lt_size hol)
  have hn : its.toArray.size ≤ sizeLine := by rw [List.size_toArray, ← rv.length]; exact hz
  refine join_rev (s := { s2 with heap := s2.heap.push (revObj a ((its.toArray.size : Int) - 1)) }) (I2.ok.hd hc) ⟨_, Heap.get?_push_size _ rfl, rfl, rfl⟩ (hl.push _) hne hn (by rw [List.toList_toArray]; exact vals_strs rv) fun h' tk l' hk hi => ?_
  have rr := RT.vals_rev rv hi
  rw [List.toList_toArray, ← List.map_reverse] at rr
  have el := vals_map rr
  rw [el]
  refine ⟨hok, fun t' k => ?_⟩
  have I4 : Inv X pins σ H2 { s2 with heap := h', toks := k } := I3.turned (t' := k) (fun b o hb e => hk b o hb e) f0 f1 f3 f4 f5
  exact ⟨.str _, H2, I4, ⟨t', rfl⟩, q⟩
/-! ### repr(x), str(x), bool(x) of own instances -/
section
variable {X : Cx} {CX : CXT} {C f : Addr} {fd : FuncData} {ps : List Str} {sp : Sp} {n : Nat} {E : XK}
def rStrOwn (C : Addr) (sp : Sp) (E : XK) : List V → Hp → VK → Prop := fun xs H Q => ∃ a dx fs, xs = [V.ref a] ∧ H a = some (.ins C dx fs) ∧ sp [.ref a] H (fun z H' => ∃ y : Str, z = .str y ∧ Q (.str y) H') E
theorem c_reprOwn (hs : PySem.W.findIn X.K (.ref C) "__repr__" = some (some (.ref f))) (hf : PySem.W.isFn X.K (.ref f) = true) (F : FnOk X.prog X.w X.K X.mg X.base CX n f fd ps sp) (hr : Room (n + 1) X.A) (hb : Binds X.K fd ps []) (hx : Passes CX X E) : CallR X (.builtin "repr") (rStrOwn C sp E) := by
  intro pins s σ H xs us Q I r h
  obtain ⟨a, dx, fs, rfl, ha, q⟩ := h
  obtain ⟨u, rfl, ru⟩ := vals1 r
  obtain rfl : u = Value.ref a := ru
  obtain ⟨mA, J, _⟩ := ins_get I.hok ha
  obtain ⟨od, J, _⟩ := J.look
  obtain ⟨m, hF⟩ := I.fr
  refine PySem.W.repr_K (Nat.lt_of_le_of_lt (Nat.le_add_right _ _) hr.in1.units) hF I.ok.mod.kin J hs hf ?_
  have hl := F.len _ _ _ _ q
  refine wpAny_call (codeAny_mono (F.run X.A.in1 X.stack s H ⟨[.ref a], []⟩ [.ref a] [.ref a] _ E hr.in1 I.env0.in1 (by
    have z := hb s [.ref a] I.kIn (by simpa using hl)
    simpa using z) (.cons rfl .nil) q) fun r s' hq => ?_)
  cases r with
  | error e => exact hx pins σ H s e s' I hq
  | ok fl =>
    cases fl with
    | ret w =>
      obtain ⟨z, H', I', rz, y, ei, qz⟩ := I.after hq
      subst ei
      obtain ⟨t, rfl⟩ := (show ∃ t, w = Value.str y t from rz)
      exact ⟨.str y, H', I', ⟨_, rfl⟩, qz⟩
    | next => exact False.elim hq
    | brk => exact False.elim hq
    | cont => exact False.elim hq
theorem c_strOwn (hs : PySem.W.findIn X.K (.ref C) "__str__" = some (some (.ref f))) (hf : PySem.W.isFn X.K (.ref f) = true) (F : FnOk X.prog X.w X.K X.mg X.base CX n f fd ps sp) (hr : Room (n + 2) X.A) (hb : Binds X.K fd ps []) (hx : Passes CX X E) : CallR X (.type "str") (rStrOwn C sp E) := by
  intro pins s σ H xs us Q I r h
  obtain ⟨a, dx, fs, rfl, ha, q⟩ := h
  obtain ⟨u, rfl, ru⟩ := vals1 r
  obtain rfl : u = Value.ref a := ru
  obtain ⟨mA, J, _⟩ := ins_get I.hok ha
  obtain ⟨od, J, _⟩ := J.look
  obtain ⟨m, hF⟩ := I.fr
  refine PySem.W.kso_call (Nat.lt_of_le_of_lt (Nat.le_add_right _ _) hr.in1.in1.units) I.kIn J hs hf ?_
  have hl := F.len _ _ _ _ q
  refine wpAny_call (codeAny_mono (F.run X.A.in1.in1 X.stack s H ⟨[.ref a], []⟩ [.ref a] [.ref a] _ E hr.in1.in1 I.env0.in1.in1 (by
    have z := hb s [.ref a] I.kIn (by simpa using hl)
    simpa using z) (.cons rfl .nil) q) fun r s' hq => ?_)
  cases r with
  | error e => exact hx pins σ H s e s' I hq
  | ok fl =>
    cases fl with
    | ret w =>
      obtain ⟨z, H', I', rz, y, ei, qz⟩ := I.after hq
      subst ei
      obtain ⟨t, rfl⟩ := (show ∃ t, w = Value.str y t from rz)
      exact ⟨.str y, H', I', ⟨_, rfl⟩, qz⟩
    | next => exact False.elim hq
    | brk => exact False.elim hq
    | cont => exact False.elim hq
/-! ### bool(x) by its len -/
theorem truthy_len {K : PySem.W.Frag} {prog : Program} {w : World} {A : Around} {E : Value → Shared → Prop} {s : Shared} {x C f : Addr} {ox : Obj} {od : Option Obj} {Q : Bool → Shared → Prop} (Y : K.In s.heap) (I : PySem.W.InstAt s.heap x ox C od) (hs : PySem.W.findIn K (.ref C) "__bool__" = some none) (hl : PySem.W.findIn K (.ref C) "__len__" = some (some (.ref f))) (hf : PySem.W.isFn K (.ref f) = true)
    (h : wpAny (model prog w) A.in1 (call (.ref f) [.ref x]) (fun v s' => ∃ n t, v = .int n t ∧ 0 ≤ n ∧ n < 2 ^ 63 ∧ ∀ tk, Q (n != 0) { s' with toks := tk }) E s) : wpAny (model prog w) A (truthy (.ref x)) Q E s := by
  have key : wpAny (model prog w) A (runValue (.builtin "len" ⟨[.ref x], []⟩)) (fun r s' => ∃ n t, r = .int n t ∧ Q (n != 0) s') E s := by
    refine wpAny_runValue (codeAny_builtin entry_len ?_)
    rw [Around.under_plainId plain_len _]
    unfold Builtin.«len»
    refine wpAny_bind (m := oneArg "len" _) (wpAny_pure ?_)
    refine wpAny_bind (m := callSpecial? (.ref x) (Str.ofString "__len__")) (PySem.W.special_fn Y I hl (beq_iff_eq.mp hf) (wpAny_mono h (fun r s' hr => ?_) fun _ _ y => y))
    obtain ⟨n, u, rfl, h0, h1, hq⟩ := hr
    refine wpAny_bind (wpAny_holding (wpAny_pure ?_))
    refine wpAny_bind (wpAny_letGo ?_)
    show wpAny _ _ (if n < 0 then _ else _) _ _ _
    rw [if_neg (by omega)]
    show wpAny _ _ (if n ≥ 2 ^ 63 then _ else _) _ _ _
    rw [if_neg (by omega)]
    exact wpAny_bind (wpAny_mkInt (wpAny_pure ⟨_, _, rfl, hq _⟩))
  unfold truthy
  refine wpAny_bind (m := callSpecial? (.ref x) (Str.ofString "__bool__")) (wpAny_bind (wpAny_bind (I.type.here ((PySem.W.looks_findIn Y hs).here (wpAny_pure ?_)))))
  refine wpAny_bind (wpAny_bind (I.type.here ((PySem.W.looks_findIn Y hl).here ?_)))
  show wpAny _ _ (runValue (.builtin "len" ⟨[.ref x], []⟩) >>= _) _ _ _
  refine wpAny_bind (wpAny_mono key (fun r s' hr => ?_) fun _ _ y => y)
  obtain ⟨n, t, rfl, hq⟩ := hr
  exact wpAny_pure hq
end
end Bw
set_option Elab.async false
set_option linter.all false
set_option maxRecDepth 100000
set_option maxHeartbeats 4000000
namespace Bw
open PySem PySem.Spec PyProof.Rows L2
section
variable {X : Cx} {CX : CXT} {C f : Addr} {fd : FuncData} {ps : List Str} {sp : Sp} {n : Nat} {E : XK}
/-! ### bool(x) by its len -/
def rBoolOwn (C : Addr) (sp : Sp) (E : XK) : List V → Hp → VK → Prop := fun xs H Q => ∃ a dx fs, xs = [V.ref a] ∧ H a = some (.ins C dx fs) ∧ sp [.ref a] H (fun z H' => ∃ i : Int, z = .int i ∧ 0 ≤ i ∧ i < 2 ^ 63 ∧ Q (.bl (i != 0)) H') E
theorem c_boolOwn (hs0 : PySem.W.findIn X.K (.ref C) "__bool__" = some none) (hs : PySem.W.findIn X.K (.ref C) "__len__" = some (some (.ref f))) (hf : PySem.W.isFn X.K (.ref f) = true) (F : FnOk X.prog X.w X.K X.mg X.base CX n f fd ps sp) (hr : Room (n + 3) X.A) (hb : Binds X.K fd ps []) (hx : Passes CX X E) : CallR X (.type "bool") (rBoolOwn C sp E) := by
  intro pins s σ H xs us Q I r h
  obtain ⟨a, dx, fs, rfl, ha, q⟩ := h
  obtain ⟨u, rfl, ru⟩ := vals1 r
  obtain rfl : u = Value.ref a := ru
  obtain ⟨mA, J, _⟩ := ins_get I.hok ha
  obtain ⟨od, J, _⟩ := J.look
  refine callType_codes (T := "bool") (Bi := Builtin.«object.__init__») (Q₁ := fun r s₁ => ∃ b, r = Value.bool b ∧ EP X pins σ Q (.bool b) s₁) PySem.F.called_bool (PySem.F.typeCall_bool_1 _) PySem.F.entry_object_init ?_ ?_
  · refine codeAny_of_tree ?_
    show wpAny _ X.A.in1.in1 (do checkBuiltinCall "bool.__new__" ⟨[.type "bool", .ref a], []⟩; again (.builtin "bool.__new__" ⟨[.type "bool", .ref a], []⟩)) _ _ s
    refine wpAny_bind (wpAny_of_eq (PySem.F.newCall_bool_1 _) (wpAny_pure ⟨plainId_quiet (by decide +kernel) _, codeAny_builtin PySem.F.entry_bool_new ?_⟩))
    rw [Around.under_plainId (by decide +kernel) _]
    unfold Builtin.«bool.__new__»
    refine wpAny_bind (m := isType _) (wpAny_pure ?_)
    refine wpAny_bind (wpAny_of_eq PySem.F.conv_sub_bool ?_)
    refine wpAny_bind (wpAny_pure ?_)
    refine wpAny_bind (wpAny_mono (truthy_len (Q := fun b s₁ => EP X pins σ Q (.bool b) s₁) I.kIn J hs0 hs hf ?_) (fun b s₁ hb => wpAny_pure ⟨b, rfl, hb⟩) fun _ _ y => y)
    have hl := F.len _ _ _ _ q
    refine wpAny_call (codeAny_mono (F.run _ X.stack s H ⟨[.ref a], []⟩ [.ref a] [.ref a] _ E hr.in1.in1.in1 I.env0.in1.in1.in1 (by
      have z := hb s [.ref a] I.kIn (by simpa using hl)
      simpa using z) (.cons rfl .nil) q) fun r s' hq => ?_)
    cases r with
    | error e => exact hx pins σ H s e s' I hq
    | ok fl =>
      cases fl with
      | ret w =>
        obtain ⟨z, H', I', rz, i, ei, i0, i1, qz⟩ := I.after hq
        subst ei
        obtain ⟨t, rfl⟩ := (show ∃ t, w = Value.int i t from rz)
        exact ⟨i, t, rfl, i0, i1, fun tk => ⟨.bl (i != 0), H', I'.tok _, rfl, qz⟩⟩
      | next => exact False.elim hq
      | brk => exact False.elim hq
      | cont => exact False.elim hq
  · rintro obj s₁ ⟨b, rfl, hq⟩
    exact ⟨PySem.typeIs_bool _ _, PySem.F.args_object_init_2 _ _, object_init_meets PySem.F.called_bool.init.lookup PySem.F.called_bool.made (by decide) X.prog X.w X.A.in1 _ s₁ ⟨PySem.typeIs_bool _ _, rfl, hq⟩⟩
/-! ### x == y, x an own instance, y a dict with tuples for keys, or a text -/
theorem own_runV (F : FnOk X.prog X.w X.K X.mg X.base CX n f fd ps sp) (hr : Room n X.A) (hb : Binds X.K fd ps []) (hx : Passes CX X E) {pins : List (Addr × Obj)} {s : Shared} {σ : L2.St} {H : Hp} {a : Addr} {y : V} {u : Value} {Q : Bool → Hp → Prop} (I : L2.Inv X pins σ H s) (ry : L2.RelV y u)
    (q : sp [.ref a, y] H (fun z H' => ∃ c : Bool, z = .bl c ∧ Q c H') E) : wpAny (model X.prog X.w) X.A (call (.ref f) [.ref a, u]) (fun v s' => ∃ (c : Bool) (H' : Hp), v = .bool c ∧ L2.Inv X pins σ H' s' ∧ Q c H') X.xe s := by
  have hl := F.len _ _ _ _ q
  refine wpAny_call (codeAny_mono (F.run X.A X.stack s H ⟨[.ref a, u], []⟩ [.ref a, u] [.ref a, y] _ E hr I.env0 (by
    have z := hb s [.ref a, u] I.kIn (by simpa using hl)
    simpa using z) (.cons rfl (.cons ry .nil)) q) fun r s' hq => ?_)
  cases r with
  | error e => exact hx pins σ H s e s' I hq
  | ok fl =>
    cases fl with
    | ret w =>
      obtain ⟨z, H', I', rz, c, ec, qc⟩ := I.after hq
      subst ec
      obtain rfl : w = Value.bool c := rz
      exact ⟨c, H', rfl, I', qc⟩
    | next => exact False.elim hq
    | brk => exact False.elim hq
    | cont => exact False.elim hq
def rEqOwnV (C : Addr) (sp : Sp) (E : XK) : R2 := fun x y H Q => ∃ a dx fs, x = .ref a ∧ H a = some (.ins C dx fs) ∧ ((∃ y', y = .str y') ∨ ∃ b kvs, y = .ref b ∧ H b = some (.dT kvs)) ∧ sp [.ref a, y] H (fun z H' => ∃ c : Bool, z = .bl c ∧ Q (.bl c) H') E
theorem o_eqOwnV (hnS : PySem.W.notFirst X.K C (.type "str") = true) (hnD : PySem.W.notFirst X.K C (.type "dict") = true) (hs : PySem.W.findIn X.K (.ref C) "__eq__" = some (some (.ref f))) (hf : PySem.W.isFn X.K (.ref f) = true) (F : FnOk X.prog X.w X.K X.mg X.base CX n f fd ps sp) (hr : Room n X.A) (hb : Binds X.K fd ps []) (hx : Passes CX X E) : OpR X (compareOp .Eq) (rEqOwnV C sp E) := by
  intro pins s σ H x y v u Q I rx ry h
  obtain ⟨a, dx, fs, rfl, ha, hy, q⟩ := h
  cases rx
  obtain ⟨mA, J, _⟩ := ins_get I.hok ha
  obtain ⟨od, J, _⟩ := J.look
  obtain ⟨m, hF⟩ := I.fr
  have run := own_runV F hr hb hx I ry q
  have fin : ∀ (v : Value) (s' : Shared), (∃ (c : Bool) (H' : Hp), v = .bool c ∧ L2.Inv X pins σ H' s' ∧ Q (.bl c) H') → PySem.W.CmpBack (EP X pins σ Q) v s' := fun v s' z => by
    obtain ⟨c, H', rfl, I', qc⟩ := z
    exact ⟨.bl c, H', I', rfl, qc⟩
  rcases hy with ⟨y', rfl⟩ | ⟨b, kvs, rfl, eb⟩
  · obtain ⟨t, rfl⟩ := (show ∃ t, u = Value.str y' t from ry)
    show wpAny _ _ (richCompare .Eq (.ref a) (.str y' t)) _ _ _
    exact PySem.W.cmp_K (op := .Eq) (tb := .type "str") hr.units0 hF I.ok.mod.kin J (PySem.W.Looks.of_pure rfl) hnS hs hf (wpAny_mono run fin fun _ _ z => z)
  · obtain rfl : u = Value.ref b := ry
    obtain ⟨_, _, xs, _, o, es, ep, h1, h2, _⟩ := (show ObjOk X.prog X.w H s.heap b (.dT kvs) from I.hok b _ eb)
    show wpAny _ _ (richCompare .Eq (.ref a) (.ref b)) _ _ _
    refine PySem.W.cmp_K (op := .Eq) (tb := .type "dict") hr.units0 hF I.ok.mod.kin J ?_ hnD hs hf (wpAny_mono run fin fun _ _ z => z)
    have : PySem.W.Looks (model X.prog X.w) s.heap (typeOf (.ref b)) o.cls := (PySem.W.Looks.ld (M := model X.prog X.w) (part := none) h1).andThen .now
    rw [← h2.1]
    exact this
end
end Bw
set_option Elab.async false
set_option linter.all false
set_option maxRecDepth 100000
set_option maxHeartbeats 4000000
namespace Bw
open PySem PySem.Spec PyProof.Rows L2
theorem same_empty {prog : Program} {w : World} {A : Around} {E : Value → Shared → Prop} {s : Shared} {nm : String} {a b : Addr} {oa ob : Obj} {es : Array DictEntry} {ep ep' : Nat} {Q : Bool → Shared → Prop} (ha : (a == sysModules) = false) (hb : (b == sysModules) = false)
    (hoa : s.heap.get? a = some oa) (hda : oa.data = .dict es ep) (hob : s.heap.get? b = some ob) (hdb : ob.data = .dict #[] ep') (h : Q (es.size == 0) s) : wpAny (model prog w) A (Builtin.Dict.samePairs nm a b) Q E s := by
  unfold Builtin.Dict.samePairs Builtin.Dict.showsAll
  rw [if_neg (show ¬ (a == sysModules) = true by rw [ha]; exact Bool.false_ne_true), if_neg (show ¬ (b == sysModules) = true by rw [hb]; exact Bool.false_ne_true)]
  refine wpAny_bind (wpAny_pure (wpAny_bind (wpAny_pure ?_)))
  refine wpAny_bind (wpAny_dictEntries hoa hda ?_)
  dsimp only
  refine wpAny_bind (wpAny_dictEntries hob hdb ?_)
  by_cases hsz : es.size = 0
  case neg =>
    rw [if_pos (by simpa using hsz)]
    have hbf : (es.size == 0) = false := by simpa using hsz
    rw [hbf] at h
    exact wpAny_bind (wpAny_rule (wpAny_pure h))
  case pos =>
    have h' : Q true s := by simpa [hsz] using h
    rw [if_neg (by rw [hsz]; simp)]
    refine wpAny_bind (wpAny_dictEpoch hoa hda ?_)
    refine wpAny_bind ?_
    rw [Std.Legacy.Range.forIn_eq_forIn_range', hsz]
    simp only [Std.Legacy.Range.size, Nat.sub_zero, Nat.add_sub_cancel, Nat.div_one, List.range'_zero, List.forIn_nil]
    exact wpAny_pure (wpAny_pure h')
theorem ne_empty {prog : Program} {w : World} {A : Around} {E : Value → Shared → Prop} {s : Shared} {a b : Addr} {oa ob : Obj} {es : Array DictEntry} {ep ep' : Nat} {Q : Value → Shared → Prop} (ha : (a == sysModules) = false) (hb : (b == sysModules) = false)
    (hoa : s.heap.get? a = some oa) (xa : oa.ExactDict) (hda : oa.data = .dict es ep) (hob : s.heap.get? b = some ob) (xb : ob.ExactDict) (hdb : ob.data = .dict #[] ep') (hu : A.units < cLine) (h : Q (.bool (!(es.size == 0))) s) :
    wpAny (model prog w) A (compareOp .NotEq (.ref a) (.ref b)) Q E s := by
  have ta : s.TypeIs (.ref a) "dict" := ⟨oa, hoa, xa.1⟩
  have tb : s.TypeIs (.ref b) "dict" := ⟨ob, hob, xb.1⟩
  refine wpAny_richCompare_same_room (op := .NotEq) ta tb PySem.F.slot_dict_ne (wpAny_call_entry PySem.F.slot_dict_ne ta PySem.F.entry_dict_ne ?_ (PySem.F.args_dict_ne_2 _ _)) hu
  show wpAny _ _ (Builtin.Dict.dictSlotArgs "__ne__" ⟨[.ref a, .ref b], []⟩ >>= _) _ _ s
  refine wpAny_bind ?_
  unfold Builtin.Dict.dictSlotArgs
  refine wpAny_bind (wpAny_notOrdered_dict ta ?_)
  show wpAny _ _ (pure (Value.ref a, Value.ref b)) _ _ s
  refine wpAny_pure ?_
  refine wpAny_bind (wpAny_isInstance (T := "dict") tb PySem.F.sub_dict_dict ?_)
  simp only [Bool.not_true, Bool.false_eq_true, if_false]
  refine wpAny_bind (wpAny_pure (wpAny_bind (wpAny_pure ?_)))
  refine wpAny_bind (same_empty ha hb hoa hda hob hdb ?_)
  refine wpAny_pure ⟨_, rfl, ?_, ?_⟩
  · exact fun x => nomatch x
  · simpa using h
/-- d != {}, d with tuples for keys -/
def rNeD0 : R2 := fun x y H Q => ∃ a b kvs, x = .ref a ∧ y = .ref b ∧ H a = some (.dT kvs) ∧ H b = some (.dT []) ∧ Q (.bl (!(kvs.length == 0))) H
theorem o_neD0 {X : Cx} (hu : X.A.units < cLine) : OpR X (compareOp .NotEq) rNeD0 := by
  intro pins s σ H x y v u Q I rx ry h
  obtain ⟨a, b, kvs, rfl, rfl, ha, hb, q⟩ := h
  cases rx
  cases ry
  obtain ⟨_, sa, xs, kt, o, es, ep, h1, h2, h3, h4, _⟩ := (show ObjOk X.prog X.w H s.heap a (.dT kvs) from I.hok a _ ha)
  obtain ⟨_, sb, ys, kt', o', es', ep', g1, g2, g3, g4, _⟩ := (show ObjOk X.prog X.w H s.heap b (.dT []) from I.hok b _ hb)
  have ly : ys = [] := by
    cases kt'
    rfl
  subst ly
  have e0 : es' = #[] := by
    apply Array.toList_inj.mp
    rw [g4]
    rfl
  subst e0
  have le : es.size = kvs.length := by
    rw [← Array.length_toList, h4, List.length_map]
    exact kt.length.symm
  refine ne_empty sa sb h1 h2 h3 g1 g2 g3 hu ?_
  rw [le]
  exact ⟨.bl _, H, I, rfl, q⟩
end Bw
set_option Elab.async false
set_option linter.all false
set_option maxRecDepth 100000
set_option maxHeartbeats 4000000
namespace Bw
open PySem PySem.Spec PyProof.Rows L2
/-! ### zip of an ascii text and a tuple -/
theorem skeep {h h' : Heap} {it : Addr} {ty : String} {x : Str} {t : Tok} {i : Nat} (st : h.IsStrIter it ty x t i) (k : ∀ o, h.get? it = some o → h'.get? it = some o) : h'.IsStrIter it ty x t i := let ⟨o, e, r⟩ := st; ⟨o, k o e, r⟩
section
variable {P : Program} {w : World} {A : Around} {E : Value → Shared → Prop} {s : Shared} {z TI TO i1 i2 l1 l2 : Addr} {U2 : Nat → Heap → Prop} {Z2 : Array Value → Heap → Prop}
theorem nextOf_str_item {it : Addr} {x : Str} {t : Tok} {i c : Nat} {Q : Value → Shared → Prop} (hit : s.heap.IsStrIter it "str_ascii_iterator" x t i) (hx : x.cps[i]? = some c)
    (hQ : ∀ h', h'.IsStrIter it "str_ascii_iterator" x t (i + 1) → Heap.SameBut it s.heap h' → Q (.str ⟨#[c]⟩ s.toks) { s with heap := h', toks := s.toks + 1 }) :
    wpAny (model P w) A (Builtin.SmallTypes.nextOf (.ref it)) Q E s := by
  obtain ⟨o, ho, hc, hd⟩ := id hit
  unfold Builtin.SmallTypes.nextOf
  refine wpAny_bind (wpAny_callSpecial?_slot (name := Str.ofString "__next__") hit.typeIs F.slot_str_ascii_iterator_next
    (wpAny_call_entry F.slot_str_ascii_iterator_next hit.typeIs F.entry_str_ascii_iterator_next ?_ (F.args_str_ascii_iterator_next_1 _)))
  show wpAny _ _ (field (.ref it) 0 >>= _) _ _ s
  refine wpAny_bind (wpAny_field ho hd (x := .str x t) rfl ?_)
  show wpAny _ _ (field (.ref it) 1 >>= _) _ _ s
  refine wpAny_bind (wpAny_field ho hd (x := .int i 0) rfl ?_)
  simp only [Int.toNat_natCast, hx]
  refine wpAny_bind (wpAny_setField ho hd (by simp) (wpAny_bind (wpAny_mkStr (wpAny_pure ⟨_, rfl, wpAny_pure (hQ _ ?_ (Heap.SameBut.update ..))⟩) (by show 1 ≤ sizeLine; decide))))
  exact ⟨_, Heap.get?_update_self _ ho (Obj.isFreed_of_fields (Obj.data_mapFields hd _)), (Obj.cls_mapFields ..).trans hc, by
    rw [Obj.data_mapFields hd]; simp [rawInt]⟩
theorem zipS_item {k ch : Nat} {X : Str} {T : Tok} {ys : Array Value} {y a b : Value} {Q : Value → Shared → Prop} (S2 : Src P w i2 l2 U2 Z2) (D : ZipApart z TI TO i1 i2 l1 l2)
    (hz : IsZip s.heap z TI TO .none) (hTI : IsPair s.heap TI (.ref i1) (.ref i2)) (hTO : IsPair s.heap TO a b) (h1 : s.heap.IsStrIter i1 "str_ascii_iterator" X T k) (h2 : U2 k s.heap) (hl2 : Z2 ys s.heap) (hx : X.cps[k]? = some ch) (hy : ys[k]? = some y)
    (hQ : ∀ h', IsZip h' z TI TO (rawInt s.heap.objs.size) → IsPair h' TO (.str ⟨#[ch]⟩ s.toks) y → h'.IsStrIter i1 "str_ascii_iterator" X T (k + 1) → U2 (k + 1) h' → IsPair h' s.heap.objs.size (.str ⟨#[ch]⟩ s.toks) y →
      (∀ c o, c ≠ z → c ≠ TO → c ≠ i1 → c ≠ i2 → s.heap.get? c = some o → h'.get? c = some o) → Q (.ref s.heap.objs.size) { s with heap := h', toks := s.toks + 1 }) :
    wpAny (model P w) A (Builtin.«zip.__next__» ⟨[.ref z], []⟩) (fun fin s' => ∃ v, fin = .done (.ret v) ∧ Q v s') E s := by
  show wpAny _ _ (field (Value.ref z) 2 >>= _) _ _ _
  refine wpAny_bind (wpAny_field hz (rfl) (x := .bool false) rfl ?_); show wpAny _ _ (field (Value.ref z) 3 >>= _) _ _ _
  refine wpAny_bind (wpAny_field hz (rfl) (x := .ref TI) rfl ?_); refine wpAny_bind (wpAny_seqItems hTI (rfl) ?_)
  show wpAny _ _ (Builtin.SmallTypes.ownedTupleIsFree (Value.ref z) >>= _) _ _ _
  refine wpAny_bind ?_; unfold Builtin.SmallTypes.ownedTupleIsFree
  refine wpAny_bind (wpAny_field hz (rfl) (x := .none) rfl (wpAny_pure ?_)); simp only [if_true]
  refine wpAny_bind (wpAny_rule ?_); refine wpAny_bind (wpAny_field hz (rfl) (x := .ref TO) rfl ?_)
  refine wpAny_bind (wpAny_setField_rec hz (by simp) fun g1 z1 b1 => ?_); replace z1 : IsZip g1 z TI TO .ellipsis := z1
  refine wpAny_bind ?_; simp only [List.zipIdx_cons, List.zipIdx_nil, List.forIn_cons, List.forIn_nil]
  refine wpAny_bind (wpAny_bind (wpAny_onRaise ?_)); show wpAny _ _ (Builtin.SmallTypes.nextOf (Value.ref i1) >>= _) _ _ _
  refine wpAny_bind (nextOf_str_item (skeep h1 fun o e => b1.extBut _ _ D.i1z e) hx fun g2 u1 b2 => wpAny_pure ?_)
  have p2 : IsPair g2 TO a b := b2.extBut _ _ D.TOi1 (b1.extBut _ _ D.TOz hTO)
  refine wpAny_bind (wpAny_seqItems p2 (rfl) ?_); refine wpAny_bind (wpAny_updateSeq_pair p2 fun g3 p3 b3 => ?_); replace p3 : IsPair g3 TO (.str ⟨#[ch]⟩ s.toks) b := p3
  refine wpAny_bind (wpAny_letGo (wpAny_pure ?_)); refine wpAny_bind (wpAny_bind (wpAny_onRaise ?_)); show wpAny _ _ (Builtin.SmallTypes.nextOf (Value.ref i2) >>= _) _ _ _
  refine wpAny_bind (S2.item _ _ _ k ys y _ (S2.keep _ _ _ h2 fun o e => b3.extBut _ _ D.TOi2.symm (b2.extBut _ _ D.i12.symm (b1.extBut _ _ D.i2z e)))
    (S2.keepS _ _ _ hl2 fun o e => b3.extBut _ _ D.l2TO (b2.extBut _ _ D.l2i1 (b1.extBut _ _ D.l2z e))) hy fun g4 u2 b4 => wpAny_pure ?_)
  have p4 : IsPair g4 TO (.str ⟨#[ch]⟩ s.toks) b := b4.extBut _ _ D.TOi2 p3
  refine wpAny_bind (wpAny_seqItems p4 (rfl) ?_); refine wpAny_bind (wpAny_updateSeq_pair p4 fun g5 p5 b5 => ?_); replace p5 : IsPair g5 TO (.str ⟨#[ch]⟩ s.toks) y := p5
  refine wpAny_bind (wpAny_letGo (wpAny_pure (wpAny_pure ?_))); refine wpAny_bind (wpAny_seqItems p5 (rfl) ?_); refine wpAny_bind (wpAny_newTuple ?_)
  have sz : g5.objs.size = s.heap.objs.size := by rw [b5.1, b4.1, b3.1, b2.1, b1.1]
  have z5 : IsZip g5 z TI TO .ellipsis := b5.extBut _ _ D.TOz.symm (b4.extBut _ _ D.i2z.symm (b3.extBut _ _ D.TOz.symm (b2.extBut _ _ D.i1z.symm z1)))
  have k5 : ∀ c o, c ≠ z → c ≠ TO → c ≠ i1 → c ≠ i2 → s.heap.get? c = some o → g5.get? c = some o := fun c o c1 c2 c3 c4 e => b5.extBut _ _ c2 (b4.extBut _ _ c4 (b3.extBut _ _ c2 (b2.extBut _ _ c3 (b1.extBut _ _ c1 e))))
  have v1 : g5.IsStrIter i1 "str_ascii_iterator" X T (k + 1) := skeep u1 fun o e => b5.extBut _ _ D.TOi1.symm (b4.extBut _ _ D.i12 (b3.extBut _ _ D.TOi1.symm e))
  have v2 : U2 (k + 1) g5 := S2.keep _ _ _ u2 fun o e => b5.extBut _ _ D.TOi2.symm e
  have zl : z < g5.objs.size := Heap.lt_size z5
  show wpAny _ _ (Builtin.SmallTypes.ownedTupleHandOut (Value.ref z) (.ref g5.objs.size) >>= _) _ _ _
  refine wpAny_bind ?_; unfold Builtin.SmallTypes.ownedTupleHandOut
  have z6 : IsZip (g5.push { cls := .type "tuple", data := .seq #[.str ⟨#[ch]⟩ s.toks, y] }) z TI TO .ellipsis := Heap.get?_push_of_some _ z5
  refine wpAny_bind (wpAny_setField_rec z6 (by simp) fun g7 z7 b7 => ?_); replace z7 : IsZip g7 z TI TO (rawInt g5.objs.size) := z7
  refine wpAny_setField_rec z7 (by simp) fun g8 z8 b8 => ?_; replace z8 : IsZip g8 z TI TO (rawInt g5.objs.size) := z8
  have up : ∀ c o, c ≠ z → g5.get? c = some o → g8.get? c = some o := fun c o c1 e => b8.extBut _ _ c1 (b7.extBut _ _ c1 (Heap.get?_push_of_some _ e))
  have p8 : IsPair g8 g5.objs.size (.str ⟨#[ch]⟩ s.toks) y := b8.extBut _ _ (Nat.ne_of_gt zl) (b7.extBut _ _ (Nat.ne_of_gt zl) (Heap.get?_push_size _ rfl))
  rw [sz] at z8 p8
  refine wpAny_pure ⟨_, rfl, ?_⟩; show Q (.ref g5.objs.size) _; rw [sz]
  exact hQ g8 z8 (up _ _ D.TOz p5) (skeep v1 fun o e => up _ o D.i1z e) (S2.keep _ _ _ v2 fun o e => up _ o D.i2z e) p8 fun c o c1 c2 c3 c4 e => up c o c1 (k5 c o c1 c2 c3 c4 e)
theorem zipS_end {k ch : Nat} {X : Str} {T : Tok} {ys : Array Value} {a b : Value} {Q : PySem.Fin → Shared → Prop} (S2 : Src P w i2 l2 U2 Z2) (hh : A.handled = none) (D : ZipApart z TI TO i1 i2 l1 l2)
    (hz : IsZip s.heap z TI TO .none) (hTI : IsPair s.heap TI (.ref i1) (.ref i2)) (hTO : IsPair s.heap TO a b) (h1 : s.heap.IsStrIter i1 "str_ascii_iterator" X T k) (h2 : U2 k s.heap) (hl2 : Z2 ys s.heap) (hx : X.cps[k]? = some ch) (hy : ys[k]? = none)
    (hE : ∀ h' e, (∀ c o, c ≠ z → c ≠ TO → c ≠ i1 → c ≠ i2 → s.heap.get? c = some o → h'.get? c = some o) → (∃ o, h'.get? e = some o ∧ o.cls = .type "StopIteration") → E (.ref e) { s with heap := h', toks := s.toks + 1 }) :
    wpAny (model P w) A (Builtin.«zip.__next__» ⟨[.ref z], []⟩) Q E s := by
  show wpAny _ _ (field (Value.ref z) 2 >>= _) _ _ _
  refine wpAny_bind (wpAny_field hz (rfl) (x := .bool false) rfl ?_); show wpAny _ _ (field (Value.ref z) 3 >>= _) _ _ _
  refine wpAny_bind (wpAny_field hz (rfl) (x := .ref TI) rfl ?_); refine wpAny_bind (wpAny_seqItems hTI (rfl) ?_)
  show wpAny _ _ (Builtin.SmallTypes.ownedTupleIsFree (Value.ref z) >>= _) _ _ _
  refine wpAny_bind ?_; unfold Builtin.SmallTypes.ownedTupleIsFree
  refine wpAny_bind (wpAny_field hz (rfl) (x := .none) rfl (wpAny_pure ?_)); simp only [if_true]
  refine wpAny_bind (wpAny_rule ?_); refine wpAny_bind (wpAny_field hz (rfl) (x := .ref TO) rfl ?_)
  refine wpAny_bind (wpAny_setField_rec hz (by simp) fun g1 z1 b1 => ?_); replace z1 : IsZip g1 z TI TO .ellipsis := z1
  refine wpAny_bind ?_; simp only [List.zipIdx_cons, List.zipIdx_nil, List.forIn_cons, List.forIn_nil]
  refine wpAny_bind (wpAny_bind (wpAny_onRaise ?_)); show wpAny _ _ (Builtin.SmallTypes.nextOf (Value.ref i1) >>= _) _ _ _
  refine wpAny_bind (nextOf_str_item (skeep h1 fun o e => b1.extBut _ _ D.i1z e) hx fun g2 u1 b2 => wpAny_pure ?_)
  have p2 : IsPair g2 TO a b := b2.extBut _ _ D.TOi1 (b1.extBut _ _ D.TOz hTO)
  refine wpAny_bind (wpAny_seqItems p2 (rfl) ?_); refine wpAny_bind (wpAny_updateSeq_pair p2 fun g3 p3 b3 => ?_)
  refine wpAny_bind (wpAny_letGo (wpAny_pure ?_)); refine wpAny_bind (wpAny_bind (wpAny_onRaise ?_)); show wpAny _ _ (Builtin.SmallTypes.nextOf (Value.ref i2) >>= _) _ _ _
  refine wpAny_bind (S2.fin _ _ _ k ys _ hh (S2.keep _ _ _ h2 fun o e => b3.extBut _ _ D.TOi2.symm (b2.extBut _ _ D.i12.symm (b1.extBut _ _ D.i2z e)))
    (S2.keepS _ _ _ hl2 fun o e => b3.extBut _ _ D.l2TO (b2.extBut _ _ D.l2i1 (b1.extBut _ _ D.l2z e))) hy fun g4 e b4 he => ?_)
  obtain ⟨oe, hoe, hce⟩ := he
  have z4 : IsZip g4 z TI TO .ellipsis := b4 _ _ D.i2z.symm (b3.extBut _ _ D.TOz.symm (b2.extBut _ _ D.i1z.symm z1))
  have ez : e ≠ z := fun q => by subst q; rw [z4] at hoe; cases hoe; simp at hce
  refine wpAny_setField_rec z4 (by simp) fun g5 _ b5 => hE g5 e (fun c o c1 c2 c3 c4 q => b5.extBut _ _ c1 (b4 _ _ c4 (b3.extBut _ _ c2 (b2.extBut _ _ c3 (b1.extBut _ _ c1 q))))) ⟨oe, b5.extBut _ _ ez hoe, hce⟩
end
/-- the signs of a text beside what a side tells; the text is the longer one -/
def ItzS (x : Str) (R2 : Hp → List V → Prop) : It :=
  ⟨fun i H => ∃ (ys : List V) (y : V) (ch : Nat), x.cps[i]? = some ch ∧ R2 H ys ∧ ys[i]? = some y,
    fun i H v H' => ∃ T ch y, v = .ref T ∧ H T = none ∧ H' = upd H T (.tup [.str ⟨#[ch]⟩, y]) ∧ x.cps[i]? = some ch ∧ ∀ ys, R2 H ys → ys[i]? = some y,
    fun i H => ∃ (ys : List V) (ch : Nat), R2 H ys ∧ x.cps[i]? = some ch ∧ ys.length ≤ i⟩
theorem turn_zipS {P : Program} {w : World} {K : PySem.W.Frag} {elts : List Expr} {kk : Nat} {tpos : Pos} {x : Str} {t : Tok} {a b z TI TO i1 i2 : Addr} {R2 : Hp → List V → Prop} {U2 : Nat → Heap → Prop} {Z2 : Array Value → Heap → Prop}
    (S2 : Src P w i2 b U2 Z2) (L2' : Side b K R2 Z2) (D : ZipApart z TI TO i1 i2 a b) :
    Turn P w K (.Tuple elts kk tpos) (ItzS x R2) [z, TI, TO, i1, i2] z (fun i h => IsZip h z TI TO .none ∧ IsPair h TI (.ref i1) (.ref i2) ∧ (∃ x y, IsPair h TO x y) ∧ h.IsStrIter i1 "str_ascii_iterator" x t i ∧ U2 i h) where
  mem := by simp
  obj := fun i h st c hc => by
    obtain ⟨hz, hTI, ⟨x, y, hTO⟩, e1, e2⟩ := st
    have e' : c = z ∨ c = TI ∨ c = TO ∨ c = i1 ∨ c = i2 := by simpa using hc
    rcases e' with rfl | rfl | rfl | rfl | rfl
    · exact ⟨_, hz, fun v q => nomatch q⟩
    · exact ⟨_, hTI, fun v q => nomatch q⟩
    · exact ⟨_, hTO, fun v q => nomatch q⟩
    · obtain ⟨o, e, _, d⟩ := e1
      exact ⟨o, e, fun v q => by rw [d] at q; cases q⟩
    · exact S2.obj _ _ e2
  keep := fun i h h' st k => by
    obtain ⟨hz, hTI, ⟨x, y, hTO⟩, h1, h2⟩ := st
    exact ⟨k z (by simp) _ hz, k TI (by simp) _ hTI, ⟨x, y, k TO (by simp) _ hTO⟩, skeep h1 (k i1 (by simp)), S2.keep _ _ _ h2 (k i2 (by simp))⟩
  item := by
    intro X hP hw hK hc i pins s σ H E I hf st hg
    obtain ⟨hz, hTI, ⟨x0, y0, hTO⟩, h1, h2⟩ := st
    obtain ⟨ys, y, ch, hx, hqy, hy⟩ := hg
    obtain ⟨its2, rv2, p2, _⟩ := L2'.get X pins σ H s ys hK I hqy
    obtain ⟨u2, hu2, ru2⟩ := rv2.get hy
    have hzl : z < s.heap.objs.size := Heap.lt_size hz
    have hT : s.TypeIs (.ref z) "zip" := ⟨_, hz, rfl⟩
    unfold pyNext
    refine wpAny_bind (wpAny_attempt (wpAny_callSpecial?_slot (name := Str.ofString "__next__") hT F.slot_zip_next (wpAny_call_entry F.slot_zip_next hT F.entry_zip_next
      (zipS_item S2 D hz hTI hTO h1 h2 p2 (y := u2) hx (by simpa using hu2) fun h' z' TO' h1' h2' hT' hk => wpAny_pure ?_) (F.args_zip_next_1 _))))
    refine ⟨_, rfl, wpAny_letOwnedTupleGo_zip (s := { s with heap := h', toks := s.toks + 1 }) z' fun h'' z'' sb => ?_⟩
    have hT2 : h''.get? s.heap.objs.size = some { cls := .type "tuple", data := .seq #[.str ⟨#[ch]⟩ s.toks, u2] } := ((sb.2 _ (Nat.ne_of_gt hzl)).trans hT')
    subst hP hw hK
    have new : ObjOk X.prog X.w (upd H s.heap.objs.size (.tup [.str ⟨#[ch]⟩, y])) h'' s.heap.objs.size (.tup [.str ⟨#[ch]⟩, y]) := ⟨by show 2 ≤ sizeLine; decide, [.str ⟨#[ch]⟩ s.toks, u2], .cons ⟨_, rfl⟩ (.cons ru2 .nil), ⟨_, hT2, rfl, _, rfl⟩⟩
    have kk' : ∀ (c : Addr) (o : Obj), c ∉ [z, TI, TO, i1, i2] → s.heap.get? c = some o → h''.get? c = some o := fun c o hb q => (sb.2 c (fun q' => hb (by simp [q']))).trans (hk c o (fun q' => hb (by simp [q'])) (fun q' => hb (by simp [q'])) (fun q' => hb (by simp [q'])) (fun q' => hb (by simp [q'])) q)
    have I1 : L2.Inv X pins σ (upd H s.heap.objs.size (.tup [.str ⟨#[ch]⟩, y])) { s with heap := h'', toks := s.toks + 1 } := I.turnedNew (t' := s.toks + 1) (ch := [z, TI, TO, i1, i2]) kk' hf (Nat.le_refl _) new
    refine ⟨.ref s.heap.objs.size, _, I1, rfl, ⟨_, ch, y, rfl, I.hok.fresh (Nat.le_refl _), rfl, hx, fun l hl => ?_⟩, ⟨z'', ?_, ⟨.str ⟨#[ch]⟩ s.toks, u2, ?_⟩, ?_, ?_⟩, fun c hcm => ?_⟩
    · rw [L2'.inj X pins σ H s l ys rfl I hl hqy]
      exact hy
    · exact (sb.2 _ D.TIz).trans ((hk _ _ D.TIz D.TITO D.TIi1 D.TIi2 hTI))
    · exact (sb.2 _ D.TOz).trans TO'
    · exact skeep h1' fun o q => (sb.2 _ D.i1z).trans q
    · exact S2.keep _ _ _ h2' fun o q => (sb.2 _ D.i2z).trans q
    · have hlt : c < s.heap.objs.size := by
        have e' : c = z ∨ c = TI ∨ c = TO ∨ c = i1 ∨ c = i2 := by simpa using hcm
        rcases e' with rfl | rfl | rfl | rfl | rfl
        · exact hzl
        · exact Heap.lt_size hTI
        · exact Heap.lt_size hTO
        · obtain ⟨_, e1, _⟩ := h1; exact Heap.lt_size e1
        · obtain ⟨_, e2, _⟩ := S2.obj _ _ h2; exact Heap.lt_size e2
      rw [upd_ne (Nat.ne_of_lt hlt)]
      exact (hf c hcm).1
  done := by
    intro X hP hw hK hc i pins s σ H E I hf st hg
    obtain ⟨hz, hTI, ⟨x0, y0, hTO⟩, h1, h2⟩ := st
    obtain ⟨ys, ch, hqy, hx, hend⟩ := hg
    obtain ⟨its2, rv2, p2, _⟩ := L2'.get X pins σ H s ys hK I hqy
    have l2 := rv2.length
    have he : its2.toArray[i]? = none := by simp; omega
    have hT : s.TypeIs (.ref z) "zip" := ⟨_, hz, rfl⟩
    unfold pyNext
    refine wpAny_bind (wpAny_attempt (wpAny_callSpecial?_slot (name := Str.ofString "__next__") hT F.slot_zip_next
      (wpAny_call_entry F.slot_zip_next hT F.entry_zip_next (zipS_end S2 (I.ok.hd hc) D hz hTI hTO h1 h2 p2 hx he fun h' e hk he => ?_) (F.args_zip_next_1 _))))
    obtain ⟨o, ho, hc'⟩ := he
    refine wpAny_bind (wpAny_isInstance (T := "StopIteration") (b := true) ⟨o, ho, hc'⟩ isSubtype_stop ?_)
    refine wpAny_pure ⟨rfl, I.turnedL (t' := s.toks + 1) (ch := [z, TI, TO, i1, i2]) (fun c o hb q => hk c o (fun q' => hb (by simp [q'])) (fun q' => hb (by simp [q'])) (fun q' => hb (by simp [q'])) (fun q' => hb (by simp [q'])) q) hf⟩
  self := fun A i s Q E st h => wpAny_pyIter_zip st.1 h
/-! ### zip of a text and a tuple made -/
abbrev zST1 (h : Heap) (x : Str) (t : Tok) : Heap := h.push { cls := .type "str_ascii_iterator", data := .fields #[.str x t, .int 0 0] }
abbrev zST2 (h : Heap) (x : Str) (t : Tok) (l2 : Addr) : Heap := (zST1 h x t).push { cls := .type "tuple_iterator", data := .fields #[.ref l2, .int 0 0] }
abbrev zST3 (h : Heap) (x : Str) (t : Tok) (l2 : Addr) : Heap := (zST2 h x t l2).push { cls := .type "tuple", data := .seq #[.ref h.objs.size, .ref (zST1 h x t).objs.size] }
abbrev zST4 (h : Heap) (x : Str) (t : Tok) (l2 : Addr) : Heap := (zST3 h x t l2).push { cls := .type "tuple", data := .seq #[.none, .none] }
abbrev zST5 (h : Heap) (x : Str) (t : Tok) (l2 : Addr) : Heap := (zST4 h x t l2).push { cls := .type "zip", data := .fields #[.none, .bool false, .bool false, .ref (zST2 h x t l2).objs.size, .ref (zST3 h x t l2).objs.size] }
theorem new_zST (x : Str) (t : Tok) (l2 : Addr) (ys : Array Value) (hx : x.cps.all (· < 128) = true) : Meets (Builtin.«zip.__new__» ⟨[.type "zip", .str x t, .ref l2], []⟩) (fun _ R s => s.heap.IsTuple l2 ys ∧ R (.ok (.ret (.ref (zST4 s.heap x t l2).objs.size))) { s with heap := zST5 s.heap x t l2 }) :=
  .of_wp fun prog w A R s h => by
    obtain ⟨hp, g, d, tk, os⟩ := s
    obtain ⟨k2, h⟩ := h
    have hsub := sub_zip
    have e2 : Heap.IsTuple (Shared.heap ⟨hp.push { cls := .type "str_ascii_iterator", data := .fields #[.str x t, .int 0 0] }, g, d, tk, os⟩) l2 ys := Heap.IsTuple.push k2 _
    wp_walk using wpAny_pyIter_ascii hx, wpAny_pyIter_tuple e2
    exact ⟨_, rfl, h⟩
section
variable {P : Program} {w : World} {A : Around} {E : Value → Shared → Prop} {s : Shared}
theorem call_zST {x : Str} {t : Tok} {l2 : Addr} {ys : Array Value} {Q : Value → Shared → Prop} (hx : x.cps.all (· < 128) = true) (k2 : s.heap.IsTuple l2 ys)
    (h : ∀ h', IsZip h' (s.heap.objs.size + 4) (s.heap.objs.size + 2) (s.heap.objs.size + 3) .none → IsPair h' (s.heap.objs.size + 2) (.ref s.heap.objs.size) (.ref (s.heap.objs.size + 1)) → IsPair h' (s.heap.objs.size + 3) .none .none →
      h'.IsStrIter s.heap.objs.size "str_ascii_iterator" x t 0 → h'.IsTupleIter (s.heap.objs.size + 1) l2 0 → (∀ c o, s.heap.get? c = some o → h'.get? c = some o) → Q (.ref (s.heap.objs.size + 4)) { s with heap := h' }) :
    wpAny (model P w) A (call (.type "zip") [.str x t, .ref l2]) Q E s := by
  refine callType_new F.called_zip (by decide) (F.typeCall_zip_2 _ _) (F.newCall_zip_2 _ _) (fun obj => F.args_object_init_3 obj _ _) F.entry_zip_new (new_zST x t l2 ys hx) ⟨k2, ?_⟩
  have z1 : (zST1 s.heap x t).objs.size = s.heap.objs.size + 1 := Heap.size_push ..
  have z2 : (zST2 s.heap x t l2).objs.size = s.heap.objs.size + 2 := by rw [Heap.size_push, z1]
  have z3 : (zST3 s.heap x t l2).objs.size = s.heap.objs.size + 3 := by rw [Heap.size_push, z2]
  have z4 : (zST4 s.heap x t l2).objs.size = s.heap.objs.size + 4 := by rw [Heap.size_push, z3]
  have g5 : (zST5 s.heap x t l2).get? (zST4 s.heap x t l2).objs.size = some _ := Heap.get?_push_size _ rfl
  have g4 : (zST5 s.heap x t l2).get? (zST3 s.heap x t l2).objs.size = some _ := Heap.get?_push_of_some _ (Heap.get?_push_size _ rfl)
  have g3 : (zST5 s.heap x t l2).get? (zST2 s.heap x t l2).objs.size = some _ := Heap.get?_push_of_some _ (Heap.get?_push_of_some _ (Heap.get?_push_size _ rfl))
  have g2 : (zST5 s.heap x t l2).get? (zST1 s.heap x t).objs.size = some _ := Heap.get?_push_of_some _ (Heap.get?_push_of_some _ (Heap.get?_push_of_some _ (Heap.get?_push_size _ rfl)))
  have g1 : (zST5 s.heap x t l2).get? s.heap.objs.size = some _ := Heap.get?_push_of_some _ (Heap.get?_push_of_some _ (Heap.get?_push_of_some _ (Heap.get?_push_of_some _ (Heap.get?_push_size _ rfl))))
  show _ ∧ _
  rw [z2, z3, z4] at g5; rw [z1, z2] at g3; rw [z3] at g4; rw [z1] at g2; rw [z4]
  exact ⟨⟨_, g5, rfl⟩, h _ g5 g3 g4 ⟨_, g1, rfl, rfl⟩ ⟨_, g2, rfl, rfl⟩ fun c o x => Heap.get?_push_of_some _ (Heap.get?_push_of_some _ (Heap.get?_push_of_some _ (Heap.get?_push_of_some _ (Heap.get?_push_of_some _ x))))⟩
end
def iZipS (K : PySem.W.Frag) (ta : TA) : TI := fun σ H R => ta σ H fun vs H1 => ∃ x b ys, vs = [.str x, .ref b] ∧ x.cps.all (· < 128) = true ∧ SqT K H1 b ys ∧ R (ItzS x (fun H xs => SqT K H b xs)) H1
theorem p_zipS {X : Cx} {K : PySem.W.Frag} {e e2 : Expr} {ta : TA} {p pos tpos : Pos} {elts : List Expr} {kk : Nat} (hg : Gl X "zip") (hm : X.mg "zip" = none) (ha : PA X [e, e2] ta) (hK : X.K = K := by rfl)
    (hs : starEach [e, e2] X.env = (false, eval e X.env) :: starEach [e2] X.env := by rfl) (hpl : (backTo pos (starEach [e2] X.env)).any (·.1) = false := by rfl) : PI X (.Tuple elts kk tpos) (.Call (.Name "zip" p) [e, e2] [] pos) (iZipS K ta) := by
  subst hK
  refine ⟨fun pins s σ H R I h => ?_⟩
  refine Call_ (ld_blt I hg hm PyProof.Rows.boot_zip (PyProof.Rows.callWith_type1 (thn (ha.run pos pins s σ H _ I h) fun us s1 ⟨vs, H1, I1, r1, q1⟩ => ?_) hs hpl))
  obtain ⟨x, b, ys, rfl, hx, hqy, q⟩ := q1
  obtain ⟨t, rfl⟩ : ∃ t, us = [.str x t, .ref b] := by
    cases r1 with
    | cons r rr =>
      cases rr with
      | cons r' rr =>
        cases rr
        obtain ⟨t, rfl⟩ := r
        cases r'
        exact ⟨t, rfl⟩
  have fresh5 : ∀ c, c ∈ [s1.heap.objs.size + 4, s1.heap.objs.size + 2, s1.heap.objs.size + 3, s1.heap.objs.size, s1.heap.objs.size + 1] → FpOk X pins H1 c := fun c hcm => by
    have hle : s1.heap.objs.size ≤ c := by
      simp only [List.mem_cons, List.not_mem_nil, or_false] at hcm
      omega
    exact I1.fpOk hle (I1.hok.fresh hle)
  obtain ⟨its2, rv2, p2, lb⟩ := (side_tup (a := b)).get X pins σ H1 s1 ys rfl I1 hqy
  refine call_zST hx p2 fun h' hz hTI hTO h1 h2 hk => wpAny_pyIter_zip hz ?_
  have I2 : L2.Inv X pins σ H1 { s1 with heap := h' } := I1.kept (t' := s1.toks) hk
  exact ⟨s1.heap.objs.size + 4, [s1.heap.objs.size + 4, s1.heap.objs.size + 2, s1.heap.objs.size + 3, s1.heap.objs.size, s1.heap.objs.size + 1], _, _, H1, rfl, I2, turn_zipS src_tup side_tup (PySem.W.ktu_apart s1.heap.objs.size b b lb lb), ⟨hz, hTI, ⟨_, _, hTO⟩, h1, h2⟩, fresh5, q⟩
theorem walk_zipS {K : PySem.W.Frag} {x : Str} {b : Addr} {ys : List V} (hn : ys.length < x.cps.size) : Walk (ItzS x (fun H zs => SqT K H b zs)) ys.length (fun H => SqT K H b ys) (fun i H v H' => ∃ T ch y, v = .ref T ∧ H T = none ∧ H' = upd H T (.tup [.str ⟨#[ch]⟩, y]) ∧ x.cps[i]? = some ch ∧ ys[i]? = some y) := by
  refine ⟨fun i _ hi q => ?_, fun _ q => ?_, fun i H v H' _ q y => ?_⟩
  · have k1 : i < x.cps.size := by omega
    exact ⟨ys, ys[i], x.cps[i], by simp [k1], q, by simp [hi]⟩
  · exact ⟨ys, x.cps[ys.length], q, by simp [hn], Nat.le_refl _⟩
  · obtain ⟨T, ch, y, k1, k2, k3, k4, k5⟩ := y
    exact ⟨T, ch, y, k1, k2, k3, k4, k5 ys q⟩
end Bw
set_option Elab.async false
set_option linter.all false
set_option maxRecDepth 100000
set_option maxHeartbeats 4000000
namespace Bw
open PySem PySem.Spec PyProof.Rows L2
section
variable {X : Cx}
theorem pe_gstr {x : Str} {pos : Pos} {y : Str} (hg : Gl X x) (hm : ∃ t, X.mg x = some (.str y t)) (hdb : (x == ("__debug__" : Str)) = false := by decide) : PE X (.Name x pos) (tC (.str y)) := by
  obtain ⟨t, hm⟩ := hm
  exact pe_glob hg hm ⟨t, rfl⟩ (hd := hdb)
def rJoin (K : PySem.W.Frag) : V → List V → Hp → VK → Prop := fun x xs H Q => ∃ a p, ∃ ys : List Str, x = .str a ∧ xs = [.ref p] ∧ (SqL K H p (ys.map V.str) ∨ SqT K H p (ys.map V.str)) ∧ (ys.map (·.length)).sum + ys.length * a.length ≤ 16777216 ∧ Q (.str (Txt.join a ys)) H
theorem p_join {K : PySem.W.Frag} {o e : Expr} {to te : TE} {apos pos : Pos} (ho : PE X o to) (he : PE X e te) (hK : X.K = K := by rfl) (hs : starEach [e] X.env = [(false, eval e X.env)] := by rfl) (hbase : attributeBase o "join" X.env (eval o X.env) = eval o X.env := by rfl) (hline : (apos.endLine == pos.line) = true := by rfl) :
    PE X (.Call (.Attribute o "join" apos) [e] [] pos) (tM1 (rJoin K) to te) := by
  subst hK
  exact pe_join ho he hs hbase hline
end
theorem join_len : ∀ ys : List Str, (Txt.join ("" : Str) ys).length ≤ (ys.map (·.length)).sum := by
  intro ys
  rw [show Txt.join ("" : Str) ys = Str.join ("" : Str) ys from StrLaws.glued_eq_join _ _]
  have h0 : (("" : Str)).length = 0 := by decide
  have : ∀ ys : List Str, (Str.join ("" : Str) ys).length ≤ (ys.map (·.length)).sum := by
    intro ys
    induction ys with
    | nil => exact Nat.zero_le _
    | cons a r ih =>
      cases r with
      | nil =>
        show a.length ≤ a.length + 0
        omega
      | cons b r =>
        show (a ++ ("" : Str) ++ Str.join ("" : Str) (b :: r)).length ≤ _
        rw [Str.length_append, Str.length_append, h0, List.map_cons, List.sum_cons]
        omega
  exact this ys
theorem sum_le {ys : List Str} {m : Nat} (h : ∀ y ∈ ys, y.length ≤ m) : (ys.map (·.length)).sum ≤ ys.length * m := by
  induction ys with
  | nil => exact Nat.zero_le _
  | cons a r ih =>
    rw [List.map_cons, List.sum_cons, List.length_cons, Nat.succ_mul]
    have := ih fun y hy => h y (List.mem_cons_of_mem _ hy)
    have := h a (List.mem_cons_self ..)
    omega
theorem joinok {sep : Str} {ys : List Str} (h : (ys.map (·.length)).sum + ys.length * sep.length ≤ 16777216) : JoinOk sep ys = true := by
  unfold JoinOk
  rw [StrLaws.joinTotal]
  unfold Builtin.Str.tooLong
  rw [decide_eq_false (by rw [sizeLine_eq]; omega)]
  rfl
theorem log_lt {n k : Nat} (hk : 0 < k) (h : n < 2 ^ k) : n.log2 < k := by
  by_cases z : n = 0
  · subst z
    exact hk
  · exact (Nat.log2_lt z).mpr h
end Bw
set_option Elab.async false
set_option linter.all false
set_option maxRecDepth 100000
set_option maxHeartbeats 4000000
namespace Bw
open PySem PySem.Spec PyProof.Rows L2
/-! ### o.m(k=v): a method called by one keyword -/
def tMethK (C : Addr) (m : Str) (sp : Sp) (gV : List V → List V → List V) (E : XK) (ta : TE) (tk : TA) : TE := fun σ H Q => ta σ H fun x H1 => ∃ a dx fs, x = .ref a ∧ H1 a = some (.ins C dx fs) ∧ fs.lookup m = none ∧ tk σ H1 fun zs H2 => sp (gV [x] zs) H2 Q E
theorem pe_methK0 {X : Cx} {CX : CXT} {k : Nat} {C f : Addr} {fd : FuncData} {ps ks : List Str} {sp : Sp} {E : XK} {m : Str} {o : Expr} {ta : TE} {apos pos : Pos} {kws : List Keyword} {tk : TA} {g : List Value → List Value → List Value} {gV : List V → List V → List V} {pl : Sem Bool}
    (he : PE X o ta) (c : Cls X.K C) (hm : Meth X.K C m f) (F : FnOk X.prog X.w X.K X.mg X.base CX k f fd ps sp) (hr : Room k X.A) (hb : KBinds X.K fd ps ks g gV) (hx : Passes CX X E)
    (hkw : PK X kws tk) (hall : (backToKw pos (keywordEach kws X.env)).all (·.1.isSome) = true := by rfl) (hks : (backToKw pos (keywordEach kws X.env)).filterMap (·.1) = ks := by rfl)
    (hpl : ((backTo pos (starEach [] X.env)).any (·.1) || (backToKw pos (keywordEach kws X.env)).any (·.1.isNone)) = false := by rfl)
    (ht : eval (.Call (.Attribute o m apos) [] kws pos) X.env = (do
      let ov ← eval o X.env
      standAt apos.atName
      let (f, first) ← holding [ov] (getMethod ov m pl)
      callWith pos f first (backTo pos (starEach [] X.env)) (backToKw pos (keywordEach kws X.env))) := by rfl) :
    PE X (.Call (.Attribute o m apos) [] kws pos) (tMethK C m sp gV E ta tk) := by
  refine ⟨fun pins s σ H Q I h => ?_⟩
  refine PySem.W.methodCall_KW (pl := pl) (thn (he.run pins s σ H _ I h) fun u s1 ⟨x, H1, I1, rx, a, dx, fs, ex, ea, l, q⟩ => ?_) ht
  subst ex
  obtain rfl : u = Value.ref a := rx
  refine getmeth_ok I1 ea c hm l ?_
  refine PySem.W.callWith_KW0 (h₀ := X.base) (first := [.ref a]) I.ok.mod.kin hm.kp hall (thn (hkw.run pos pins s1 σ H1 _ I1 q) fun ws s2 ⟨zs, H2, I2, rz, q2⟩ => ⟨I2.kIn, ?_⟩) hpl
  rw [hks]
  exact run_fnk (us := [.ref a]) (vs := [.ref a]) F hr hb hx I2 (.cons rfl .nil) rz q2
/-! ### {k: v}, k a tuple -/
def tDisp1T (tk tv : TE) : TE := fun σ H Q => ∀ p, H p = none → tk σ (upd H p (.dT [])) fun x H1 => tv σ H1 fun y H2 => H2 p = some (.dT []) ∧ ∃ (b : Addr) (q : List Key), x = .ref b ∧ H2 b = some (.tup (q.map kV)) ∧ Q (.ref p) (upd H2 p (.dT [(q, y)]))
theorem pe_disp1T {X : Cx} {pos : Pos} {k v : Expr} {tk tv : TE} (hu : X.A.units < cLine) (hk : PE X k tk) (hv : PE X v tv) : PE X (.Dict [some k] [v] pos) (tDisp1T tk tv) := by
  refine ⟨fun pins s σ H Q I q => ?_⟩
  have hn := I.hok.fresh (Nat.le_refl s.heap.objs.size)
  have I1 := I.laid (a := s.heap.objs.size) (o := .dT []) (h' := s.heap.push { cls := .type "dict", data := .dict #[] }) (t' := s.toks) (fun _ _ q => Heap.get?_push_of_some _ q) (Nat.le_refl _) (dt_empty s.heap I.big)
  have h : PPs X pos [some k] [v] [(tk, tv)] := pps_cons hk hv pps_nil
  let Qp : List (V × V) → Hp → Prop := fun ps H2 => match ps with
    | [(x, y)] => H2 s.heap.objs.size = some (.dT []) ∧ ∃ (b : Addr) (q : List Key), x = .ref b ∧ H2 b = some (.tup (q.map kV)) ∧ Q (.ref s.heap.objs.size) (upd H2 s.heap.objs.size (.dT [(q, y)]))
    | _ => False
  have rd : tPairs [(tk, tv)] σ (upd H s.heap.objs.size (.dT [])) Qp := q _ hn
  rw [arm_eval_Dict, zip_pairTrees [some k] [v] X.env pos rfl rfl, dictDisplay_pairs _ (by simp [pairTrees]) (by show 1 < 17; decide)]
  refine wpAny_bind (wpAny_standAt (wpAny_bind ?_))
  unfold subDict
  refine wpAny_bind (wpAny_alloc ?_)
  refine wpAny_bind (wpAny_holding ?_)
  rw [if_pos (by show 1 ≤ 15; decide)]
  refine wpAny_bind (thn (h.run pins _ σ _ _ I1 rd) fun ws s2 ⟨ps, H2, I2, rel, qp⟩ => ?_)
  obtain ⟨b, qk, y, ep, e, eb, q2⟩ : ∃ (b : Addr) (qk : List Key) (y : V), ps = [(.ref b, y)] ∧ H2 s.heap.objs.size = some (.dT []) ∧ H2 b = some (.tup (qk.map kV)) ∧ Q (.ref s.heap.objs.size) (upd H2 s.heap.objs.size (.dT [(qk, y)])) := by
    match ps, qp with
    | [(x, y)], qp =>
      obtain ⟨e, b, qk, rfl, eb, q2⟩ := qp
      exact ⟨b, qk, y, rfl, e, eb, q2⟩
  subst ep
  obtain ⟨u, r, rfl, hur⟩ : ∃ u r, ws = [(u, r)] ∧ RelV (.ref b) u ∧ RelV y r := by
    cases rel with
    | cons h t =>
      cases t
      exact ⟨_, _, rfl, h⟩
  obtain ⟨ru, rr⟩ := hur
  obtain rfl : u = Value.ref b := ru
  refine wpAny_holding ?_
  rw [List.forIn_cons]
  obtain ⟨z, hd, xs, rel2, dd⟩ := dt_of I2.hok e
  have hx : xs = [] := by
    cases rel2
    rfl
  subst hx
  refine wpAny_bind (wpAny_bind (wpAny_bind (wpAny_dictSet_heap (hsz := Nat.zero_le _) (knd := tupleKind (mixKind X.prog X.w)) (show X.A.units < cLine from hu) (key_of I2.hok eb) dd fun h' dd' hs => wpAny_pure ?_)))
  show wpAny _ _ (forIn ([] : List (Value × Value)) PUnit.unit _) _ _ _
  rw [List.forIn_nil]
  refine wpAny_pure (wpAny_pure (wpAny_pure (wpAny_pure ?_)))
  obtain ⟨qo, es, ep, hq, h2, h3, h4, _, h5⟩ := dd'
  refine ⟨.ref s.heap.objs.size, _, ?_, rfl, q2⟩
  refine d_write I2 (by rw [e]; exact True.intro) hs ⟨qo, hq⟩ ⟨by show 1 ≤ sizeLine; decide, hd, _, (KT.put rel2 qk eb rr).keeps fun c ys ec => ?_, qo, es, ep, hq, h2, h3, h4, h5⟩
  rw [upd_ne (ne_of ec e (fun z => nomatch z))]
  exact ec
end Bw
set_option Elab.async false
set_option linter.all false
set_option maxRecDepth 100000
namespace Bw
open PySem PySem.Spec PyProof.Rows L2
def topS (i : Nat) : Stmt := PySem.Challenge.pw_budwright_k36_whole_friezes_are_whole.main.body.getD i (.Pass ⟨0, 0, 0, 0⟩)
structure Tx (mg : Str → Option Value) : Prop where
  len : mg "len" = none
  range : mg "range" = none
  zip : mg "zip" = none
  abs : mg "abs" = none
  all : mg "all" = none
  any : mg "any" = none
  max : mg "max" = none
  min : mg "min" = none
  sorted : mg "sorted" = none
  isinstance : mg "isinstance" = none
  int : mg "int" = none
  bool : mg "bool" = none
  tuple : mg "tuple" = none
  list : mg "list" = none
  dict : mg "dict" = none
  str : mg "str" = none
  ValueError : mg "ValueError" = none
  MOST_TIE : ∃ t, mg "MOST_TIE" = some (.int 50 t)
  MOST_BUDS : ∃ t, mg "MOST_BUDS" = some (.int 4 t)
  MOST_ROOTS : ∃ t, mg "MOST_ROOTS" = some (.int 4 t)
  GREAT_WORTH : ∃ t, mg "GREAT_WORTH" = some (.int 1000000000000000000000000000000000000000000000000000000000000 t)
  IndexError : mg "IndexError" = none
  enumerate : mg "enumerate" = none
  sum : mg "sum" = none
end Bw
set_option Elab.async false
set_option linter.all false
set_option maxRecDepth 100000
set_option maxHeartbeats 0
namespace Hd
open PySem PySem.W PySem.Calls PyProof.Rows L2
abbrev Rw : OpenRow := OpenLaw.row PySem.Challenge.rw_budwright_k36_whole_friezes_are_whole
abbrev S (x : String) : PySem.Str := PySem.Str.ofString x
abbrev R (a : Nat) : Value := Value.ref a
abbrev E (P : Params) (x : String) (t : Nat) (v : Value) : DictEntry := DictEntry.mk (PyData.keyHash P (PySem.Str.ofString x)) (Value.str (PySem.Str.ofString x) t) v
abbrev T (i : Nat) : Stmt := Bw.topS i
abbrev M (i j : Nat) : Stmt := inClass (Bw.topS i) j
abbrev o2 (P : Params) : Obj := Obj.mk Value.none none (Data.dict (List.toArray [E P "type.__subclasses__.ZeroDivisionError.0" 311 (Value.int (Int.ofNat 108) 0), E P "type.__subclasses__.ZeroDivisionError.n" 312 (Value.int (Int.ofNat 1) 0), E P "type.__subclasses__.IndexError.0" 341 (Value.int (Int.ofNat 128) 0), E P "type.__subclasses__.IndexError.n" 342 (Value.int (Int.ofNat 1) 0)]) 4) (List.toArray [])
abbrev o3 (P : Params) : Obj := Obj.mk (Value.type "dict") none (Data.dict (List.toArray [E P "__name__" 165 (Value.str (S "law_budwright_k36_whole_friezes_are_whole") 574), E P "__doc__" 166 Value.none, E P "__package__" 167 Value.none, E P "__loader__" 168 (Value.builtin "__main__.__loader__#opaque"), E P "__spec__" 169 Value.none, E P "__annotations__" 170 (R 6), E P "__builtins__" 171 (R 4), E P "__file__" 173 (Value.str (S "/claim/cut.py") 172), E P "__cached__" 174 Value.none, E P "BudError" 215 (R 31), E P "BadTable" 238 (R 51), E P "Uneven" 263 (R 70), E P "Great" 286 (R 89), E P "NoPart" 314 (R 108), E P "NoPlace" 344 (R 128), E P "Lacking" 373 (R 148), E P "NothingLeft" 399 (R 168), E P "common" 409 (R 178), E P "power_of" 418 (R 185), E P "lowest_terms" 428 (R 192), E P "is_number" 437 (R 199), E P "MOST_TIE" 441 (Value.int (Int.ofNat 50) 440), E P "MOST_BUDS" 443 (Value.int (Int.ofNat 4) 442), E P "MOST_ROOTS" 445 (Value.int (Int.ofNat 4) 444), E P "is_row" 451 (R 204), E P "check_form" 457 (R 209), E P "check_table" 465 (R 216), E P "check_bud" 473 (R 223), E P "bud_count" 480 (R 230), E P "unlike_rows" 486 (R 235), E P "pair_bars" 497 (R 242), E P "ring_bars" 509 (R 249), E P "barred" 520 (R 256), E P "turned_row" 526 (R 261), E P "turned_table" 532 (R 266), E P "GREAT_WORTH" 538 (Value.int (Int.ofNat 1000000000000000000000000000000000000000000000000000000000000) 537), E P "side_worth" 550 (R 273), E P "new_worth" 556 (R 278), E P "worth_step" 567 (R 285), E P "frieze" 573 (R 290), E P "_law_feed" 582 (R 297), E P "_law_draw" 593 (R 304), E P "_law_pick" 601 (R 311), E P "_law_same" 607 (R 316), E P "_law_word" 615 (R 323), E P "_law_gcd" 623 (R 330), E P "_law_low" 632 (R 337), E P "_law_add" 640 (R 344), E P "_law_div" 648 (R 351), E P "_law_pow" 659 (R 358), E P "_law_turn" 674 (R 365), E P "_law_wide_ties" 680 (R 370), E P "_law_both" 695 (R 377), E P "_law_step" 705 (R 384), E P "_law_even" 711 (R 389), E P "_law_roots" 717 (R 394), E P "_law_small" 727 (R 401), E P "law" 733 (R 406)]) 58) (List.toArray [])
abbrev o15 (P : Params) : Obj := Obj.mk (Value.type "tuple") none (Data.seq (List.toArray [(Value.type "ValueError")]) 0) (List.toArray [])
abbrev o22 (P : Params) : Obj := Obj.mk (Value.type "tuple") none (Data.seq (List.toArray []) 0) (List.toArray [])
abbrev o24 (P : Params) : Obj := Obj.mk (Value.type "tuple") none (Data.seq (List.toArray [(Value.str (S "self") 204), (Value.str (S "word") 205)]) 0) (List.toArray [])
abbrev o25 (P : Params) : Obj := Obj.mk (Value.type "tuple") none (Data.seq (List.toArray []) 0) (List.toArray [])
abbrev o27 (P : Params) : Obj := Obj.mk (Value.type "code") none (Data.fields (List.toArray [(Value.str (S "__init__") 201), (Value.str (S "BudError.__init__") 202), (Value.str (S "/claim/cut.py") 203), (Value.int (Int.ofNat 4) 0), (Value.int (Int.ofNat 2) 0), (Value.int (Int.ofNat 0) 0), (Value.int (Int.ofNat 0) 0), (Value.int (Int.ofNat 3) 0), (R 22), (Value.bool true), (Value.int (Int.ofNat 181) 0), (R 23), Value.none, (R 24), (R 25), (R 26), (Value.int (Int.ofNat 206) 0), (Value.int (Int.ofNat 4) 0), (Value.str (S "/claim/cut.py") 207)])) (List.toArray [])
abbrev o28 (P : Params) : Obj := Obj.mk (Value.type "function") none (Data.func (FuncData.mk (S "__init__") (S "BudError.__init__") (defArgs (M 1 0)) (FuncBody.stmts (defBody (M 1 0))) (defScope (M 1 0)) 3 [] Value.none Value.none Value.none (Value.str (S "budwright.errors") 187) none (R 27) Value.none 0)) (List.toArray [])
abbrev o29 (P : Params) : Obj := Obj.mk (Value.type "tuple") none (Data.seq (List.toArray [(Value.str (S "word") 209)]) 0) (List.toArray [])
abbrev o30 (P : Params) : Obj := Obj.mk (Value.type "dict") none (Data.dict (List.toArray [E P "__module__" 196 (Value.str (S "budwright.errors") 187), E P "__firstlineno__" 200 (Value.int (Int.ofNat 2) 199), E P "__init__" 208 (R 28), E P "__static_attributes__" 210 (R 29), E P "__weakref__" 212 (R 32), E P "__doc__" 213 Value.none]) 3) (List.toArray [])
abbrev o31 (P : Params) : Obj := Obj.mk (Value.type "type") none (Data.cls (ClassData.mk (S "BudError") [(Value.type "ValueError")] [(R 31), (Value.type "ValueError"), (Value.type "Exception"), (Value.type "BaseException"), (Value.type "object")] 30 (S "BudError") true [] [(R 51), (R 70), (R 89)] false none false)) (List.toArray [(some (R 15)), none, (some (Value.str (S "BudError") 189)), (some (Value.str (S "BudError") 197)), (some (Value.builtin "ValueError.__new__")), (some (Value.bool true))])
abbrev o32 (P : Params) : Obj := Obj.mk (Value.type "getset_descriptor") none (Data.fields (List.toArray [(Value.str (S "__weakref__") 211), (R 31), (Value.builtin "ExceptionGroup.__weakref__"), Value.none])) (List.toArray [])
abbrev o35 (P : Params) : Obj := Obj.mk (Value.type "tuple") none (Data.seq (List.toArray [(R 31)]) 0) (List.toArray [])
abbrev o42 (P : Params) : Obj := Obj.mk (Value.type "tuple") none (Data.seq (List.toArray []) 0) (List.toArray [])
abbrev o44 (P : Params) : Obj := Obj.mk (Value.type "tuple") none (Data.seq (List.toArray [(Value.str (S "self") 231)]) 0) (List.toArray [])
abbrev o45 (P : Params) : Obj := Obj.mk (Value.type "tuple") none (Data.seq (List.toArray []) 0) (List.toArray [])
abbrev o47 (P : Params) : Obj := Obj.mk (Value.type "code") none (Data.fields (List.toArray [(Value.str (S "__init__") 228), (Value.str (S "BadTable.__init__") 229), (Value.str (S "/claim/cut.py") 230), (Value.int (Int.ofNat 9) 0), (Value.int (Int.ofNat 1) 0), (Value.int (Int.ofNat 0) 0), (Value.int (Int.ofNat 0) 0), (Value.int (Int.ofNat 3) 0), (R 42), (Value.bool true), (Value.int (Int.ofNat 181) 0), (R 43), Value.none, (R 44), (R 45), (R 46), (Value.int (Int.ofNat 232) 0), (Value.int (Int.ofNat 9) 0), (Value.str (S "/claim/cut.py") 233)])) (List.toArray [])
abbrev o48 (P : Params) : Obj := Obj.mk (Value.type "function") none (Data.func (FuncData.mk (S "__init__") (S "BadTable.__init__") (defArgs (M 2 0)) (FuncBody.stmts (defBody (M 2 0))) (defScope (M 2 0)) 3 [] Value.none Value.none Value.none (Value.str (S "budwright.errors") 187) none (R 47) Value.none 0)) (List.toArray [])
abbrev o49 (P : Params) : Obj := Obj.mk (Value.type "tuple") none (Data.seq (List.toArray []) 0) (List.toArray [])
abbrev o50 (P : Params) : Obj := Obj.mk (Value.type "dict") none (Data.dict (List.toArray [E P "__module__" 223 (Value.str (S "budwright.errors") 187), E P "__firstlineno__" 227 (Value.int (Int.ofNat 7) 226), E P "__init__" 234 (R 48), E P "__static_attributes__" 235 (R 49), E P "__doc__" 236 Value.none]) 2) (List.toArray [])
abbrev o51 (P : Params) : Obj := Obj.mk (Value.type "type") none (Data.cls (ClassData.mk (S "BadTable") [(R 31)] [(R 51), (R 31), (Value.type "ValueError"), (Value.type "Exception"), (Value.type "BaseException"), (Value.type "object")] 50 (S "BadTable") true [] [] false none false)) (List.toArray [(some (R 35)), none, (some (Value.str (S "BadTable") 216)), (some (Value.str (S "BadTable") 224)), (some (Value.builtin "ValueError.__new__")), (some (Value.bool true))])
abbrev o54 (P : Params) : Obj := Obj.mk (Value.type "tuple") none (Data.seq (List.toArray [(R 31)]) 0) (List.toArray [])
abbrev o61 (P : Params) : Obj := Obj.mk (Value.type "tuple") none (Data.seq (List.toArray []) 0) (List.toArray [])
abbrev o63 (P : Params) : Obj := Obj.mk (Value.type "tuple") none (Data.seq (List.toArray [(Value.str (S "self") 254), (Value.str (S "ring") 255)]) 0) (List.toArray [])
abbrev o64 (P : Params) : Obj := Obj.mk (Value.type "tuple") none (Data.seq (List.toArray []) 0) (List.toArray [])
abbrev o66 (P : Params) : Obj := Obj.mk (Value.type "code") none (Data.fields (List.toArray [(Value.str (S "__init__") 251), (Value.str (S "Uneven.__init__") 252), (Value.str (S "/claim/cut.py") 253), (Value.int (Int.ofNat 13) 0), (Value.int (Int.ofNat 2) 0), (Value.int (Int.ofNat 0) 0), (Value.int (Int.ofNat 0) 0), (Value.int (Int.ofNat 3) 0), (R 61), (Value.bool true), (Value.int (Int.ofNat 181) 0), (R 62), Value.none, (R 63), (R 64), (R 65), (Value.int (Int.ofNat 256) 0), (Value.int (Int.ofNat 13) 0), (Value.str (S "/claim/cut.py") 257)])) (List.toArray [])
abbrev o67 (P : Params) : Obj := Obj.mk (Value.type "function") none (Data.func (FuncData.mk (S "__init__") (S "Uneven.__init__") (defArgs (M 3 0)) (FuncBody.stmts (defBody (M 3 0))) (defScope (M 3 0)) 3 [] Value.none Value.none Value.none (Value.str (S "budwright.errors") 187) none (R 66) Value.none 0)) (List.toArray [])
abbrev o68 (P : Params) : Obj := Obj.mk (Value.type "tuple") none (Data.seq (List.toArray [(Value.str (S "ring") 259)]) 0) (List.toArray [])
abbrev o69 (P : Params) : Obj := Obj.mk (Value.type "dict") none (Data.dict (List.toArray [E P "__module__" 246 (Value.str (S "budwright.errors") 187), E P "__firstlineno__" 250 (Value.int (Int.ofNat 11) 249), E P "__init__" 258 (R 67), E P "__static_attributes__" 260 (R 68), E P "__doc__" 261 Value.none]) 2) (List.toArray [])
abbrev o70 (P : Params) : Obj := Obj.mk (Value.type "type") none (Data.cls (ClassData.mk (S "Uneven") [(R 31)] [(R 70), (R 31), (Value.type "ValueError"), (Value.type "Exception"), (Value.type "BaseException"), (Value.type "object")] 69 (S "Uneven") true [] [] false none false)) (List.toArray [(some (R 54)), none, (some (Value.str (S "Uneven") 239)), (some (Value.str (S "Uneven") 247)), (some (Value.builtin "ValueError.__new__")), (some (Value.bool true))])
abbrev o73 (P : Params) : Obj := Obj.mk (Value.type "tuple") none (Data.seq (List.toArray [(R 31)]) 0) (List.toArray [])
abbrev o80 (P : Params) : Obj := Obj.mk (Value.type "tuple") none (Data.seq (List.toArray []) 0) (List.toArray [])
abbrev o82 (P : Params) : Obj := Obj.mk (Value.type "tuple") none (Data.seq (List.toArray [(Value.str (S "self") 279)]) 0) (List.toArray [])
abbrev o83 (P : Params) : Obj := Obj.mk (Value.type "tuple") none (Data.seq (List.toArray []) 0) (List.toArray [])
abbrev o85 (P : Params) : Obj := Obj.mk (Value.type "code") none (Data.fields (List.toArray [(Value.str (S "__init__") 276), (Value.str (S "Great.__init__") 277), (Value.str (S "/claim/cut.py") 278), (Value.int (Int.ofNat 18) 0), (Value.int (Int.ofNat 1) 0), (Value.int (Int.ofNat 0) 0), (Value.int (Int.ofNat 0) 0), (Value.int (Int.ofNat 3) 0), (R 80), (Value.bool true), (Value.int (Int.ofNat 181) 0), (R 81), Value.none, (R 82), (R 83), (R 84), (Value.int (Int.ofNat 280) 0), (Value.int (Int.ofNat 18) 0), (Value.str (S "/claim/cut.py") 281)])) (List.toArray [])
abbrev o86 (P : Params) : Obj := Obj.mk (Value.type "function") none (Data.func (FuncData.mk (S "__init__") (S "Great.__init__") (defArgs (M 4 0)) (FuncBody.stmts (defBody (M 4 0))) (defScope (M 4 0)) 3 [] Value.none Value.none Value.none (Value.str (S "budwright.errors") 187) none (R 85) Value.none 0)) (List.toArray [])
abbrev o87 (P : Params) : Obj := Obj.mk (Value.type "tuple") none (Data.seq (List.toArray []) 0) (List.toArray [])
abbrev o88 (P : Params) : Obj := Obj.mk (Value.type "dict") none (Data.dict (List.toArray [E P "__module__" 271 (Value.str (S "budwright.errors") 187), E P "__firstlineno__" 275 (Value.int (Int.ofNat 16) 274), E P "__init__" 282 (R 86), E P "__static_attributes__" 283 (R 87), E P "__doc__" 284 Value.none]) 2) (List.toArray [])
abbrev o89 (P : Params) : Obj := Obj.mk (Value.type "type") none (Data.cls (ClassData.mk (S "Great") [(R 31)] [(R 89), (R 31), (Value.type "ValueError"), (Value.type "Exception"), (Value.type "BaseException"), (Value.type "object")] 88 (S "Great") true [] [] false none false)) (List.toArray [(some (R 73)), none, (some (Value.str (S "Great") 264)), (some (Value.str (S "Great") 272)), (some (Value.builtin "ValueError.__new__")), (some (Value.bool true))])
abbrev o92 (P : Params) : Obj := Obj.mk (Value.type "tuple") none (Data.seq (List.toArray [(Value.type "ZeroDivisionError")]) 0) (List.toArray [])
abbrev o99 (P : Params) : Obj := Obj.mk (Value.type "tuple") none (Data.seq (List.toArray []) 0) (List.toArray [])
abbrev o101 (P : Params) : Obj := Obj.mk (Value.type "tuple") none (Data.seq (List.toArray [(Value.str (S "self") 302)]) 0) (List.toArray [])
abbrev o102 (P : Params) : Obj := Obj.mk (Value.type "tuple") none (Data.seq (List.toArray []) 0) (List.toArray [])
abbrev o104 (P : Params) : Obj := Obj.mk (Value.type "code") none (Data.fields (List.toArray [(Value.str (S "__init__") 299), (Value.str (S "NoPart.__init__") 300), (Value.str (S "/claim/cut.py") 301), (Value.int (Int.ofNat 22) 0), (Value.int (Int.ofNat 1) 0), (Value.int (Int.ofNat 0) 0), (Value.int (Int.ofNat 0) 0), (Value.int (Int.ofNat 3) 0), (R 99), (Value.bool true), (Value.int (Int.ofNat 181) 0), (R 100), Value.none, (R 101), (R 102), (R 103), (Value.int (Int.ofNat 303) 0), (Value.int (Int.ofNat 22) 0), (Value.str (S "/claim/cut.py") 304)])) (List.toArray [])
abbrev o105 (P : Params) : Obj := Obj.mk (Value.type "function") none (Data.func (FuncData.mk (S "__init__") (S "NoPart.__init__") (defArgs (M 5 0)) (FuncBody.stmts (defBody (M 5 0))) (defScope (M 5 0)) 3 [] Value.none Value.none Value.none (Value.str (S "budwright.errors") 187) none (R 104) Value.none 0)) (List.toArray [])
abbrev o106 (P : Params) : Obj := Obj.mk (Value.type "tuple") none (Data.seq (List.toArray [(Value.str (S "word") 306)]) 0) (List.toArray [])
abbrev o107 (P : Params) : Obj := Obj.mk (Value.type "dict") none (Data.dict (List.toArray [E P "__module__" 294 (Value.str (S "budwright.errors") 187), E P "__firstlineno__" 298 (Value.int (Int.ofNat 20) 297), E P "__init__" 305 (R 105), E P "__static_attributes__" 307 (R 106), E P "__weakref__" 309 (R 109), E P "__doc__" 310 Value.none]) 3) (List.toArray [])
abbrev o108 (P : Params) : Obj := Obj.mk (Value.type "type") none (Data.cls (ClassData.mk (S "NoPart") [(Value.type "ZeroDivisionError")] [(R 108), (Value.type "ZeroDivisionError"), (Value.type "ArithmeticError"), (Value.type "Exception"), (Value.type "BaseException"), (Value.type "object")] 107 (S "NoPart") true [] [] false none false)) (List.toArray [(some (R 92)), none, (some (Value.str (S "NoPart") 287)), (some (Value.str (S "NoPart") 295)), (some (Value.builtin "ZeroDivisionError.__new__")), (some (Value.bool true))])
abbrev o109 (P : Params) : Obj := Obj.mk (Value.type "getset_descriptor") none (Data.fields (List.toArray [(Value.str (S "__weakref__") 308), (R 108), (Value.builtin "ExceptionGroup.__weakref__"), Value.none])) (List.toArray [])
abbrev o112 (P : Params) : Obj := Obj.mk (Value.type "tuple") none (Data.seq (List.toArray [(Value.type "IndexError")]) 0) (List.toArray [])
abbrev o119 (P : Params) : Obj := Obj.mk (Value.type "tuple") none (Data.seq (List.toArray []) 0) (List.toArray [])
abbrev o121 (P : Params) : Obj := Obj.mk (Value.type "tuple") none (Data.seq (List.toArray [(Value.str (S "self") 330), (Value.str (S "place") 331)]) 0) (List.toArray [])
abbrev o122 (P : Params) : Obj := Obj.mk (Value.type "tuple") none (Data.seq (List.toArray []) 0) (List.toArray [])
abbrev o124 (P : Params) : Obj := Obj.mk (Value.type "code") none (Data.fields (List.toArray [(Value.str (S "__init__") 327), (Value.str (S "NoPlace.__init__") 328), (Value.str (S "/claim/cut.py") 329), (Value.int (Int.ofNat 27) 0), (Value.int (Int.ofNat 2) 0), (Value.int (Int.ofNat 0) 0), (Value.int (Int.ofNat 0) 0), (Value.int (Int.ofNat 3) 0), (R 119), (Value.bool true), (Value.int (Int.ofNat 181) 0), (R 120), Value.none, (R 121), (R 122), (R 123), (Value.int (Int.ofNat 332) 0), (Value.int (Int.ofNat 27) 0), (Value.str (S "/claim/cut.py") 333)])) (List.toArray [])
abbrev o125 (P : Params) : Obj := Obj.mk (Value.type "function") none (Data.func (FuncData.mk (S "__init__") (S "NoPlace.__init__") (defArgs (M 6 0)) (FuncBody.stmts (defBody (M 6 0))) (defScope (M 6 0)) 3 [] Value.none Value.none Value.none (Value.str (S "budwright.errors") 187) none (R 124) Value.none 0)) (List.toArray [])
abbrev o126 (P : Params) : Obj := Obj.mk (Value.type "tuple") none (Data.seq (List.toArray [(Value.str (S "place") 335), (Value.str (S "word") 336)]) 0) (List.toArray [])
abbrev o127 (P : Params) : Obj := Obj.mk (Value.type "dict") none (Data.dict (List.toArray [E P "__module__" 322 (Value.str (S "budwright.errors") 187), E P "__firstlineno__" 326 (Value.int (Int.ofNat 25) 325), E P "__init__" 334 (R 125), E P "__static_attributes__" 337 (R 126), E P "__weakref__" 339 (R 129), E P "__doc__" 340 Value.none]) 3) (List.toArray [])
abbrev o128 (P : Params) : Obj := Obj.mk (Value.type "type") none (Data.cls (ClassData.mk (S "NoPlace") [(Value.type "IndexError")] [(R 128), (Value.type "IndexError"), (Value.type "LookupError"), (Value.type "Exception"), (Value.type "BaseException"), (Value.type "object")] 127 (S "NoPlace") true [] [] false none false)) (List.toArray [(some (R 112)), none, (some (Value.str (S "NoPlace") 315)), (some (Value.str (S "NoPlace") 323)), (some (Value.builtin "IndexError.__new__")), (some (Value.bool true))])
abbrev o129 (P : Params) : Obj := Obj.mk (Value.type "getset_descriptor") none (Data.fields (List.toArray [(Value.str (S "__weakref__") 338), (R 128), (Value.builtin "ExceptionGroup.__weakref__"), Value.none])) (List.toArray [])
abbrev o132 (P : Params) : Obj := Obj.mk (Value.type "tuple") none (Data.seq (List.toArray [(Value.type "LookupError")]) 0) (List.toArray [])
abbrev o139 (P : Params) : Obj := Obj.mk (Value.type "tuple") none (Data.seq (List.toArray []) 0) (List.toArray [])
abbrev o141 (P : Params) : Obj := Obj.mk (Value.type "tuple") none (Data.seq (List.toArray [(Value.str (S "self") 360), (Value.str (S "word") 361), (Value.str (S "name") 362)]) 0) (List.toArray [])
abbrev o142 (P : Params) : Obj := Obj.mk (Value.type "tuple") none (Data.seq (List.toArray []) 0) (List.toArray [])
abbrev o144 (P : Params) : Obj := Obj.mk (Value.type "code") none (Data.fields (List.toArray [(Value.str (S "__init__") 357), (Value.str (S "Lacking.__init__") 358), (Value.str (S "/claim/cut.py") 359), (Value.int (Int.ofNat 33) 0), (Value.int (Int.ofNat 3) 0), (Value.int (Int.ofNat 0) 0), (Value.int (Int.ofNat 0) 0), (Value.int (Int.ofNat 3) 0), (R 139), (Value.bool true), (Value.int (Int.ofNat 181) 0), (R 140), Value.none, (R 141), (R 142), (R 143), (Value.int (Int.ofNat 363) 0), (Value.int (Int.ofNat 33) 0), (Value.str (S "/claim/cut.py") 364)])) (List.toArray [])
abbrev o145 (P : Params) : Obj := Obj.mk (Value.type "function") none (Data.func (FuncData.mk (S "__init__") (S "Lacking.__init__") (defArgs (M 7 0)) (FuncBody.stmts (defBody (M 7 0))) (defScope (M 7 0)) 3 [] Value.none Value.none Value.none (Value.str (S "budwright.errors") 187) none (R 144) Value.none 0)) (List.toArray [])
abbrev o146 (P : Params) : Obj := Obj.mk (Value.type "tuple") none (Data.seq (List.toArray [(Value.str (S "name") 366), (Value.str (S "word") 367)]) 0) (List.toArray [])
abbrev o147 (P : Params) : Obj := Obj.mk (Value.type "dict") none (Data.dict (List.toArray [E P "__module__" 352 (Value.str (S "budwright.errors") 187), E P "__firstlineno__" 356 (Value.int (Int.ofNat 31) 355), E P "__init__" 365 (R 145), E P "__static_attributes__" 368 (R 146), E P "__weakref__" 370 (R 149), E P "__doc__" 371 Value.none]) 3) (List.toArray [])
abbrev o148 (P : Params) : Obj := Obj.mk (Value.type "type") none (Data.cls (ClassData.mk (S "Lacking") [(Value.type "LookupError")] [(R 148), (Value.type "LookupError"), (Value.type "Exception"), (Value.type "BaseException"), (Value.type "object")] 147 (S "Lacking") true [] [] false none false)) (List.toArray [(some (R 132)), none, (some (Value.str (S "Lacking") 345)), (some (Value.str (S "Lacking") 353)), (some (Value.builtin "LookupError.__new__")), (some (Value.bool true))])
abbrev o149 (P : Params) : Obj := Obj.mk (Value.type "getset_descriptor") none (Data.fields (List.toArray [(Value.str (S "__weakref__") 369), (R 148), (Value.builtin "ExceptionGroup.__weakref__"), Value.none])) (List.toArray [])
abbrev o152 (P : Params) : Obj := Obj.mk (Value.type "tuple") none (Data.seq (List.toArray [(Value.type "RuntimeError")]) 0) (List.toArray [])
abbrev o159 (P : Params) : Obj := Obj.mk (Value.type "tuple") none (Data.seq (List.toArray []) 0) (List.toArray [])
abbrev o161 (P : Params) : Obj := Obj.mk (Value.type "tuple") none (Data.seq (List.toArray [(Value.str (S "self") 389)]) 0) (List.toArray [])
abbrev o162 (P : Params) : Obj := Obj.mk (Value.type "tuple") none (Data.seq (List.toArray []) 0) (List.toArray [])
abbrev o164 (P : Params) : Obj := Obj.mk (Value.type "code") none (Data.fields (List.toArray [(Value.str (S "__init__") 386), (Value.str (S "NothingLeft.__init__") 387), (Value.str (S "/claim/cut.py") 388), (Value.int (Int.ofNat 39) 0), (Value.int (Int.ofNat 1) 0), (Value.int (Int.ofNat 0) 0), (Value.int (Int.ofNat 0) 0), (Value.int (Int.ofNat 3) 0), (R 159), (Value.bool true), (Value.int (Int.ofNat 181) 0), (R 160), Value.none, (R 161), (R 162), (R 163), (Value.int (Int.ofNat 390) 0), (Value.int (Int.ofNat 39) 0), (Value.str (S "/claim/cut.py") 391)])) (List.toArray [])
abbrev o165 (P : Params) : Obj := Obj.mk (Value.type "function") none (Data.func (FuncData.mk (S "__init__") (S "NothingLeft.__init__") (defArgs (M 8 0)) (FuncBody.stmts (defBody (M 8 0))) (defScope (M 8 0)) 3 [] Value.none Value.none Value.none (Value.str (S "budwright.errors") 187) none (R 164) Value.none 0)) (List.toArray [])
abbrev o166 (P : Params) : Obj := Obj.mk (Value.type "tuple") none (Data.seq (List.toArray [(Value.str (S "word") 393)]) 0) (List.toArray [])
abbrev o167 (P : Params) : Obj := Obj.mk (Value.type "dict") none (Data.dict (List.toArray [E P "__module__" 381 (Value.str (S "budwright.errors") 187), E P "__firstlineno__" 385 (Value.int (Int.ofNat 37) 384), E P "__init__" 392 (R 165), E P "__static_attributes__" 394 (R 166), E P "__weakref__" 396 (R 169), E P "__doc__" 397 Value.none]) 3) (List.toArray [])
abbrev o168 (P : Params) : Obj := Obj.mk (Value.type "type") none (Data.cls (ClassData.mk (S "NothingLeft") [(Value.type "RuntimeError")] [(R 168), (Value.type "RuntimeError"), (Value.type "Exception"), (Value.type "BaseException"), (Value.type "object")] 167 (S "NothingLeft") true [] [] false none false)) (List.toArray [(some (R 152)), none, (some (Value.str (S "NothingLeft") 374)), (some (Value.str (S "NothingLeft") 382)), (some (Value.builtin "RuntimeError.__new__")), (some (Value.bool true))])
abbrev o169 (P : Params) : Obj := Obj.mk (Value.type "getset_descriptor") none (Data.fields (List.toArray [(Value.str (S "__weakref__") 395), (R 168), (Value.builtin "ExceptionGroup.__weakref__"), Value.none])) (List.toArray [])
abbrev o172 (P : Params) : Obj := Obj.mk (Value.type "tuple") none (Data.seq (List.toArray []) 0) (List.toArray [])
abbrev o174 (P : Params) : Obj := Obj.mk (Value.type "tuple") none (Data.seq (List.toArray [(Value.str (S "one") 405), (Value.str (S "other") 406)]) 0) (List.toArray [])
abbrev o175 (P : Params) : Obj := Obj.mk (Value.type "tuple") none (Data.seq (List.toArray []) 0) (List.toArray [])
abbrev o177 (P : Params) : Obj := Obj.mk (Value.type "code") none (Data.fields (List.toArray [(Value.str (S "common") 402), (Value.str (S "common") 403), (Value.str (S "/claim/cut.py") 404), (Value.int (Int.ofNat 43) 0), (Value.int (Int.ofNat 2) 0), (Value.int (Int.ofNat 0) 0), (Value.int (Int.ofNat 0) 0), (Value.int (Int.ofNat 3) 0), (R 172), (Value.bool true), (Value.int (Int.ofNat 181) 0), (R 173), Value.none, (R 174), (R 175), (R 176), (Value.int (Int.ofNat 407) 0), (Value.int (Int.ofNat 43) 0), (Value.str (S "/claim/cut.py") 408)])) (List.toArray [])
abbrev o178 (P : Params) : Obj := Obj.mk (Value.type "function") none (Data.func (FuncData.mk (S "common") (S "common") (defArgs (T 10)) (FuncBody.stmts (defBody (T 10))) (defScope (T 10)) 3 [] Value.none Value.none Value.none (Value.str (S "budwright.parts") 400) none (R 177) Value.none 0)) (List.toArray [])
abbrev o179 (P : Params) : Obj := Obj.mk (Value.type "tuple") none (Data.seq (List.toArray []) 0) (List.toArray [])
abbrev o181 (P : Params) : Obj := Obj.mk (Value.type "tuple") none (Data.seq (List.toArray [(Value.str (S "base") 413), (Value.str (S "many") 414), (Value.str (S "result") 415)]) 0) (List.toArray [])
abbrev o182 (P : Params) : Obj := Obj.mk (Value.type "tuple") none (Data.seq (List.toArray []) 0) (List.toArray [])
abbrev o184 (P : Params) : Obj := Obj.mk (Value.type "code") none (Data.fields (List.toArray [(Value.str (S "power_of") 410), (Value.str (S "power_of") 411), (Value.str (S "/claim/cut.py") 412), (Value.int (Int.ofNat 49) 0), (Value.int (Int.ofNat 2) 0), (Value.int (Int.ofNat 0) 0), (Value.int (Int.ofNat 0) 0), (Value.int (Int.ofNat 3) 0), (R 179), (Value.bool true), (Value.int (Int.ofNat 181) 0), (R 180), Value.none, (R 181), (R 182), (R 183), (Value.int (Int.ofNat 416) 0), (Value.int (Int.ofNat 49) 0), (Value.str (S "/claim/cut.py") 417)])) (List.toArray [])
abbrev o185 (P : Params) : Obj := Obj.mk (Value.type "function") none (Data.func (FuncData.mk (S "power_of") (S "power_of") (defArgs (T 11)) (FuncBody.stmts (defBody (T 11))) (defScope (T 11)) 3 [] Value.none Value.none Value.none (Value.str (S "budwright.parts") 400) none (R 184) Value.none 0)) (List.toArray [])
abbrev o186 (P : Params) : Obj := Obj.mk (Value.type "tuple") none (Data.seq (List.toArray []) 0) (List.toArray [])
abbrev o188 (P : Params) : Obj := Obj.mk (Value.type "tuple") none (Data.seq (List.toArray [(Value.str (S "top") 422), (Value.str (S "under") 423), (Value.str (S "root") 424), (Value.str (S "shared") 425)]) 0) (List.toArray [])
abbrev o189 (P : Params) : Obj := Obj.mk (Value.type "tuple") none (Data.seq (List.toArray []) 0) (List.toArray [])
abbrev o191 (P : Params) : Obj := Obj.mk (Value.type "code") none (Data.fields (List.toArray [(Value.str (S "lowest_terms") 419), (Value.str (S "lowest_terms") 420), (Value.str (S "/claim/cut.py") 421), (Value.int (Int.ofNat 58) 0), (Value.int (Int.ofNat 3) 0), (Value.int (Int.ofNat 0) 0), (Value.int (Int.ofNat 0) 0), (Value.int (Int.ofNat 3) 0), (R 186), (Value.bool true), (Value.int (Int.ofNat 181) 0), (R 187), Value.none, (R 188), (R 189), (R 190), (Value.int (Int.ofNat 426) 0), (Value.int (Int.ofNat 58) 0), (Value.str (S "/claim/cut.py") 427)])) (List.toArray [])
abbrev o192 (P : Params) : Obj := Obj.mk (Value.type "function") none (Data.func (FuncData.mk (S "lowest_terms") (S "lowest_terms") (defArgs (T 12)) (FuncBody.stmts (defBody (T 12))) (defScope (T 12)) 3 [] Value.none Value.none Value.none (Value.str (S "budwright.parts") 400) none (R 191) Value.none 0)) (List.toArray [])
abbrev o193 (P : Params) : Obj := Obj.mk (Value.type "tuple") none (Data.seq (List.toArray []) 0) (List.toArray [])
abbrev o195 (P : Params) : Obj := Obj.mk (Value.type "tuple") none (Data.seq (List.toArray [(Value.str (S "thing") 434)]) 0) (List.toArray [])
abbrev o196 (P : Params) : Obj := Obj.mk (Value.type "tuple") none (Data.seq (List.toArray []) 0) (List.toArray [])
abbrev o198 (P : Params) : Obj := Obj.mk (Value.type "code") none (Data.fields (List.toArray [(Value.str (S "is_number") 431), (Value.str (S "is_number") 432), (Value.str (S "/claim/cut.py") 433), (Value.int (Int.ofNat 70) 0), (Value.int (Int.ofNat 1) 0), (Value.int (Int.ofNat 0) 0), (Value.int (Int.ofNat 0) 0), (Value.int (Int.ofNat 3) 0), (R 193), (Value.bool true), (Value.int (Int.ofNat 181) 0), (R 194), Value.none, (R 195), (R 196), (R 197), (Value.int (Int.ofNat 435) 0), (Value.int (Int.ofNat 70) 0), (Value.str (S "/claim/cut.py") 436)])) (List.toArray [])
abbrev o199 (P : Params) : Obj := Obj.mk (Value.type "function") none (Data.func (FuncData.mk (S "is_number") (S "is_number") (defArgs (T 14)) (FuncBody.stmts (defBody (T 14))) (defScope (T 14)) 3 [] Value.none Value.none Value.none (Value.str (S "budwright.figures") 429) none (R 198) Value.none 0)) (List.toArray [])
abbrev o200 (P : Params) : Obj := Obj.mk (Value.type "tuple") none (Data.seq (List.toArray []) 0) (List.toArray [])
abbrev o203 (P : Params) : Obj := Obj.mk (Value.type "code") none (Data.fields (List.toArray [(Value.str (S "is_row") 446), (Value.str (S "is_row") 447), (Value.str (S "/claim/cut.py") 448), (Value.int (Int.ofNat 76) 0), (Value.int (Int.ofNat 2) 0), (Value.int (Int.ofNat 0) 0), (Value.int (Int.ofNat 0) 0), (Value.int (Int.ofNat 3) 0), (R 200), (Value.bool true), (Value.int (Int.ofNat 181) 0), (R 201), Value.none, Value.none, Value.none, (R 202), (Value.int (Int.ofNat 449) 0), (Value.int (Int.ofNat 76) 0), (Value.str (S "/claim/cut.py") 450)])) (List.toArray [])
abbrev o204 (P : Params) : Obj := Obj.mk (Value.type "function") none (Data.func (FuncData.mk (S "is_row") (S "is_row") (defArgs (T 19)) (FuncBody.stmts (defBody (T 19))) (defScope (T 19)) 3 [] Value.none Value.none Value.none (Value.str (S "budwright.tables") 438) none (R 203) Value.none 0)) (List.toArray [])
abbrev o205 (P : Params) : Obj := Obj.mk (Value.type "tuple") none (Data.seq (List.toArray []) 0) (List.toArray [])
abbrev o208 (P : Params) : Obj := Obj.mk (Value.type "code") none (Data.fields (List.toArray [(Value.str (S "check_form") 452), (Value.str (S "check_form") 453), (Value.str (S "/claim/cut.py") 454), (Value.int (Int.ofNat 80) 0), (Value.int (Int.ofNat 1) 0), (Value.int (Int.ofNat 0) 0), (Value.int (Int.ofNat 0) 0), (Value.int (Int.ofNat 3) 0), (R 205), (Value.bool true), (Value.int (Int.ofNat 181) 0), (R 206), Value.none, Value.none, Value.none, (R 207), (Value.int (Int.ofNat 455) 0), (Value.int (Int.ofNat 80) 0), (Value.str (S "/claim/cut.py") 456)])) (List.toArray [])
abbrev o209 (P : Params) : Obj := Obj.mk (Value.type "function") none (Data.func (FuncData.mk (S "check_form") (S "check_form") (defArgs (T 20)) (FuncBody.stmts (defBody (T 20))) (defScope (T 20)) 3 [] Value.none Value.none Value.none (Value.str (S "budwright.tables") 438) none (R 208) Value.none 0)) (List.toArray [])
abbrev o210 (P : Params) : Obj := Obj.mk (Value.type "tuple") none (Data.seq (List.toArray []) 0) (List.toArray [])
abbrev o212 (P : Params) : Obj := Obj.mk (Value.type "tuple") none (Data.seq (List.toArray [(Value.str (S "table") 461), (Value.str (S "ring") 462)]) 0) (List.toArray [])
abbrev o213 (P : Params) : Obj := Obj.mk (Value.type "tuple") none (Data.seq (List.toArray []) 0) (List.toArray [])
abbrev o215 (P : Params) : Obj := Obj.mk (Value.type "code") none (Data.fields (List.toArray [(Value.str (S "check_table") 458), (Value.str (S "check_table") 459), (Value.str (S "/claim/cut.py") 460), (Value.int (Int.ofNat 88) 0), (Value.int (Int.ofNat 1) 0), (Value.int (Int.ofNat 0) 0), (Value.int (Int.ofNat 0) 0), (Value.int (Int.ofNat 3) 0), (R 210), (Value.bool true), (Value.int (Int.ofNat 181) 0), (R 211), Value.none, (R 212), (R 213), (R 214), (Value.int (Int.ofNat 463) 0), (Value.int (Int.ofNat 88) 0), (Value.str (S "/claim/cut.py") 464)])) (List.toArray [])
abbrev o216 (P : Params) : Obj := Obj.mk (Value.type "function") none (Data.func (FuncData.mk (S "check_table") (S "check_table") (defArgs (T 21)) (FuncBody.stmts (defBody (T 21))) (defScope (T 21)) 3 [] Value.none Value.none Value.none (Value.str (S "budwright.tables") 438) none (R 215) Value.none 0)) (List.toArray [])
abbrev o217 (P : Params) : Obj := Obj.mk (Value.type "tuple") none (Data.seq (List.toArray []) 0) (List.toArray [])
abbrev o219 (P : Params) : Obj := Obj.mk (Value.type "tuple") none (Data.seq (List.toArray [(Value.str (S "table") 469), (Value.str (S "place") 470)]) 0) (List.toArray [])
abbrev o220 (P : Params) : Obj := Obj.mk (Value.type "tuple") none (Data.seq (List.toArray []) 0) (List.toArray [])
abbrev o222 (P : Params) : Obj := Obj.mk (Value.type "code") none (Data.fields (List.toArray [(Value.str (S "check_bud") 466), (Value.str (S "check_bud") 467), (Value.str (S "/claim/cut.py") 468), (Value.int (Int.ofNat 92) 0), (Value.int (Int.ofNat 2) 0), (Value.int (Int.ofNat 0) 0), (Value.int (Int.ofNat 0) 0), (Value.int (Int.ofNat 3) 0), (R 217), (Value.bool true), (Value.int (Int.ofNat 181) 0), (R 218), Value.none, (R 219), (R 220), (R 221), (Value.int (Int.ofNat 471) 0), (Value.int (Int.ofNat 92) 0), (Value.str (S "/claim/cut.py") 472)])) (List.toArray [])
abbrev o223 (P : Params) : Obj := Obj.mk (Value.type "function") none (Data.func (FuncData.mk (S "check_bud") (S "check_bud") (defArgs (T 22)) (FuncBody.stmts (defBody (T 22))) (defScope (T 22)) 3 [] Value.none Value.none Value.none (Value.str (S "budwright.tables") 438) none (R 222) Value.none 0)) (List.toArray [])
abbrev o224 (P : Params) : Obj := Obj.mk (Value.type "tuple") none (Data.seq (List.toArray []) 0) (List.toArray [])
abbrev o226 (P : Params) : Obj := Obj.mk (Value.type "tuple") none (Data.seq (List.toArray [(Value.str (S "table") 477)]) 0) (List.toArray [])
abbrev o227 (P : Params) : Obj := Obj.mk (Value.type "tuple") none (Data.seq (List.toArray []) 0) (List.toArray [])
abbrev o229 (P : Params) : Obj := Obj.mk (Value.type "code") none (Data.fields (List.toArray [(Value.str (S "bud_count") 474), (Value.str (S "bud_count") 475), (Value.str (S "/claim/cut.py") 476), (Value.int (Int.ofNat 95) 0), (Value.int (Int.ofNat 1) 0), (Value.int (Int.ofNat 0) 0), (Value.int (Int.ofNat 0) 0), (Value.int (Int.ofNat 3) 0), (R 224), (Value.bool true), (Value.int (Int.ofNat 181) 0), (R 225), Value.none, (R 226), (R 227), (R 228), (Value.int (Int.ofNat 478) 0), (Value.int (Int.ofNat 95) 0), (Value.str (S "/claim/cut.py") 479)])) (List.toArray [])
abbrev o230 (P : Params) : Obj := Obj.mk (Value.type "function") none (Data.func (FuncData.mk (S "bud_count") (S "bud_count") (defArgs (T 23)) (FuncBody.stmts (defBody (T 23))) (defScope (T 23)) 3 [] Value.none Value.none Value.none (Value.str (S "budwright.tables") 438) none (R 229) Value.none 0)) (List.toArray [])
abbrev o231 (P : Params) : Obj := Obj.mk (Value.type "tuple") none (Data.seq (List.toArray []) 0) (List.toArray [])
abbrev o234 (P : Params) : Obj := Obj.mk (Value.type "code") none (Data.fields (List.toArray [(Value.str (S "unlike_rows") 481), (Value.str (S "unlike_rows") 482), (Value.str (S "/claim/cut.py") 483), (Value.int (Int.ofNat 97) 0), (Value.int (Int.ofNat 2) 0), (Value.int (Int.ofNat 0) 0), (Value.int (Int.ofNat 0) 0), (Value.int (Int.ofNat 3) 0), (R 231), (Value.bool true), (Value.int (Int.ofNat 181) 0), (R 232), Value.none, Value.none, Value.none, (R 233), (Value.int (Int.ofNat 484) 0), (Value.int (Int.ofNat 97) 0), (Value.str (S "/claim/cut.py") 485)])) (List.toArray [])
abbrev o235 (P : Params) : Obj := Obj.mk (Value.type "function") none (Data.func (FuncData.mk (S "unlike_rows") (S "unlike_rows") (defArgs (T 24)) (FuncBody.stmts (defBody (T 24))) (defScope (T 24)) 3 [] Value.none Value.none Value.none (Value.str (S "budwright.tables") 438) none (R 234) Value.none 0)) (List.toArray [])
abbrev o236 (P : Params) : Obj := Obj.mk (Value.type "tuple") none (Data.seq (List.toArray []) 0) (List.toArray [])
abbrev o238 (P : Params) : Obj := Obj.mk (Value.type "tuple") none (Data.seq (List.toArray [(Value.str (S "table") 490), (Value.str (S "i") 491), (Value.str (S "j") 492), (Value.str (S "one") 493), (Value.str (S "other") 494)]) 0) (List.toArray [])
abbrev o239 (P : Params) : Obj := Obj.mk (Value.type "tuple") none (Data.seq (List.toArray []) 0) (List.toArray [])
abbrev o241 (P : Params) : Obj := Obj.mk (Value.type "code") none (Data.fields (List.toArray [(Value.str (S "pair_bars") 487), (Value.str (S "pair_bars") 488), (Value.str (S "/claim/cut.py") 489), (Value.int (Int.ofNat 102) 0), (Value.int (Int.ofNat 3) 0), (Value.int (Int.ofNat 0) 0), (Value.int (Int.ofNat 0) 0), (Value.int (Int.ofNat 3) 0), (R 236), (Value.bool true), (Value.int (Int.ofNat 181) 0), (R 237), Value.none, (R 238), (R 239), (R 240), (Value.int (Int.ofNat 495) 0), (Value.int (Int.ofNat 102) 0), (Value.str (S "/claim/cut.py") 496)])) (List.toArray [])
abbrev o242 (P : Params) : Obj := Obj.mk (Value.type "function") none (Data.func (FuncData.mk (S "pair_bars") (S "pair_bars") (defArgs (T 25)) (FuncBody.stmts (defBody (T 25))) (defScope (T 25)) 3 [] Value.none Value.none Value.none (Value.str (S "budwright.tables") 438) none (R 241) Value.none 0)) (List.toArray [])
abbrev o243 (P : Params) : Obj := Obj.mk (Value.type "tuple") none (Data.seq (List.toArray []) 0) (List.toArray [])
abbrev o245 (P : Params) : Obj := Obj.mk (Value.type "tuple") none (Data.seq (List.toArray [(Value.str (S "table") 501), (Value.str (S "ring") 502), (Value.str (S "onward") 503), (Value.str (S "back") 504), (Value.str (S "i") 505), (Value.str (S "j") 506)]) 0) (List.toArray [])
abbrev o246 (P : Params) : Obj := Obj.mk (Value.type "tuple") none (Data.seq (List.toArray []) 0) (List.toArray [])
abbrev o248 (P : Params) : Obj := Obj.mk (Value.type "code") none (Data.fields (List.toArray [(Value.str (S "ring_bars") 498), (Value.str (S "ring_bars") 499), (Value.str (S "/claim/cut.py") 500), (Value.int (Int.ofNat 106) 0), (Value.int (Int.ofNat 2) 0), (Value.int (Int.ofNat 0) 0), (Value.int (Int.ofNat 0) 0), (Value.int (Int.ofNat 3) 0), (R 243), (Value.bool true), (Value.int (Int.ofNat 181) 0), (R 244), Value.none, (R 245), (R 246), (R 247), (Value.int (Int.ofNat 507) 0), (Value.int (Int.ofNat 106) 0), (Value.str (S "/claim/cut.py") 508)])) (List.toArray [])
abbrev o249 (P : Params) : Obj := Obj.mk (Value.type "function") none (Data.func (FuncData.mk (S "ring_bars") (S "ring_bars") (defArgs (T 26)) (FuncBody.stmts (defBody (T 26))) (defScope (T 26)) 3 [] Value.none Value.none Value.none (Value.str (S "budwright.tables") 438) none (R 248) Value.none 0)) (List.toArray [])
abbrev o250 (P : Params) : Obj := Obj.mk (Value.type "tuple") none (Data.seq (List.toArray []) 0) (List.toArray [])
abbrev o252 (P : Params) : Obj := Obj.mk (Value.type "tuple") none (Data.seq (List.toArray [(Value.str (S "table") 513), (Value.str (S "many") 514), (Value.str (S "i") 515), (Value.str (S "j") 516), (Value.str (S "ring") 517)]) 0) (List.toArray [])
abbrev o253 (P : Params) : Obj := Obj.mk (Value.type "tuple") none (Data.seq (List.toArray []) 0) (List.toArray [])
abbrev o255 (P : Params) : Obj := Obj.mk (Value.type "code") none (Data.fields (List.toArray [(Value.str (S "barred") 510), (Value.str (S "barred") 511), (Value.str (S "/claim/cut.py") 512), (Value.int (Int.ofNat 113) 0), (Value.int (Int.ofNat 1) 0), (Value.int (Int.ofNat 0) 0), (Value.int (Int.ofNat 0) 0), (Value.int (Int.ofNat 3) 0), (R 250), (Value.bool true), (Value.int (Int.ofNat 181) 0), (R 251), Value.none, (R 252), (R 253), (R 254), (Value.int (Int.ofNat 518) 0), (Value.int (Int.ofNat 113) 0), (Value.str (S "/claim/cut.py") 519)])) (List.toArray [])
abbrev o256 (P : Params) : Obj := Obj.mk (Value.type "function") none (Data.func (FuncData.mk (S "barred") (S "barred") (defArgs (T 27)) (FuncBody.stmts (defBody (T 27))) (defScope (T 27)) 3 [] Value.none Value.none Value.none (Value.str (S "budwright.tables") 438) none (R 255) Value.none 0)) (List.toArray [])
abbrev o257 (P : Params) : Obj := Obj.mk (Value.type "tuple") none (Data.seq (List.toArray []) 0) (List.toArray [])
abbrev o260 (P : Params) : Obj := Obj.mk (Value.type "code") none (Data.fields (List.toArray [(Value.str (S "turned_row") 521), (Value.str (S "turned_row") 522), (Value.str (S "/claim/cut.py") 523), (Value.int (Int.ofNat 124) 0), (Value.int (Int.ofNat 4) 0), (Value.int (Int.ofNat 0) 0), (Value.int (Int.ofNat 0) 0), (Value.int (Int.ofNat 3) 0), (R 257), (Value.bool true), (Value.int (Int.ofNat 181) 0), (R 258), Value.none, Value.none, Value.none, (R 259), (Value.int (Int.ofNat 524) 0), (Value.int (Int.ofNat 124) 0), (Value.str (S "/claim/cut.py") 525)])) (List.toArray [])
abbrev o261 (P : Params) : Obj := Obj.mk (Value.type "function") none (Data.func (FuncData.mk (S "turned_row") (S "turned_row") (defArgs (T 28)) (FuncBody.stmts (defBody (T 28))) (defScope (T 28)) 3 [] Value.none Value.none Value.none (Value.str (S "budwright.tables") 438) none (R 260) Value.none 0)) (List.toArray [])
abbrev o262 (P : Params) : Obj := Obj.mk (Value.type "tuple") none (Data.seq (List.toArray []) 0) (List.toArray [])
abbrev o265 (P : Params) : Obj := Obj.mk (Value.type "code") none (Data.fields (List.toArray [(Value.str (S "turned_table") 527), (Value.str (S "turned_table") 528), (Value.str (S "/claim/cut.py") 529), (Value.int (Int.ofNat 129) 0), (Value.int (Int.ofNat 2) 0), (Value.int (Int.ofNat 0) 0), (Value.int (Int.ofNat 0) 0), (Value.int (Int.ofNat 3) 0), (R 262), (Value.bool true), (Value.int (Int.ofNat 181) 0), (R 263), Value.none, Value.none, Value.none, (R 264), (Value.int (Int.ofNat 530) 0), (Value.int (Int.ofNat 129) 0), (Value.str (S "/claim/cut.py") 531)])) (List.toArray [])
abbrev o266 (P : Params) : Obj := Obj.mk (Value.type "function") none (Data.func (FuncData.mk (S "turned_table") (S "turned_table") (defArgs (T 29)) (FuncBody.stmts (defBody (T 29))) (defScope (T 29)) 3 [] Value.none Value.none Value.none (Value.str (S "budwright.tables") 438) none (R 265) Value.none 0)) (List.toArray [])
abbrev o267 (P : Params) : Obj := Obj.mk (Value.type "tuple") none (Data.seq (List.toArray []) 0) (List.toArray [])
abbrev o269 (P : Params) : Obj := Obj.mk (Value.type "tuple") none (Data.seq (List.toArray [(Value.str (S "worths") 542), (Value.str (S "column") 543), (Value.str (S "top") 544), (Value.str (S "under") 545), (Value.str (S "worth") 546), (Value.str (S "tie") 547)]) 0) (List.toArray [])
abbrev o270 (P : Params) : Obj := Obj.mk (Value.type "tuple") none (Data.seq (List.toArray []) 0) (List.toArray [])
abbrev o272 (P : Params) : Obj := Obj.mk (Value.type "code") none (Data.fields (List.toArray [(Value.str (S "side_worth") 539), (Value.str (S "side_worth") 540), (Value.str (S "/claim/cut.py") 541), (Value.int (Int.ofNat 142) 0), (Value.int (Int.ofNat 2) 0), (Value.int (Int.ofNat 0) 0), (Value.int (Int.ofNat 0) 0), (Value.int (Int.ofNat 3) 0), (R 267), (Value.bool true), (Value.int (Int.ofNat 181) 0), (R 268), Value.none, (R 269), (R 270), (R 271), (Value.int (Int.ofNat 548) 0), (Value.int (Int.ofNat 142) 0), (Value.str (S "/claim/cut.py") 549)])) (List.toArray [])
abbrev o273 (P : Params) : Obj := Obj.mk (Value.type "function") none (Data.func (FuncData.mk (S "side_worth") (S "side_worth") (defArgs (T 32)) (FuncBody.stmts (defBody (T 32))) (defScope (T 32)) 3 [] Value.none Value.none Value.none (Value.str (S "budwright.walks") 533) none (R 272) Value.none 0)) (List.toArray [])
abbrev o274 (P : Params) : Obj := Obj.mk (Value.type "tuple") none (Data.seq (List.toArray []) 0) (List.toArray [])
abbrev o277 (P : Params) : Obj := Obj.mk (Value.type "code") none (Data.fields (List.toArray [(Value.str (S "new_worth") 551), (Value.str (S "new_worth") 552), (Value.str (S "/claim/cut.py") 553), (Value.int (Int.ofNat 150) 0), (Value.int (Int.ofNat 3) 0), (Value.int (Int.ofNat 0) 0), (Value.int (Int.ofNat 0) 0), (Value.int (Int.ofNat 3) 0), (R 274), (Value.bool true), (Value.int (Int.ofNat 181) 0), (R 275), Value.none, Value.none, Value.none, (R 276), (Value.int (Int.ofNat 554) 0), (Value.int (Int.ofNat 150) 0), (Value.str (S "/claim/cut.py") 555)])) (List.toArray [])
abbrev o278 (P : Params) : Obj := Obj.mk (Value.type "function") none (Data.func (FuncData.mk (S "new_worth") (S "new_worth") (defArgs (T 33)) (FuncBody.stmts (defBody (T 33))) (defScope (T 33)) 3 [] Value.none Value.none Value.none (Value.str (S "budwright.walks") 533) none (R 277) Value.none 0)) (List.toArray [])
abbrev o279 (P : Params) : Obj := Obj.mk (Value.type "tuple") none (Data.seq (List.toArray []) 0) (List.toArray [])
abbrev o281 (P : Params) : Obj := Obj.mk (Value.type "tuple") none (Data.seq (List.toArray [(Value.str (S "ties") 560), (Value.str (S "worths") 561), (Value.str (S "place") 562), (Value.str (S "after") 563), (Value.str (S "fresh") 564)]) 0) (List.toArray [])
abbrev o282 (P : Params) : Obj := Obj.mk (Value.type "tuple") none (Data.seq (List.toArray []) 0) (List.toArray [])
abbrev o284 (P : Params) : Obj := Obj.mk (Value.type "code") none (Data.fields (List.toArray [(Value.str (S "worth_step") 557), (Value.str (S "worth_step") 558), (Value.str (S "/claim/cut.py") 559), (Value.int (Int.ofNat 162) 0), (Value.int (Int.ofNat 3) 0), (Value.int (Int.ofNat 0) 0), (Value.int (Int.ofNat 0) 0), (Value.int (Int.ofNat 3) 0), (R 279), (Value.bool true), (Value.int (Int.ofNat 181) 0), (R 280), Value.none, (R 281), (R 282), (R 283), (Value.int (Int.ofNat 565) 0), (Value.int (Int.ofNat 162) 0), (Value.str (S "/claim/cut.py") 566)])) (List.toArray [])
abbrev o285 (P : Params) : Obj := Obj.mk (Value.type "function") none (Data.func (FuncData.mk (S "worth_step") (S "worth_step") (defArgs (T 34)) (FuncBody.stmts (defBody (T 34))) (defScope (T 34)) 3 [] Value.none Value.none Value.none (Value.str (S "budwright.walks") 533) none (R 284) Value.none 0)) (List.toArray [])
abbrev o286 (P : Params) : Obj := Obj.mk (Value.type "tuple") none (Data.seq (List.toArray []) 0) (List.toArray [])
abbrev o289 (P : Params) : Obj := Obj.mk (Value.type "code") none (Data.fields (List.toArray [(Value.str (S "frieze") 568), (Value.str (S "frieze") 569), (Value.str (S "/claim/cut.py") 570), (Value.int (Int.ofNat 169) 0), (Value.int (Int.ofNat 2) 0), (Value.int (Int.ofNat 0) 0), (Value.int (Int.ofNat 0) 0), (Value.int (Int.ofNat 3) 0), (R 286), (Value.bool true), (Value.int (Int.ofNat 181) 0), (R 287), Value.none, Value.none, Value.none, (R 288), (Value.int (Int.ofNat 571) 0), (Value.int (Int.ofNat 169) 0), (Value.str (S "/claim/cut.py") 572)])) (List.toArray [])
abbrev o290 (P : Params) : Obj := Obj.mk (Value.type "function") none (Data.func (FuncData.mk (S "frieze") (S "frieze") (defArgs (T 35)) (FuncBody.stmts (defBody (T 35))) (defScope (T 35)) 3 [] Value.none Value.none Value.none (Value.str (S "budwright.walks") 533) none (R 289) Value.none 0)) (List.toArray [])
abbrev o291 (P : Params) : Obj := Obj.mk (Value.type "tuple") none (Data.seq (List.toArray []) 0) (List.toArray [])
abbrev o293 (P : Params) : Obj := Obj.mk (Value.type "tuple") none (Data.seq (List.toArray [(Value.str (S "_law_script") 579)]) 0) (List.toArray [])
abbrev o294 (P : Params) : Obj := Obj.mk (Value.type "tuple") none (Data.seq (List.toArray []) 0) (List.toArray [])
abbrev o296 (P : Params) : Obj := Obj.mk (Value.type "code") none (Data.fields (List.toArray [(Value.str (S "_law_feed") 576), (Value.str (S "_law_feed") 577), (Value.str (S "/claim/cut.py") 578), (Value.int (Int.ofNat 181) 0), (Value.int (Int.ofNat 1) 0), (Value.int (Int.ofNat 0) 0), (Value.int (Int.ofNat 0) 0), (Value.int (Int.ofNat 3) 0), (R 291), (Value.bool true), (Value.int (Int.ofNat 181) 0), (R 292), Value.none, (R 293), (R 294), (R 295), (Value.int (Int.ofNat 580) 0), (Value.int (Int.ofNat 181) 0), (Value.str (S "/claim/cut.py") 581)])) (List.toArray [])
abbrev o297 (P : Params) : Obj := Obj.mk (Value.type "function") none (Data.func (FuncData.mk (S "_law_feed") (S "_law_feed") (defArgs (T 37)) (FuncBody.stmts (defBody (T 37))) (defScope (T 37)) 3 [] Value.none Value.none Value.none (Value.str (S "law_budwright_k36_whole_friezes_are_whole") 574) none (R 296) Value.none 0)) (List.toArray [])
abbrev o298 (P : Params) : Obj := Obj.mk (Value.type "tuple") none (Data.seq (List.toArray []) 0) (List.toArray [])
abbrev o300 (P : Params) : Obj := Obj.mk (Value.type "tuple") none (Data.seq (List.toArray [(Value.str (S "_law_feed_here") 586), (Value.str (S "_law_many") 587), (Value.str (S "_law_cell") 588), (Value.str (S "_law_digit") 589), (Value.str (S "_law_mix") 590)]) 0) (List.toArray [])
abbrev o301 (P : Params) : Obj := Obj.mk (Value.type "tuple") none (Data.seq (List.toArray []) 0) (List.toArray [])
abbrev o303 (P : Params) : Obj := Obj.mk (Value.type "code") none (Data.fields (List.toArray [(Value.str (S "_law_draw") 583), (Value.str (S "_law_draw") 584), (Value.str (S "/claim/cut.py") 585), (Value.int (Int.ofNat 183) 0), (Value.int (Int.ofNat 2) 0), (Value.int (Int.ofNat 0) 0), (Value.int (Int.ofNat 0) 0), (Value.int (Int.ofNat 3) 0), (R 298), (Value.bool true), (Value.int (Int.ofNat 181) 0), (R 299), Value.none, (R 300), (R 301), (R 302), (Value.int (Int.ofNat 591) 0), (Value.int (Int.ofNat 183) 0), (Value.str (S "/claim/cut.py") 592)])) (List.toArray [])
abbrev o304 (P : Params) : Obj := Obj.mk (Value.type "function") none (Data.func (FuncData.mk (S "_law_draw") (S "_law_draw") (defArgs (T 38)) (FuncBody.stmts (defBody (T 38))) (defScope (T 38)) 3 [] Value.none Value.none Value.none (Value.str (S "law_budwright_k36_whole_friezes_are_whole") 574) none (R 303) Value.none 0)) (List.toArray [])
abbrev o305 (P : Params) : Obj := Obj.mk (Value.type "tuple") none (Data.seq (List.toArray []) 0) (List.toArray [])
abbrev o307 (P : Params) : Obj := Obj.mk (Value.type "tuple") none (Data.seq (List.toArray [(Value.str (S "_law_feed_here") 597), (Value.str (S "_law_row") 598)]) 0) (List.toArray [])
abbrev o308 (P : Params) : Obj := Obj.mk (Value.type "tuple") none (Data.seq (List.toArray []) 0) (List.toArray [])
abbrev o310 (P : Params) : Obj := Obj.mk (Value.type "code") none (Data.fields (List.toArray [(Value.str (S "_law_pick") 594), (Value.str (S "_law_pick") 595), (Value.str (S "/claim/cut.py") 596), (Value.int (Int.ofNat 200) 0), (Value.int (Int.ofNat 2) 0), (Value.int (Int.ofNat 0) 0), (Value.int (Int.ofNat 0) 0), (Value.int (Int.ofNat 3) 0), (R 305), (Value.bool true), (Value.int (Int.ofNat 181) 0), (R 306), Value.none, (R 307), (R 308), (R 309), (Value.int (Int.ofNat 599) 0), (Value.int (Int.ofNat 200) 0), (Value.str (S "/claim/cut.py") 600)])) (List.toArray [])
abbrev o311 (P : Params) : Obj := Obj.mk (Value.type "function") none (Data.func (FuncData.mk (S "_law_pick") (S "_law_pick") (defArgs (T 39)) (FuncBody.stmts (defBody (T 39))) (defScope (T 39)) 3 [] Value.none Value.none Value.none (Value.str (S "law_budwright_k36_whole_friezes_are_whole") 574) none (R 310) Value.none 0)) (List.toArray [])
abbrev o312 (P : Params) : Obj := Obj.mk (Value.type "tuple") none (Data.seq (List.toArray []) 0) (List.toArray [])
abbrev o315 (P : Params) : Obj := Obj.mk (Value.type "code") none (Data.fields (List.toArray [(Value.str (S "_law_same") 602), (Value.str (S "_law_same") 603), (Value.str (S "/claim/cut.py") 604), (Value.int (Int.ofNat 202) 0), (Value.int (Int.ofNat 2) 0), (Value.int (Int.ofNat 0) 0), (Value.int (Int.ofNat 0) 0), (Value.int (Int.ofNat 3) 0), (R 312), (Value.bool true), (Value.int (Int.ofNat 181) 0), (R 313), Value.none, Value.none, Value.none, (R 314), (Value.int (Int.ofNat 605) 0), (Value.int (Int.ofNat 202) 0), (Value.str (S "/claim/cut.py") 606)])) (List.toArray [])
abbrev o316 (P : Params) : Obj := Obj.mk (Value.type "function") none (Data.func (FuncData.mk (S "_law_same") (S "_law_same") (defArgs (T 40)) (FuncBody.stmts (defBody (T 40))) (defScope (T 40)) 3 [] Value.none Value.none Value.none (Value.str (S "law_budwright_k36_whole_friezes_are_whole") 574) none (R 315) Value.none 0)) (List.toArray [])
abbrev o317 (P : Params) : Obj := Obj.mk (Value.type "tuple") none (Data.seq (List.toArray []) 0) (List.toArray [])
abbrev o319 (P : Params) : Obj := Obj.mk (Value.type "tuple") none (Data.seq (List.toArray [(Value.str (S "_law_asked") 611), (Value.str (S "e") 612)]) 0) (List.toArray [])
abbrev o320 (P : Params) : Obj := Obj.mk (Value.type "tuple") none (Data.seq (List.toArray []) 0) (List.toArray [])
abbrev o322 (P : Params) : Obj := Obj.mk (Value.type "code") none (Data.fields (List.toArray [(Value.str (S "_law_word") 608), (Value.str (S "_law_word") 609), (Value.str (S "/claim/cut.py") 610), (Value.int (Int.ofNat 218) 0), (Value.int (Int.ofNat 1) 0), (Value.int (Int.ofNat 0) 0), (Value.int (Int.ofNat 0) 0), (Value.int (Int.ofNat 3) 0), (R 317), (Value.bool true), (Value.int (Int.ofNat 181) 0), (R 318), Value.none, (R 319), (R 320), (R 321), (Value.int (Int.ofNat 613) 0), (Value.int (Int.ofNat 218) 0), (Value.str (S "/claim/cut.py") 614)])) (List.toArray [])
abbrev o323 (P : Params) : Obj := Obj.mk (Value.type "function") none (Data.func (FuncData.mk (S "_law_word") (S "_law_word") (defArgs (T 41)) (FuncBody.stmts (defBody (T 41))) (defScope (T 41)) 3 [] Value.none Value.none Value.none (Value.str (S "law_budwright_k36_whole_friezes_are_whole") 574) none (R 322) Value.none 0)) (List.toArray [])
abbrev o324 (P : Params) : Obj := Obj.mk (Value.type "tuple") none (Data.seq (List.toArray []) 0) (List.toArray [])
abbrev o326 (P : Params) : Obj := Obj.mk (Value.type "tuple") none (Data.seq (List.toArray [(Value.str (S "_law_one") 619), (Value.str (S "_law_other") 620)]) 0) (List.toArray [])
abbrev o327 (P : Params) : Obj := Obj.mk (Value.type "tuple") none (Data.seq (List.toArray []) 0) (List.toArray [])
abbrev o329 (P : Params) : Obj := Obj.mk (Value.type "code") none (Data.fields (List.toArray [(Value.str (S "_law_gcd") 616), (Value.str (S "_law_gcd") 617), (Value.str (S "/claim/cut.py") 618), (Value.int (Int.ofNat 226) 0), (Value.int (Int.ofNat 2) 0), (Value.int (Int.ofNat 0) 0), (Value.int (Int.ofNat 0) 0), (Value.int (Int.ofNat 3) 0), (R 324), (Value.bool true), (Value.int (Int.ofNat 181) 0), (R 325), Value.none, (R 326), (R 327), (R 328), (Value.int (Int.ofNat 621) 0), (Value.int (Int.ofNat 226) 0), (Value.str (S "/claim/cut.py") 622)])) (List.toArray [])
abbrev o330 (P : Params) : Obj := Obj.mk (Value.type "function") none (Data.func (FuncData.mk (S "_law_gcd") (S "_law_gcd") (defArgs (T 42)) (FuncBody.stmts (defBody (T 42))) (defScope (T 42)) 3 [] Value.none Value.none Value.none (Value.str (S "law_budwright_k36_whole_friezes_are_whole") 574) none (R 329) Value.none 0)) (List.toArray [])
abbrev o331 (P : Params) : Obj := Obj.mk (Value.type "tuple") none (Data.seq (List.toArray []) 0) (List.toArray [])
abbrev o333 (P : Params) : Obj := Obj.mk (Value.type "tuple") none (Data.seq (List.toArray [(Value.str (S "_law_top") 627), (Value.str (S "_law_under") 628), (Value.str (S "_law_by") 629)]) 0) (List.toArray [])
abbrev o334 (P : Params) : Obj := Obj.mk (Value.type "tuple") none (Data.seq (List.toArray []) 0) (List.toArray [])
abbrev o336 (P : Params) : Obj := Obj.mk (Value.type "code") none (Data.fields (List.toArray [(Value.str (S "_law_low") 624), (Value.str (S "_law_low") 625), (Value.str (S "/claim/cut.py") 626), (Value.int (Int.ofNat 230) 0), (Value.int (Int.ofNat 2) 0), (Value.int (Int.ofNat 0) 0), (Value.int (Int.ofNat 0) 0), (Value.int (Int.ofNat 3) 0), (R 331), (Value.bool true), (Value.int (Int.ofNat 181) 0), (R 332), Value.none, (R 333), (R 334), (R 335), (Value.int (Int.ofNat 630) 0), (Value.int (Int.ofNat 230) 0), (Value.str (S "/claim/cut.py") 631)])) (List.toArray [])
abbrev o337 (P : Params) : Obj := Obj.mk (Value.type "function") none (Data.func (FuncData.mk (S "_law_low") (S "_law_low") (defArgs (T 43)) (FuncBody.stmts (defBody (T 43))) (defScope (T 43)) 3 [] Value.none Value.none Value.none (Value.str (S "law_budwright_k36_whole_friezes_are_whole") 574) none (R 336) Value.none 0)) (List.toArray [])
abbrev o338 (P : Params) : Obj := Obj.mk (Value.type "tuple") none (Data.seq (List.toArray []) 0) (List.toArray [])
abbrev o340 (P : Params) : Obj := Obj.mk (Value.type "tuple") none (Data.seq (List.toArray [(Value.str (S "_law_one") 636), (Value.str (S "_law_other") 637)]) 0) (List.toArray [])
abbrev o341 (P : Params) : Obj := Obj.mk (Value.type "tuple") none (Data.seq (List.toArray []) 0) (List.toArray [])
abbrev o343 (P : Params) : Obj := Obj.mk (Value.type "code") none (Data.fields (List.toArray [(Value.str (S "_law_add") 633), (Value.str (S "_law_add") 634), (Value.str (S "/claim/cut.py") 635), (Value.int (Int.ofNat 235) 0), (Value.int (Int.ofNat 2) 0), (Value.int (Int.ofNat 0) 0), (Value.int (Int.ofNat 0) 0), (Value.int (Int.ofNat 3) 0), (R 338), (Value.bool true), (Value.int (Int.ofNat 181) 0), (R 339), Value.none, (R 340), (R 341), (R 342), (Value.int (Int.ofNat 638) 0), (Value.int (Int.ofNat 235) 0), (Value.str (S "/claim/cut.py") 639)])) (List.toArray [])
abbrev o344 (P : Params) : Obj := Obj.mk (Value.type "function") none (Data.func (FuncData.mk (S "_law_add") (S "_law_add") (defArgs (T 44)) (FuncBody.stmts (defBody (T 44))) (defScope (T 44)) 3 [] Value.none Value.none Value.none (Value.str (S "law_budwright_k36_whole_friezes_are_whole") 574) none (R 343) Value.none 0)) (List.toArray [])
abbrev o345 (P : Params) : Obj := Obj.mk (Value.type "tuple") none (Data.seq (List.toArray []) 0) (List.toArray [])
abbrev o347 (P : Params) : Obj := Obj.mk (Value.type "tuple") none (Data.seq (List.toArray [(Value.str (S "_law_one") 644), (Value.str (S "_law_other") 645)]) 0) (List.toArray [])
abbrev o348 (P : Params) : Obj := Obj.mk (Value.type "tuple") none (Data.seq (List.toArray []) 0) (List.toArray [])
abbrev o350 (P : Params) : Obj := Obj.mk (Value.type "code") none (Data.fields (List.toArray [(Value.str (S "_law_div") 641), (Value.str (S "_law_div") 642), (Value.str (S "/claim/cut.py") 643), (Value.int (Int.ofNat 237) 0), (Value.int (Int.ofNat 2) 0), (Value.int (Int.ofNat 0) 0), (Value.int (Int.ofNat 0) 0), (Value.int (Int.ofNat 3) 0), (R 345), (Value.bool true), (Value.int (Int.ofNat 181) 0), (R 346), Value.none, (R 347), (R 348), (R 349), (Value.int (Int.ofNat 646) 0), (Value.int (Int.ofNat 237) 0), (Value.str (S "/claim/cut.py") 647)])) (List.toArray [])
abbrev o351 (P : Params) : Obj := Obj.mk (Value.type "function") none (Data.func (FuncData.mk (S "_law_div") (S "_law_div") (defArgs (T 45)) (FuncBody.stmts (defBody (T 45))) (defScope (T 45)) 3 [] Value.none Value.none Value.none (Value.str (S "law_budwright_k36_whole_friezes_are_whole") 574) none (R 350) Value.none 0)) (List.toArray [])
abbrev o352 (P : Params) : Obj := Obj.mk (Value.type "tuple") none (Data.seq (List.toArray []) 0) (List.toArray [])
abbrev o354 (P : Params) : Obj := Obj.mk (Value.type "tuple") none (Data.seq (List.toArray [(Value.str (S "_law_one") 652), (Value.str (S "_law_many") 653), (Value.str (S "_law_top") 654), (Value.str (S "_law_under") 655), (Value.str (S "_law_turn_here") 656)]) 0) (List.toArray [])
abbrev o355 (P : Params) : Obj := Obj.mk (Value.type "tuple") none (Data.seq (List.toArray []) 0) (List.toArray [])
abbrev o357 (P : Params) : Obj := Obj.mk (Value.type "code") none (Data.fields (List.toArray [(Value.str (S "_law_pow") 649), (Value.str (S "_law_pow") 650), (Value.str (S "/claim/cut.py") 651), (Value.int (Int.ofNat 239) 0), (Value.int (Int.ofNat 2) 0), (Value.int (Int.ofNat 0) 0), (Value.int (Int.ofNat 0) 0), (Value.int (Int.ofNat 3) 0), (R 352), (Value.bool true), (Value.int (Int.ofNat 181) 0), (R 353), Value.none, (R 354), (R 355), (R 356), (Value.int (Int.ofNat 657) 0), (Value.int (Int.ofNat 239) 0), (Value.str (S "/claim/cut.py") 658)])) (List.toArray [])
abbrev o358 (P : Params) : Obj := Obj.mk (Value.type "function") none (Data.func (FuncData.mk (S "_law_pow") (S "_law_pow") (defArgs (T 46)) (FuncBody.stmts (defBody (T 46))) (defScope (T 46)) 3 [] Value.none Value.none Value.none (Value.str (S "law_budwright_k36_whole_friezes_are_whole") 574) none (R 357) Value.none 0)) (List.toArray [])
abbrev o359 (P : Params) : Obj := Obj.mk (Value.type "tuple") none (Data.seq (List.toArray []) 0) (List.toArray [])
abbrev o361 (P : Params) : Obj := Obj.mk (Value.type "tuple") none (Data.seq (List.toArray [(Value.str (S "_law_ties") 663), (Value.str (S "_law_place") 664), (Value.str (S "_law_found") 665), (Value.str (S "_law_i") 666), (Value.str (S "_law_row") 667), (Value.str (S "_law_j") 668), (Value.str (S "_law_tie") 669), (Value.str (S "_law_one") 670), (Value.str (S "_law_other") 671)]) 0) (List.toArray [])
abbrev o362 (P : Params) : Obj := Obj.mk (Value.type "tuple") none (Data.seq (List.toArray []) 0) (List.toArray [])
abbrev o364 (P : Params) : Obj := Obj.mk (Value.type "code") none (Data.fields (List.toArray [(Value.str (S "_law_turn") 660), (Value.str (S "_law_turn") 661), (Value.str (S "/claim/cut.py") 662), (Value.int (Int.ofNat 244) 0), (Value.int (Int.ofNat 2) 0), (Value.int (Int.ofNat 0) 0), (Value.int (Int.ofNat 0) 0), (Value.int (Int.ofNat 3) 0), (R 359), (Value.bool true), (Value.int (Int.ofNat 181) 0), (R 360), Value.none, (R 361), (R 362), (R 363), (Value.int (Int.ofNat 672) 0), (Value.int (Int.ofNat 244) 0), (Value.str (S "/claim/cut.py") 673)])) (List.toArray [])
abbrev o365 (P : Params) : Obj := Obj.mk (Value.type "function") none (Data.func (FuncData.mk (S "_law_turn") (S "_law_turn") (defArgs (T 47)) (FuncBody.stmts (defBody (T 47))) (defScope (T 47)) 3 [] Value.none Value.none Value.none (Value.str (S "law_budwright_k36_whole_friezes_are_whole") 574) none (R 364) Value.none 0)) (List.toArray [])
abbrev o366 (P : Params) : Obj := Obj.mk (Value.type "tuple") none (Data.seq (List.toArray []) 0) (List.toArray [])
abbrev o369 (P : Params) : Obj := Obj.mk (Value.type "code") none (Data.fields (List.toArray [(Value.str (S "_law_wide_ties") 675), (Value.str (S "_law_wide_ties") 676), (Value.str (S "/claim/cut.py") 677), (Value.int (Int.ofNat 258) 0), (Value.int (Int.ofNat 1) 0), (Value.int (Int.ofNat 0) 0), (Value.int (Int.ofNat 0) 0), (Value.int (Int.ofNat 3) 0), (R 366), (Value.bool true), (Value.int (Int.ofNat 181) 0), (R 367), Value.none, Value.none, Value.none, (R 368), (Value.int (Int.ofNat 678) 0), (Value.int (Int.ofNat 258) 0), (Value.str (S "/claim/cut.py") 679)])) (List.toArray [])
abbrev o370 (P : Params) : Obj := Obj.mk (Value.type "function") none (Data.func (FuncData.mk (S "_law_wide_ties") (S "_law_wide_ties") (defArgs (T 48)) (FuncBody.stmts (defBody (T 48))) (defScope (T 48)) 3 [] Value.none Value.none Value.none (Value.str (S "law_budwright_k36_whole_friezes_are_whole") 574) none (R 369) Value.none 0)) (List.toArray [])
abbrev o371 (P : Params) : Obj := Obj.mk (Value.type "tuple") none (Data.seq (List.toArray []) 0) (List.toArray [])
abbrev o373 (P : Params) : Obj := Obj.mk (Value.type "tuple") none (Data.seq (List.toArray [(Value.str (S "_law_ties") 684), (Value.str (S "_law_worths") 685), (Value.str (S "_law_place") 686), (Value.str (S "_law_above") 687), (Value.str (S "_law_below") 688), (Value.str (S "_law_i") 689), (Value.str (S "_law_tie") 690), (Value.str (S "_law_more") 691), (Value.str (S "_law_k") 692)]) 0) (List.toArray [])
abbrev o374 (P : Params) : Obj := Obj.mk (Value.type "tuple") none (Data.seq (List.toArray []) 0) (List.toArray [])
abbrev o376 (P : Params) : Obj := Obj.mk (Value.type "code") none (Data.fields (List.toArray [(Value.str (S "_law_both") 681), (Value.str (S "_law_both") 682), (Value.str (S "/claim/cut.py") 683), (Value.int (Int.ofNat 260) 0), (Value.int (Int.ofNat 3) 0), (Value.int (Int.ofNat 0) 0), (Value.int (Int.ofNat 0) 0), (Value.int (Int.ofNat 3) 0), (R 371), (Value.bool true), (Value.int (Int.ofNat 181) 0), (R 372), Value.none, (R 373), (R 374), (R 375), (Value.int (Int.ofNat 693) 0), (Value.int (Int.ofNat 260) 0), (Value.str (S "/claim/cut.py") 694)])) (List.toArray [])
abbrev o377 (P : Params) : Obj := Obj.mk (Value.type "function") none (Data.func (FuncData.mk (S "_law_both") (S "_law_both") (defArgs (T 49)) (FuncBody.stmts (defBody (T 49))) (defScope (T 49)) 3 [] Value.none Value.none Value.none (Value.str (S "law_budwright_k36_whole_friezes_are_whole") 574) none (R 376) Value.none 0)) (List.toArray [])
abbrev o378 (P : Params) : Obj := Obj.mk (Value.type "tuple") none (Data.seq (List.toArray []) 0) (List.toArray [])
abbrev o380 (P : Params) : Obj := Obj.mk (Value.type "tuple") none (Data.seq (List.toArray [(Value.str (S "_law_ties") 699), (Value.str (S "_law_worths") 700), (Value.str (S "_law_place") 701), (Value.str (S "_law_fresh") 702)]) 0) (List.toArray [])
abbrev o381 (P : Params) : Obj := Obj.mk (Value.type "tuple") none (Data.seq (List.toArray []) 0) (List.toArray [])
abbrev o383 (P : Params) : Obj := Obj.mk (Value.type "code") none (Data.fields (List.toArray [(Value.str (S "_law_step") 696), (Value.str (S "_law_step") 697), (Value.str (S "/claim/cut.py") 698), (Value.int (Int.ofNat 271) 0), (Value.int (Int.ofNat 3) 0), (Value.int (Int.ofNat 0) 0), (Value.int (Int.ofNat 0) 0), (Value.int (Int.ofNat 3) 0), (R 378), (Value.bool true), (Value.int (Int.ofNat 181) 0), (R 379), Value.none, (R 380), (R 381), (R 382), (Value.int (Int.ofNat 703) 0), (Value.int (Int.ofNat 271) 0), (Value.str (S "/claim/cut.py") 704)])) (List.toArray [])
abbrev o384 (P : Params) : Obj := Obj.mk (Value.type "function") none (Data.func (FuncData.mk (S "_law_step") (S "_law_step") (defArgs (T 50)) (FuncBody.stmts (defBody (T 50))) (defScope (T 50)) 3 [] Value.none Value.none Value.none (Value.str (S "law_budwright_k36_whole_friezes_are_whole") 574) none (R 383) Value.none 0)) (List.toArray [])
abbrev o385 (P : Params) : Obj := Obj.mk (Value.type "tuple") none (Data.seq (List.toArray []) 0) (List.toArray [])
abbrev o388 (P : Params) : Obj := Obj.mk (Value.type "code") none (Data.fields (List.toArray [(Value.str (S "_law_even") 706), (Value.str (S "_law_even") 707), (Value.str (S "/claim/cut.py") 708), (Value.int (Int.ofNat 274) 0), (Value.int (Int.ofNat 3) 0), (Value.int (Int.ofNat 0) 0), (Value.int (Int.ofNat 0) 0), (Value.int (Int.ofNat 3) 0), (R 385), (Value.bool true), (Value.int (Int.ofNat 181) 0), (R 386), Value.none, Value.none, Value.none, (R 387), (Value.int (Int.ofNat 709) 0), (Value.int (Int.ofNat 274) 0), (Value.str (S "/claim/cut.py") 710)])) (List.toArray [])
abbrev o389 (P : Params) : Obj := Obj.mk (Value.type "function") none (Data.func (FuncData.mk (S "_law_even") (S "_law_even") (defArgs (T 51)) (FuncBody.stmts (defBody (T 51))) (defScope (T 51)) 3 [] Value.none Value.none Value.none (Value.str (S "law_budwright_k36_whole_friezes_are_whole") 574) none (R 388) Value.none 0)) (List.toArray [])
abbrev o390 (P : Params) : Obj := Obj.mk (Value.type "tuple") none (Data.seq (List.toArray []) 0) (List.toArray [])
abbrev o393 (P : Params) : Obj := Obj.mk (Value.type "code") none (Data.fields (List.toArray [(Value.str (S "_law_roots") 712), (Value.str (S "_law_roots") 713), (Value.str (S "/claim/cut.py") 714), (Value.int (Int.ofNat 285) 0), (Value.int (Int.ofNat 4) 0), (Value.int (Int.ofNat 0) 0), (Value.int (Int.ofNat 0) 0), (Value.int (Int.ofNat 3) 0), (R 390), (Value.bool true), (Value.int (Int.ofNat 181) 0), (R 391), Value.none, Value.none, Value.none, (R 392), (Value.int (Int.ofNat 715) 0), (Value.int (Int.ofNat 285) 0), (Value.str (S "/claim/cut.py") 716)])) (List.toArray [])
abbrev o394 (P : Params) : Obj := Obj.mk (Value.type "function") none (Data.func (FuncData.mk (S "_law_roots") (S "_law_roots") (defArgs (T 52)) (FuncBody.stmts (defBody (T 52))) (defScope (T 52)) 3 [] Value.none Value.none Value.none (Value.str (S "law_budwright_k36_whole_friezes_are_whole") 574) none (R 393) Value.none 0)) (List.toArray [])
abbrev o395 (P : Params) : Obj := Obj.mk (Value.type "tuple") none (Data.seq (List.toArray []) 0) (List.toArray [])
abbrev o397 (P : Params) : Obj := Obj.mk (Value.type "tuple") none (Data.seq (List.toArray [(Value.str (S "_law_feed_here") 721), (Value.str (S "_law_most_buds") 722), (Value.str (S "_law_most_roots") 723), (Value.str (S "_law_ties") 724)]) 0) (List.toArray [])
abbrev o398 (P : Params) : Obj := Obj.mk (Value.type "tuple") none (Data.seq (List.toArray []) 0) (List.toArray [])
abbrev o400 (P : Params) : Obj := Obj.mk (Value.type "code") none (Data.fields (List.toArray [(Value.str (S "_law_small") 718), (Value.str (S "_law_small") 719), (Value.str (S "/claim/cut.py") 720), (Value.int (Int.ofNat 290) 0), (Value.int (Int.ofNat 3) 0), (Value.int (Int.ofNat 0) 0), (Value.int (Int.ofNat 0) 0), (Value.int (Int.ofNat 3) 0), (R 395), (Value.bool true), (Value.int (Int.ofNat 181) 0), (R 396), Value.none, (R 397), (R 398), (R 399), (Value.int (Int.ofNat 725) 0), (Value.int (Int.ofNat 290) 0), (Value.str (S "/claim/cut.py") 726)])) (List.toArray [])
abbrev o401 (P : Params) : Obj := Obj.mk (Value.type "function") none (Data.func (FuncData.mk (S "_law_small") (S "_law_small") (defArgs (T 53)) (FuncBody.stmts (defBody (T 53))) (defScope (T 53)) 3 [] Value.none Value.none Value.none (Value.str (S "law_budwright_k36_whole_friezes_are_whole") 574) none (R 400) Value.none 0)) (List.toArray [])
abbrev o402 (P : Params) : Obj := Obj.mk (Value.type "tuple") none (Data.seq (List.toArray []) 0) (List.toArray [])
abbrev o405 (P : Params) : Obj := Obj.mk (Value.type "code") none (Data.fields (List.toArray [(Value.str (S "law") 728), (Value.str (S "law") 729), (Value.str (S "/claim/cut.py") 730), (Value.int (Int.ofNat 293) 0), (Value.int (Int.ofNat 1) 0), (Value.int (Int.ofNat 0) 0), (Value.int (Int.ofNat 0) 0), (Value.int (Int.ofNat 3) 0), (R 402), (Value.bool true), (Value.int (Int.ofNat 181) 0), (R 403), Value.none, Value.none, Value.none, (R 404), (Value.int (Int.ofNat 731) 0), (Value.int (Int.ofNat 293) 0), (Value.str (S "/claim/cut.py") 732)])) (List.toArray [])
abbrev o406 (P : Params) : Obj := Obj.mk (Value.type "function") none (Data.func (FuncData.mk (S "law") (S "law") (defArgs (T 54)) (FuncBody.stmts (defBody (T 54))) (defScope (T 54)) 3 [] Value.none Value.none Value.none (Value.str (S "law_budwright_k36_whole_friezes_are_whole") 574) none (R 405) Value.none 0)) (List.toArray [])
def K (P : Params) : Frag := (nat_lit 2, o2 P) :: (nat_lit 3, o3 P) :: (nat_lit 15, o15 P) :: (nat_lit 22, o22 P) :: (nat_lit 24, o24 P) :: (nat_lit 25, o25 P) :: (nat_lit 27, o27 P) :: (nat_lit 28, o28 P) :: (nat_lit 29, o29 P) :: (nat_lit 30, o30 P) :: (nat_lit 31, o31 P) :: (nat_lit 32, o32 P) :: (nat_lit 35, o35 P) :: (nat_lit 42, o42 P) :: (nat_lit 44, o44 P) :: (nat_lit 45, o45 P) :: (nat_lit 47, o47 P) :: (nat_lit 48, o48 P) :: (nat_lit 49, o49 P) :: (nat_lit 50, o50 P) :: (nat_lit 51, o51 P) :: (nat_lit 54, o54 P) :: (nat_lit 61, o61 P) :: (nat_lit 63, o63 P) :: (nat_lit 64, o64 P) :: (nat_lit 66, o66 P) :: (nat_lit 67, o67 P) :: (nat_lit 68, o68 P) :: (nat_lit 69, o69 P) :: (nat_lit 70, o70 P) :: (nat_lit 73, o73 P) :: (nat_lit 80, o80 P) :: (nat_lit 82, o82 P) :: (nat_lit 83, o83 P) :: (nat_lit 85, o85 P) :: (nat_lit 86, o86 P) :: (nat_lit 87, o87 P) :: (nat_lit 88, o88 P) :: (nat_lit 89, o89 P) :: (nat_lit 92, o92 P) :: (nat_lit 99, o99 P) :: (nat_lit 101, o101 P) :: (nat_lit 102, o102 P) :: (nat_lit 104, o104 P) :: (nat_lit 105, o105 P) :: (nat_lit 106, o106 P) :: (nat_lit 107, o107 P) :: (nat_lit 108, o108 P) :: (nat_lit 109, o109 P) :: (nat_lit 112, o112 P) :: (nat_lit 119, o119 P) :: (nat_lit 121, o121 P) :: (nat_lit 122, o122 P) :: (nat_lit 124, o124 P) :: (nat_lit 125, o125 P) :: (nat_lit 126, o126 P) :: (nat_lit 127, o127 P) :: (nat_lit 128, o128 P) :: (nat_lit 129, o129 P) :: (nat_lit 132, o132 P) :: (nat_lit 139, o139 P) :: (nat_lit 141, o141 P) :: (nat_lit 142, o142 P) :: (nat_lit 144, o144 P) :: (nat_lit 145, o145 P) :: (nat_lit 146, o146 P) :: (nat_lit 147, o147 P) :: (nat_lit 148, o148 P) :: (nat_lit 149, o149 P) :: (nat_lit 152, o152 P) :: (nat_lit 159, o159 P) :: (nat_lit 161, o161 P) :: (nat_lit 162, o162 P) :: (nat_lit 164, o164 P) :: (nat_lit 165, o165 P) :: (nat_lit 166, o166 P) :: (nat_lit 167, o167 P) :: (nat_lit 168, o168 P) :: (nat_lit 169, o169 P) :: (nat_lit 172, o172 P) :: (nat_lit 174, o174 P) :: (nat_lit 175, o175 P) :: (nat_lit 177, o177 P) :: (nat_lit 178, o178 P) :: (nat_lit 179, o179 P) :: (nat_lit 181, o181 P) :: (nat_lit 182, o182 P) :: (nat_lit 184, o184 P) :: (nat_lit 185, o185 P) :: (nat_lit 186, o186 P) :: (nat_lit 188, o188 P) :: (nat_lit 189, o189 P) :: (nat_lit 191, o191 P) :: (nat_lit 192, o192 P) :: (nat_lit 193, o193 P) :: (nat_lit 195, o195 P) :: (nat_lit 196, o196 P) :: (nat_lit 198, o198 P) :: (nat_lit 199, o199 P) :: (nat_lit 200, o200 P) :: (nat_lit 203, o203 P) :: (nat_lit 204, o204 P) :: (nat_lit 205, o205 P) :: (nat_lit 208, o208 P) :: (nat_lit 209, o209 P) :: (nat_lit 210, o210 P) :: (nat_lit 212, o212 P) :: (nat_lit 213, o213 P) :: (nat_lit 215, o215 P) :: (nat_lit 216, o216 P) :: (nat_lit 217, o217 P) :: (nat_lit 219, o219 P) :: (nat_lit 220, o220 P) :: (nat_lit 222, o222 P) :: (nat_lit 223, o223 P) :: (nat_lit 224, o224 P) :: (nat_lit 226, o226 P) :: (nat_lit 227, o227 P) :: (nat_lit 229, o229 P) :: (nat_lit 230, o230 P) :: (nat_lit 231, o231 P) :: (nat_lit 234, o234 P) :: (nat_lit 235, o235 P) :: (nat_lit 236, o236 P) :: (nat_lit 238, o238 P) :: (nat_lit 239, o239 P) :: (nat_lit 241, o241 P) :: (nat_lit 242, o242 P) :: (nat_lit 243, o243 P) :: (nat_lit 245, o245 P) :: (nat_lit 246, o246 P) :: (nat_lit 248, o248 P) :: (nat_lit 249, o249 P) :: (nat_lit 250, o250 P) :: (nat_lit 252, o252 P) :: (nat_lit 253, o253 P) :: (nat_lit 255, o255 P) :: (nat_lit 256, o256 P) :: (nat_lit 257, o257 P) :: (nat_lit 260, o260 P) :: (nat_lit 261, o261 P) :: (nat_lit 262, o262 P) :: (nat_lit 265, o265 P) :: (nat_lit 266, o266 P) :: (nat_lit 267, o267 P) :: (nat_lit 269, o269 P) :: (nat_lit 270, o270 P) :: (nat_lit 272, o272 P) :: (nat_lit 273, o273 P) :: (nat_lit 274, o274 P) :: (nat_lit 277, o277 P) :: (nat_lit 278, o278 P) :: (nat_lit 279, o279 P) :: (nat_lit 281, o281 P) :: (nat_lit 282, o282 P) :: (nat_lit 284, o284 P) :: (nat_lit 285, o285 P) :: (nat_lit 286, o286 P) :: (nat_lit 289, o289 P) :: (nat_lit 290, o290 P) :: (nat_lit 291, o291 P) :: (nat_lit 293, o293 P) :: (nat_lit 294, o294 P) :: (nat_lit 296, o296 P) :: (nat_lit 297, o297 P) :: (nat_lit 298, o298 P) :: (nat_lit 300, o300 P) :: (nat_lit 301, o301 P) :: (nat_lit 303, o303 P) :: (nat_lit 304, o304 P) :: (nat_lit 305, o305 P) :: (nat_lit 307, o307 P) :: (nat_lit 308, o308 P) :: (nat_lit 310, o310 P) :: (nat_lit 311, o311 P) :: (nat_lit 312, o312 P) :: (nat_lit 315, o315 P) :: (nat_lit 316, o316 P) :: (nat_lit 317, o317 P) :: (nat_lit 319, o319 P) :: (nat_lit 320, o320 P) :: (nat_lit 322, o322 P) :: (nat_lit 323, o323 P) :: (nat_lit 324, o324 P) :: (nat_lit 326, o326 P) :: (nat_lit 327, o327 P) :: (nat_lit 329, o329 P) :: (nat_lit 330, o330 P) :: (nat_lit 331, o331 P) :: (nat_lit 333, o333 P) :: (nat_lit 334, o334 P) :: (nat_lit 336, o336 P) :: (nat_lit 337, o337 P) :: (nat_lit 338, o338 P) :: (nat_lit 340, o340 P) :: (nat_lit 341, o341 P) :: (nat_lit 343, o343 P) :: (nat_lit 344, o344 P) :: (nat_lit 345, o345 P) :: (nat_lit 347, o347 P) :: (nat_lit 348, o348 P) :: (nat_lit 350, o350 P) :: (nat_lit 351, o351 P) :: (nat_lit 352, o352 P) :: (nat_lit 354, o354 P) :: (nat_lit 355, o355 P) :: (nat_lit 357, o357 P) :: (nat_lit 358, o358 P) :: (nat_lit 359, o359 P) :: (nat_lit 361, o361 P) :: (nat_lit 362, o362 P) :: (nat_lit 364, o364 P) :: (nat_lit 365, o365 P) :: (nat_lit 366, o366 P) :: (nat_lit 369, o369 P) :: (nat_lit 370, o370 P) :: (nat_lit 371, o371 P) :: (nat_lit 373, o373 P) :: (nat_lit 374, o374 P) :: (nat_lit 376, o376 P) :: (nat_lit 377, o377 P) :: (nat_lit 378, o378 P) :: (nat_lit 380, o380 P) :: (nat_lit 381, o381 P) :: (nat_lit 383, o383 P) :: (nat_lit 384, o384 P) :: (nat_lit 385, o385 P) :: (nat_lit 388, o388 P) :: (nat_lit 389, o389 P) :: (nat_lit 390, o390 P) :: (nat_lit 393, o393 P) :: (nat_lit 394, o394 P) :: (nat_lit 395, o395 P) :: (nat_lit 397, o397 P) :: (nat_lit 398, o398 P) :: (nat_lit 400, o400 P) :: (nat_lit 401, o401 P) :: (nat_lit 402, o402 P) :: (nat_lit 405, o405 P) :: (nat_lit 406, o406 P) :: []
def as : List Addr := nat_lit 2 :: nat_lit 3 :: nat_lit 15 :: nat_lit 22 :: nat_lit 24 :: nat_lit 25 :: nat_lit 27 :: nat_lit 28 :: nat_lit 29 :: nat_lit 30 :: nat_lit 31 :: nat_lit 32 :: nat_lit 35 :: nat_lit 42 :: nat_lit 44 :: nat_lit 45 :: nat_lit 47 :: nat_lit 48 :: nat_lit 49 :: nat_lit 50 :: nat_lit 51 :: nat_lit 54 :: nat_lit 61 :: nat_lit 63 :: nat_lit 64 :: nat_lit 66 :: nat_lit 67 :: nat_lit 68 :: nat_lit 69 :: nat_lit 70 :: nat_lit 73 :: nat_lit 80 :: nat_lit 82 :: nat_lit 83 :: nat_lit 85 :: nat_lit 86 :: nat_lit 87 :: nat_lit 88 :: nat_lit 89 :: nat_lit 92 :: nat_lit 99 :: nat_lit 101 :: nat_lit 102 :: nat_lit 104 :: nat_lit 105 :: nat_lit 106 :: nat_lit 107 :: nat_lit 108 :: nat_lit 109 :: nat_lit 112 :: nat_lit 119 :: nat_lit 121 :: nat_lit 122 :: nat_lit 124 :: nat_lit 125 :: nat_lit 126 :: nat_lit 127 :: nat_lit 128 :: nat_lit 129 :: nat_lit 132 :: nat_lit 139 :: nat_lit 141 :: nat_lit 142 :: nat_lit 144 :: nat_lit 145 :: nat_lit 146 :: nat_lit 147 :: nat_lit 148 :: nat_lit 149 :: nat_lit 152 :: nat_lit 159 :: nat_lit 161 :: nat_lit 162 :: nat_lit 164 :: nat_lit 165 :: nat_lit 166 :: nat_lit 167 :: nat_lit 168 :: nat_lit 169 :: nat_lit 172 :: nat_lit 174 :: nat_lit 175 :: nat_lit 177 :: nat_lit 178 :: nat_lit 179 :: nat_lit 181 :: nat_lit 182 :: nat_lit 184 :: nat_lit 185 :: nat_lit 186 :: nat_lit 188 :: nat_lit 189 :: nat_lit 191 :: nat_lit 192 :: nat_lit 193 :: nat_lit 195 :: nat_lit 196 :: nat_lit 198 :: nat_lit 199 :: nat_lit 200 :: nat_lit 203 :: nat_lit 204 :: nat_lit 205 :: nat_lit 208 :: nat_lit 209 :: nat_lit 210 :: nat_lit 212 :: nat_lit 213 :: nat_lit 215 :: nat_lit 216 :: nat_lit 217 :: nat_lit 219 :: nat_lit 220 :: nat_lit 222 :: nat_lit 223 :: nat_lit 224 :: nat_lit 226 :: nat_lit 227 :: nat_lit 229 :: nat_lit 230 :: nat_lit 231 :: nat_lit 234 :: nat_lit 235 :: nat_lit 236 :: nat_lit 238 :: nat_lit 239 :: nat_lit 241 :: nat_lit 242 :: nat_lit 243 :: nat_lit 245 :: nat_lit 246 :: nat_lit 248 :: nat_lit 249 :: nat_lit 250 :: nat_lit 252 :: nat_lit 253 :: nat_lit 255 :: nat_lit 256 :: nat_lit 257 :: nat_lit 260 :: nat_lit 261 :: nat_lit 262 :: nat_lit 265 :: nat_lit 266 :: nat_lit 267 :: nat_lit 269 :: nat_lit 270 :: nat_lit 272 :: nat_lit 273 :: nat_lit 274 :: nat_lit 277 :: nat_lit 278 :: nat_lit 279 :: nat_lit 281 :: nat_lit 282 :: nat_lit 284 :: nat_lit 285 :: nat_lit 286 :: nat_lit 289 :: nat_lit 290 :: nat_lit 291 :: nat_lit 293 :: nat_lit 294 :: nat_lit 296 :: nat_lit 297 :: nat_lit 298 :: nat_lit 300 :: nat_lit 301 :: nat_lit 303 :: nat_lit 304 :: nat_lit 305 :: nat_lit 307 :: nat_lit 308 :: nat_lit 310 :: nat_lit 311 :: nat_lit 312 :: nat_lit 315 :: nat_lit 316 :: nat_lit 317 :: nat_lit 319 :: nat_lit 320 :: nat_lit 322 :: nat_lit 323 :: nat_lit 324 :: nat_lit 326 :: nat_lit 327 :: nat_lit 329 :: nat_lit 330 :: nat_lit 331 :: nat_lit 333 :: nat_lit 334 :: nat_lit 336 :: nat_lit 337 :: nat_lit 338 :: nat_lit 340 :: nat_lit 341 :: nat_lit 343 :: nat_lit 344 :: nat_lit 345 :: nat_lit 347 :: nat_lit 348 :: nat_lit 350 :: nat_lit 351 :: nat_lit 352 :: nat_lit 354 :: nat_lit 355 :: nat_lit 357 :: nat_lit 358 :: nat_lit 359 :: nat_lit 361 :: nat_lit 362 :: nat_lit 364 :: nat_lit 365 :: nat_lit 366 :: nat_lit 369 :: nat_lit 370 :: nat_lit 371 :: nat_lit 373 :: nat_lit 374 :: nat_lit 376 :: nat_lit 377 :: nat_lit 378 :: nat_lit 380 :: nat_lit 381 :: nat_lit 383 :: nat_lit 384 :: nat_lit 385 :: nat_lit 388 :: nat_lit 389 :: nat_lit 390 :: nat_lit 393 :: nat_lit 394 :: nat_lit 395 :: nat_lit 397 :: nat_lit 398 :: nat_lit 400 :: nat_lit 401 :: nat_lit 402 :: nat_lit 405 :: nat_lit 406 :: []

abbrev qv : Program := view Rw.prog [54]
def names0 : List PySem.Str := [PySem.Str.ofString "__name__", PySem.Str.ofString "BudError", PySem.Str.ofString "BadTable", PySem.Str.ofString "Uneven", PySem.Str.ofString "Great", PySem.Str.ofString "NoPart", PySem.Str.ofString "NoPlace", PySem.Str.ofString "Lacking", PySem.Str.ofString "NothingLeft", PySem.Str.ofString "common", PySem.Str.ofString "power_of", PySem.Str.ofString "lowest_terms", PySem.Str.ofString "is_number", PySem.Str.ofString "MOST_TIE", PySem.Str.ofString "MOST_BUDS"]
def names1 : List PySem.Str := [PySem.Str.ofString "MOST_ROOTS", PySem.Str.ofString "is_row", PySem.Str.ofString "check_form", PySem.Str.ofString "check_table", PySem.Str.ofString "check_bud", PySem.Str.ofString "bud_count", PySem.Str.ofString "unlike_rows", PySem.Str.ofString "pair_bars", PySem.Str.ofString "ring_bars", PySem.Str.ofString "barred", PySem.Str.ofString "turned_row", PySem.Str.ofString "turned_table", PySem.Str.ofString "GREAT_WORTH", PySem.Str.ofString "side_worth", PySem.Str.ofString "new_worth"]
def names2 : List PySem.Str := [PySem.Str.ofString "worth_step", PySem.Str.ofString "frieze", PySem.Str.ofString "_law_feed", PySem.Str.ofString "_law_draw", PySem.Str.ofString "_law_pick", PySem.Str.ofString "_law_same", PySem.Str.ofString "_law_word", PySem.Str.ofString "_law_gcd", PySem.Str.ofString "_law_low", PySem.Str.ofString "_law_add", PySem.Str.ofString "_law_div", PySem.Str.ofString "_law_pow", PySem.Str.ofString "_law_turn", PySem.Str.ofString "_law_wide_ties", PySem.Str.ofString "_law_both"]
def names3 : List PySem.Str := [PySem.Str.ofString "_law_step", PySem.Str.ofString "_law_even", PySem.Str.ofString "_law_roots", PySem.Str.ofString "_law_small"]
def names : List PySem.Str := names0 ++ (names1 ++ (names2 ++ (names3)))

theorem as_eq (P : Params) : as = (K P).map (·.1) := rfl
abbrev hk : Hook := kHook K as as_eq
def ob (s : SharedT) : hk.α := as.map (HandSHeadRun.getT s)
theorem ob_eq (s : SharedT) : ob s = hk.obs s.abs := List.map_congr_left fun a _ => HandSHeadRun.getT_eq s a
theorem run0 (w : World) : HandSHeadRun.RunEq Rw qv hk ob 4000 names (World.withFollow w "special-get-raises" false) := by
  intro os
  kernel_rfl
theorem run1 (w : World) : HandSHeadRun.RunEq Rw qv hk ob 4000 names (World.withFollow w "special-get-raises" true) := by
  intro os
  kernel_rfl
theorem run : ∀ w : World, HandSHeadRun.RunEq Rw qv hk ob 4000 names w := byRow2 (P := fun w => HandSHeadRun.RunEq Rw qv hk ob 4000 names w) "special-get-raises" run0 run1
end Hd
set_option Elab.async false
set_option linter.all false
set_option maxRecDepth 100000
set_option maxHeartbeats 2000000
namespace Bw
open PySem PySem.Spec PyProof.Rows L2
section
variable {P : Program} {w : World} {K : PySem.W.Frag} {mg : Str → Option Value} {base : Heap}
abbrev s_law_draw : Stmt := topS 38
abbrev n_law_draw : List Str := ["_law_feed_here", "_law_many", "_law_cell", "_law_digit", "_law_mix"]
theorem sc_law_draw : FnScope n_law_draw ["_law_feed_here", "_law_many"] (defScope s_law_draw) := ⟨rfl, rfl, rfl, by decide +kernel, rfl, by decide +kernel, by decide +kernel⟩
def spDraw : Sp := fun vs H Q _ => ∃ (f l : Addr) (n : Int), vs = [.ref f, .int n] ∧ FeedAt H f l ∧ 0 < n ∧ n < 1073741824 ∧ ∀ (v : Int) (H' : Hp), 0 ≤ v → v < n → SameBut f H H' → FeedAt H' f l → Q (.int v) H'
theorem ok_draw {f : Addr} {fd : FuncData} {k : Nat} (F : Fun K "_law_draw" "_law_draw" s_law_draw f fd) (T : Tx mg) : FnOk P w K mg base CX0 (k + 1) f fd ["_law_feed_here", "_law_many"] spDraw := by
  refine F.ok sc_law_draw (fun vs H Q E h => ?_) (fun cdv A outer s H vs Q E hr h => ?_)
  · obtain ⟨f, l, n, rfl, _⟩ := h
    rfl
  · obtain ⟨f, l, r, rfl, ⟨ns, i, n, m, c, nlf, hf, hl, hi, hn, hm, hm2⟩, hr0, hr1, q⟩ := h
    refine ⟨_, (C8.pss_cut (ps_if (PW.pt (pw_and (pt_cmpR op_eq (pe_ix ix_list (pv 0) pe_int (fun _ _ => rfl)) pe_int (nomark _)) (pw_and1 (pt_cmpR op_lt (pe_ix ix_list (pv 0) pe_int (fun _ _ => rfl)) (pe_callB call_len_seq (by rfl) T.len PySem.boot_len (pa_cons (pe_ix ix_list (pv 0) pe_int (fun _ _ => rfl)) pa_nil)) (nomark _)))))
    (pss_cons (ps_set (i := 2) sc_law_draw.nd rfl (.inl rfl) (pe_ix ix_list (pe_ix ix_list (pv 0) pe_int (fun _ _ => rfl)) (pe_ix ix_list (pv 0) pe_int (fun _ _ => rfl)) (fun _ _ => rfl)))
    (pss_cons (ps_asg (pe_op op_add (pe_ix ix_list (pv 0) pe_int (fun _ _ => rfl)) pe_int) (pg_sub (pv 0) pe_int set_list))
    (pss_one (ps_if (pt_cmpR op_ge (pv 2) (pe_op op_pow pe_int pe_int) (nomark _))
      (pss_one (ps_asg (pv 2) (pg_sub (pv 0) pe_int set_list)))
      (pss_one (ps_asg (pe_op op_mod (pe_op op_add (pe_op op_add (pe_op op_mul (pe_ix ix_list (pv 0) pe_int (fun _ _ => rfl)) pe_int) (pe_op op_mul (pe_op op_mod (pv 2) pe_int) pe_int)) pe_int) pe_int) (pg_sub (pv 0) pe_int set_list)))))))
    pss_nil)
  (pss_cons (ps_if (pt_cmpR op_gt (pe_ix ix_list (pv 0) pe_int (fun _ _ => rfl)) pe_int (nomark _))
    (pss_cons (ps_set (i := 3) sc_law_draw.nd rfl (.inl rfl) (pe_op op_mod (pe_ix ix_list (pv 0) pe_int (fun _ _ => rfl)) (pv 1)))
    (pss_cons (ps_asg (pe_op op_fdiv (pe_ix ix_list (pv 0) pe_int (fun _ _ => rfl)) (pv 1)) (pg_sub (pv 0) pe_int set_list))
    (pss_one (ps_ret (pv 3)))))
    pss_nil)
  (pss_cons (ps_asg (pe_op op_add (pe_ix ix_list (pv 0) pe_int (fun _ _ => rfl)) pe_int) (pg_sub (pv 0) pe_int set_list))
  (pss_cons (ps_set (i := 4) sc_law_draw.nd rfl (.inl rfl) (pe_ix ix_list (pv 0) pe_int (fun _ _ => rfl)))
  (pss_cons (ps_set (i := 4) sc_law_draw.nd rfl (.inl rfl) (pe_op op_add (pe_op op_add (pe_op op_add (pe_op op_mul (pe_op op_mod (pe_op op_mul (pv 4) (pv 4)) pe_int) pe_int) (pe_op op_mul (pv 4) pe_int)) (pe_op op_mul pe_int (pe_ix ix_list (pv 0) pe_int (fun _ _ => rfl)))) pe_int))
  (pss_cons (ps_asg (pe_op op_mod (pv 4) pe_int) (pg_sub (pv 0) pe_int set_list))
  (pss_one (ps_ret (pe_op op_mod (pe_op op_add (pe_op op_fdiv (pe_ix ix_list (pv 0) pe_int (fun _ _ => rfl)) pe_int) (pe_op op_mul (pe_op op_mod (pe_ix ix_list (pv 0) pe_int (fun _ _ => rfl)) pe_int) pe_int)) (pv 1)))))))))), ?_⟩
    -- between: a feed of the same list
    refine ⟨fun σ H2 => ∃ (y : Option V) (i : Nat) (n m : Int), σ = [some (.ref f), some (.int r), y, none, none] ∧ SameBut f H H2 ∧ H2 f = some (.lst [.ref l, .int i, .int n, .int m, .int c]) ∧ i ≤ ns.length ∧ 0 ≤ n ∧ 0 ≤ m ∧ m < 2147483647, ?_, ?_⟩
    · refine ⟨.ref f, rfl, f, _, 2, .int n, rfl, rfl, SqL.of hf, rfl, rfl, _, rfl, ite2 (fun e => ?_) (fun e => iteF ?_)⟩
      · refine ⟨.ref f, rfl, f, _, 1, .int i, rfl, rfl, SqL.of hf, rfl, .ref f, rfl, f, _, 0, .ref l, rfl, rfl, SqL.of hf, rfl, l, _, rfl, .inl (SqL.of hl), _, _, rfl, rfl, _, rfl, ite2 (fun e => ?_) (fun e => ?_)⟩
        · have hlt : i < ns.length := by
            have := of_decide_eq_true e
            rw [List.length_map] at this
            omega
          have g1 : (ns.map V.int)[i]? = some (.int ns[i]) := by
            rw [List.getElem?_map, List.getElem?_eq_getElem hlt]
            rfl
          generalize ns[i] = u at g1
          -- cell = feed[0][feed[1]]; feed[1] = feed[1] + 1
          refine ⟨.ref f, rfl, f, _, 0, .ref l, rfl, rfl, SqL.of hf, rfl, .ref f, rfl, f, _, 1, .int i, rfl, rfl, SqL.of hf, rfl, l, _, i, .int u, rfl, rfl, SqL.of hl, atI_nat g1, ?_⟩
          refine ⟨.ref f, rfl, f, _, 1, .int i, rfl, rfl, SqL.of hf, rfl, _, _, rfl, rfl, .ref f, rfl, f, _, 1, 1, rfl, rfl, hf, rfl, ?_⟩
          -- if cell >= 10 ** 18
          refine ⟨.int u, rfl, _, _, rfl, rfl, ⟨by decide, by decide, by decide⟩, _, _, rfl, rfl, _, rfl, ite2 (fun e => ?_) (fun e => ?_)⟩
          · have h0 : 0 ≤ u := Int.le_trans (by decide : (0 : Int) ≤ 10 ^ Int.toNat 18) (of_decide_eq_true e)
            refine ⟨.int u, rfl, .ref f, rfl, f, _, 2, 2, rfl, rfl, upd_same, rfl, ?_⟩
            exact ⟨_, i + 1, u, m, rfl, SameBut.upd (SameBut.upd (.refl _ _)), upd_same, hlt, h0, hm, hm2⟩
          · refine ⟨.ref f, rfl, f, _, 3, .int m, rfl, rfl, SqL.of upd_same, rfl, _, _, rfl, rfl, .inl ⟨by omega, by omega⟩, .int u, rfl, _, _, rfl, rfl, (by show (0 : Int) < 1000000007; decide), _, _, rfl, rfl, .inr ⟨by decide, by decide⟩, _, _, rfl, rfl, _, _, rfl, rfl, _, _, rfl, rfl, (by show (0 : Int) < 2147483647; decide), ?_⟩
            refine ⟨.ref f, rfl, f, _, 3, 3, rfl, rfl, upd_same, rfl, ?_⟩
            exact ⟨_, i + 1, n, _, rfl, SameBut.upd (SameBut.upd (.refl _ _)), upd_same, hlt, hn, Int.emod_nonneg _ (by decide), Int.emod_lt_of_pos _ (by decide)⟩
        · exact ⟨none, i, n, m, rfl, .refl _ _, hf, hi, hn, hm, hm2⟩
      · exact ⟨none, i, n, m, rfl, .refl _ _, hf, hi, hn, hm, hm2⟩
    · rintro σ H2 ⟨y, i, n, m, rfl, sb, hf, hi, hn, hm, hm2⟩
      have hl2 : H2 l = some (.lst (ns.map V.int)) := sb _ _ nlf hl
      -- if feed[2] > 0
      refine ⟨.ref f, rfl, f, _, 2, .int n, rfl, rfl, SqL.of hf, rfl, _, _, rfl, rfl, _, rfl, ite2 (fun e => ?_) (fun e => ?_)⟩
      · refine ⟨.ref f, rfl, f, _, 2, .int n, rfl, rfl, SqL.of hf, rfl, .int r, rfl, _, _, rfl, rfl, hr0, ?_⟩
        refine ⟨.ref f, rfl, f, _, 2, .int n, rfl, rfl, SqL.of hf, rfl, .int r, rfl, _, _, rfl, rfl, ⟨hr0, hr1⟩, .ref f, rfl, f, _, 2, 2, rfl, rfl, hf, rfl, ?_⟩
        refine ⟨_, rfl, q _ _ (Int.emod_nonneg _ (by omega)) (Int.emod_lt_of_pos _ hr0) sb.upd ⟨ns, i, _, m, c, nlf, upd_same, by rw [upd_ne nlf]; exact hl2, hi, Int.ediv_nonneg hn (by omega), hm, hm2⟩⟩
      · -- feed[4] = feed[4] + 1
        refine ⟨.ref f, rfl, f, _, 4, .int c, rfl, rfl, SqL.of hf, rfl, _, _, rfl, rfl, .ref f, rfl, f, _, 4, 4, rfl, rfl, hf, rfl, ?_⟩
        -- mix
        refine ⟨.ref f, rfl, f, _, 3, .int m, rfl, rfl, SqL.of upd_same, rfl, ?_⟩
        refine ⟨.int m, rfl, .int m, rfl, _, _, rfl, rfl, .inl ⟨by omega, by omega⟩, _, _, rfl, rfl, (by show (0 : Int) < 2147483587; decide), _, _, rfl, rfl, .inr ⟨by decide, by decide⟩, .int m, rfl, _, _, rfl, rfl, .inr ⟨by decide, by decide⟩, _, _, rfl, rfl, .ref f, rfl, f, _, 4, _, rfl, rfl, SqL.of upd_same, rfl, _, _, rfl, rfl, .inl ⟨by decide, by decide⟩, _, _, rfl, rfl, _, _, rfl, rfl, ?_⟩
        refine ⟨_, rfl, _, _, rfl, rfl, (by show (0 : Int) < 2147483647; decide), .ref f, rfl, f, _, 3, 3, rfl, rfl, upd_same, rfl, ?_⟩
        have a1 : ∀ z : Int, 0 ≤ z % 2147483647 := fun z => Int.emod_nonneg _ (by decide)
        have a2 : ∀ z : Int, z % 2147483647 < 2147483647 := fun z => Int.emod_lt_of_pos _ (by decide)
        refine ⟨.ref f, rfl, f, _, 3, _, rfl, rfl, SqL.of upd_same, rfl, _, _, rfl, rfl, ⟨by decide, by decide⟩, .ref f, rfl, f, _, 3, _, rfl, rfl, SqL.of upd_same, rfl, _, _, rfl, rfl, (by show (0 : Int) < 4093; decide), _, _, rfl, rfl, .inr ⟨by decide, by decide⟩, _, _, rfl, rfl, .int r, rfl, _, _, rfl, rfl, hr0, ?_⟩
        refine q _ _ (Int.emod_nonneg _ (by omega)) (Int.emod_lt_of_pos _ hr0) (SameBut.upd sb.upd) ⟨ns, i, n, _, _, nlf, upd_same, by rw [upd_ne nlf, upd_ne nlf]; exact hl2, hi, hn, a1 _, a2 _⟩
end
end Bw
set_option Elab.async false
set_option linter.all false
set_option maxRecDepth 100000
set_option maxHeartbeats 2000000
namespace Bw
open PySem PySem.Spec PyProof.Rows L2
section
variable {P : Program} {w : World} {K : PySem.W.Frag} {mg : Str → Option Value} {base : Heap}
/-! ### the feed made -/
abbrev s_law_feed : Stmt := topS 37
abbrev n_law_feed : List Str := ["_law_script"]
theorem sc_law_feed : FnScope n_law_feed ["_law_script"] (defScope s_law_feed) := ⟨rfl, rfl, rfl, by decide +kernel, rfl, by decide +kernel, by decide +kernel⟩
def spFeed (K : PySem.W.Frag) : Sp := fun vs H Q _ => ∃ (a : Addr) (ns : List Int), vs = [.ref a] ∧ SqL K H a (ns.map V.int) ∧ ∀ (f l : Addr) (H' : Hp), Same H H' → H f = none → FeedAt H' f l → Q (.ref f) H'
theorem ok_feed {f : Addr} {fd : FuncData} {k : Nat} (F : Fun K "_law_feed" "_law_feed" s_law_feed f fd) (T : Tx mg) : FnOk P w K mg base CX0 (k + 1) f fd ["_law_script"] (spFeed K) := by
  refine F.ok sc_law_feed (fun vs H Q E h => ?_) (fun cdv A outer s H vs Q E hr h => ?_)
  · obtain ⟨a, ns, rfl, _⟩ := h
    rfl
  · obtain ⟨a, ns, rfl, hS, q⟩ := h
    refine ⟨_, (pss_one (ps_ret (pe_lst (pa_cons (pe_callTy call_list_of (by rfl) T.list (by decide +kernel) (pa_cons (pe_slice sl_list (pv 0) po_none (po_some pe_int)) pa_nil)) (pa_cons pe_int (pa_cons pe_int (pa_cons pe_int (pa_cons pe_int pa_nil)))))))), ?_⟩
    refine ⟨.ref a, rfl, 63, rfl, a, _, rfl, hS, fun c nc => ?_⟩
    refine ⟨c, _, rfl, .inl (SqL.of upd_same), fun l nl => ?_⟩
    refine ⟨by show 5 ≤ sizeLine; decide, fun g ng => ?_⟩
    have s1 : Same H (upd H c (.lst (cutV (ns.map V.int) none (some 63)))) := same_upd nc
    have s2 := s1.trans (same_upd (o := .lst (cutV (ns.map V.int) none (some 63))) nl)
    have s3 := s2.trans (same_upd (o := .lst [.ref l, .int 0, .int 0, .int 9106, .int 0]) ng)
    have nlg : l ≠ g := fun e => by
      rw [← e, upd_same] at ng
      cases ng
    refine q g l _ s3 (s2.free ng) ⟨(ns.drop (HT.sIx (ns.map V.int).length 0 none)).take (HT.sIx (ns.map V.int).length (ns.map V.int).length (some 63) - HT.sIx (ns.map V.int).length 0 none), 0, 0, 9106, 0, nlg, upd_same, ?_, Nat.zero_le _, by decide, by decide, by decide⟩
    rw [upd_ne nlg, upd_same]
    unfold cutV
    rw [List.map_take, List.map_drop]
/-! ### one of a row -/
abbrev s_law_pick : Stmt := topS 39
abbrev n_law_pick : List Str := ["_law_feed_here", "_law_row"]
theorem sc_law_pick : FnScope n_law_pick ["_law_feed_here", "_law_row"] (defScope s_law_pick) := ⟨rfl, rfl, rfl, by decide +kernel, rfl, by decide +kernel, by decide +kernel⟩
def spPick : Sp := fun vs H Q _ => ∃ (f l a : Addr) (xs : List V), vs = [.ref f, .ref a] ∧ FeedAt H f l ∧ H a = some (.lst xs) ∧ a ≠ f ∧ 0 < xs.length ∧ xs.length < 1000 ∧ ∀ (v : V) (H' : Hp), v ∈ xs → SameBut f H H' → FeedAt H' f l → Q v H'
theorem ok_pick {f : Addr} {fd : FuncData} {k j : Nat} (F : Fun K "_law_pick" "_law_pick" s_law_pick f fd) (T : Tx mg) (c_law_draw : Cal P w K mg base CX0 k "_law_draw" ["_law_feed_here", "_law_many"] spDraw) : FnOk P w K mg base CX0 (k + 1) f fd ["_law_feed_here", "_law_row"] spPick := by
  refine F.ok sc_law_pick (fun vs H Q E h => ?_) (fun cdv A outer s H vs Q E hr h => ?_)
  · obtain ⟨f, l, a, xs, rfl, _⟩ := h
    rfl
  · obtain ⟨f, l, a, xs, rfl, hf, ha, naf, h0, h1, q⟩ := h
    refine ⟨_, (pss_one (ps_ret (pe_ix ix_list (pv 1) (pe_cal c_law_draw hr (by rfl) (pa_cons (pv 0) (pa_cons (pe_callB call_len_seq (by rfl) T.len PySem.boot_len (pa_cons (pv 1) pa_nil)) pa_nil))) (fun _ _ => rfl)))), ?_⟩
    refine ⟨.ref a, rfl, .ref f, rfl, .ref a, rfl, a, _, rfl, .inl (SqL.of ha), f, l, _, rfl, hf, by omega, by omega, fun v H' v0 v1 sb hf' => ?_⟩
    obtain ⟨n, rfl⟩ : ∃ n : Nat, v = (n : Int) := ⟨v.toNat, by omega⟩
    have hn : n < xs.length := by omega
    exact ⟨a, xs, _, xs[n], rfl, rfl, SqL.of (sb _ _ naf ha), atI_nat (List.getElem?_eq_getElem hn), q _ _ (List.getElem_mem hn) sb hf'⟩
def spGcd : Sp := fun vs H Q _ => ∃ (a b : Nat), vs = [.int a, .int b] ∧ Q (.int (Nat.gcd a b)) H
end
end Bw
set_option Elab.async false
set_option linter.all false
set_option maxRecDepth 100000
set_option maxHeartbeats 1000000
namespace Bw
open PySem PySem.Spec PyProof.Rows L2
/-! ### tables, as lists of rows -/
def ent (rows : List (List Int)) (i j : Nat) : Int := (rows.getD i []).getD j 0
structure TabOk (rows : List (List Int)) (n : Nat) : Prop where
  n1 : 1 ≤ n
  n4 : n ≤ 4
  len : n ≤ rows.length
  len4 : rows.length ≤ n + 4
  wide : ∀ r ∈ rows, r.length = n
  tie : ∀ r ∈ rows, ∀ t ∈ r, -50 ≤ t ∧ t ≤ 50
  even : ∃ d : Nat → Int, (∀ i, i < n → 0 < d i) ∧ ∀ i j, i < n → j < n → d i * ent rows i j = -(d j * ent rows j i)
def matRow (n : Nat) (b : Nat → Int) : List Int := (List.range n).map b
def matRows (n : Nat) (B : Nat → Nat → Int) : List (List Int) := (List.range n).map fun i => matRow n (B i)
theorem matRow_len (n : Nat) (b : Nat → Int) : (matRow n b).length = n := by simp [matRow]
theorem matRows_len (n : Nat) (B : Nat → Nat → Int) : (matRows n B).length = n := by simp [matRows]
theorem matRow_get {n : Nat} {b : Nat → Int} {j : Nat} (h : j < n) : (matRow n b)[j]? = some (b j) := by simp [matRow, h]
theorem matRows_get {n : Nat} {B : Nat → Nat → Int} {i : Nat} (h : i < n) : (matRows n B)[i]? = some (matRow n (B i)) := by simp [matRows, h]
theorem matRow_getD {n : Nat} {b : Nat → Int} {j : Nat} (h : j < n) : (matRow n b).getD j 0 = b j := by simp [matRow, h]
theorem matRow_set {n : Nat} {b : Nat → Int} {j : Nat} {v : Int} : (matRow n b).set j v = matRow n (fun k => if k = j then v else b k) := by
  apply List.ext_getElem?
  intro k
  rw [List.getElem?_set]
  by_cases hk : k < n
  · rw [matRow_get hk, matRow_get hk]
    by_cases e : j = k
    · subst e
      simp [matRow_len, hk]
    · rw [if_neg e, if_neg (fun z => e z.symm)]
  · have h1 : (matRow n b)[k]? = none := List.getElem?_eq_none (by rw [matRow_len]; omega)
    have h2 : (matRow n fun k => if k = j then v else b k)[k]? = none := List.getElem?_eq_none (by rw [matRow_len]; omega)
    rw [h1, h2, matRow_len]
    split
    · rw [if_neg (by omega)]
    · rfl
theorem rep_flat (n : Nat) : (List.replicate n [V.int 0]).flatten = (matRow n fun _ => 0).map V.int := by
  apply List.ext_getElem?
  intro k
  have e : (matRow n fun _ => (0 : Int)) = List.replicate n 0 := by
    unfold matRow
    rw [List.map_const', List.length_range]
  rw [e, List.map_replicate, List.flatten_replicate_singleton]
end Bw
set_option Elab.async false
set_option linter.all false
set_option maxRecDepth 100000
set_option maxHeartbeats 2000000
namespace Bw
open PySem PySem.Spec PyProof.Rows L2
/-! ### lists of rows that may still be written -/
def RowsAt (H : Hp) (as : List Addr) (n : Nat) (B : Nat → Nat → Int) : Prop := as.length = n ∧ as.Nodup ∧ ∀ i b, as[i]? = some b → H b = some (.lst ((matRow n (B i)).map V.int))
def TabAt (H : Hp) (a : Addr) (rows : List (List Int)) : Prop := ∃ as : List Addr, H a = some (.tup (as.map V.ref)) ∧ as.length = rows.length ∧ ∀ (i : Nat) (r : List Int), rows[i]? = some r → ∃ b, as[i]? = some b ∧ H b = some (.tup (r.map V.int))
theorem TabAt.same {H H' : Hp} {a : Addr} {rows : List (List Int)} (s : Same H H') (h : TabAt H a rows) : TabAt H' a rows := by
  obtain ⟨as, h1, h2, h3⟩ := h
  exact ⟨as, s _ _ h1, h2, fun i r e => by
    obtain ⟨b, e1, e2⟩ := h3 i r e
    exact ⟨b, e1, s _ _ e2⟩⟩
theorem TabAt.but {H H' : Hp} {f l a : Addr} {rows : List (List Int)} (s : SameBut f H H') (hf : FeedAt H f l) (h : TabAt H a rows) : TabAt H' a rows := by
  obtain ⟨as, h1, h2, h3⟩ := h
  exact ⟨as, s _ _ (hf.tup h1) h1, h2, fun i r e => by
    obtain ⟨b, e1, e2⟩ := h3 i r e
    exact ⟨b, e1, s _ _ (hf.tup e2) e2⟩⟩
def put2 (B : Nat → Nat → Int) (i j : Nat) (v : Int) : Nat → Nat → Int := fun a b => if a = i ∧ b = j then v else B a b
theorem RowsAt.put {H : Hp} {as : List Addr} {n : Nat} {B : Nat → Nat → Int} (h : RowsAt H as n B) {i j : Nat} {b : Addr} (hb : as[i]? = some b) (v : Int) :
    RowsAt (upd H b (.lst (((matRow n (B i)).map V.int).set j (V.int v)))) as n (put2 B i j v) := by
  obtain ⟨h1, h2, h3⟩ := h
  refine ⟨h1, h2, fun k c e => ?_⟩
  by_cases hk : k = i
  · subst hk
    have : c = b := Option.some.inj (e.symm.trans hb)
    subst this
    rw [upd_same, ← List.map_set, matRow_set]
    have z : (fun k_1 => if k_1 = j then v else B k k_1) = put2 B k j v k := by
      funext y
      unfold put2
      by_cases hy : y = j
      · rw [if_pos hy, if_pos ⟨rfl, hy⟩]
      · rw [if_neg hy, if_neg (fun z => hy z.2)]
    rw [z]
  · have ne : c ≠ b := fun z => by
      subst z
      exact hk (nd_ix h2 e hb)
    rw [upd_ne ne, h3 k c e]
    have z : put2 B i j v k = B k := by
      funext y
      unfold put2
      rw [if_neg (fun z => hk z.1)]
    rw [z]
def loadAt (ls : List Int) (i : Nat) : Int := ls.getD i 1
structure Good (n : Nat) (r : Int) (ls : List Int) (B : Nat → Nat → Int) : Prop where
  len : ls.length = n
  load : ∀ x ∈ ls, 1 ≤ x ∧ x ≤ 4
  ev : ∀ i j, i < n → j < n → loadAt ls i * B i j = -(loadAt ls j * B j i)
  bd : ∀ i j, -(4 * r) ≤ B i j ∧ B i j ≤ 4 * r
theorem Good.zero {n : Nat} {r : Int} {ls : List Int} (h1 : ls.length = n) (h2 : ∀ x ∈ ls, 1 ≤ x ∧ x ≤ 4) (h3 : 0 ≤ r) : Good n r ls fun _ _ => 0 :=
  ⟨h1, h2, fun i j _ _ => by rw [Int.mul_zero, Int.mul_zero]; rfl, fun _ _ => ⟨by omega, by omega⟩⟩
theorem loadAt_get {ls : List Int} {i : Nat} {x : Int} (h : ls[i]? = some x) : loadAt ls i = x := by
  unfold loadAt
  rw [List.getD_eq_getElem?_getD, h]
  rfl
theorem mul_bd {t x r : Int} (h1 : -r ≤ t) (h2 : t ≤ r) (h3 : 0 ≤ x) (h4 : x ≤ 4) : -(4 * r) ≤ t * x ∧ t * x ≤ 4 * r := by
  have h0 : 0 ≤ r := by omega
  have a1 : t * x ≤ r * x := Int.mul_le_mul_of_nonneg_right h2 h3
  have a2 : r * x ≤ r * 4 := Int.mul_le_mul_of_nonneg_left h4 h0
  have a3 : -r * x ≤ t * x := Int.mul_le_mul_of_nonneg_right h1 h3
  have a4 : -r * x = -(r * x) := Int.neg_mul ..
  omega
theorem Good.put {n : Nat} {r : Int} {ls : List Int} {B : Nat → Nat → Int} (g : Good n r ls B) {i j : Nat} {x y t : Int} {c : Nat} (hij : i < j) (hi : ls[i]? = some x) (hj : ls[j]? = some y) (hc : 0 < c) (cx : (c : Int) ∣ x) (cy : (c : Int) ∣ y) (h1 : -r ≤ t) (h2 : t ≤ r) :
    Good n r ls (put2 (put2 B i j (t * (y / c))) j i (0 - t * (x / c))) := by
  have hx := g.load x (List.mem_of_getElem? hi)
  have hy := g.load y (List.mem_of_getElem? hj)
  obtain ⟨x', rfl⟩ := cx
  obtain ⟨y', rfl⟩ := cy
  have c0 : (c : Int) ≠ 0 := by omega
  have ex : (c : Int) * x' / c = x' := Int.mul_ediv_cancel_left _ c0
  have ey : (c : Int) * y' / c = y' := Int.mul_ediv_cancel_left _ c0
  rw [ex, ey]
  have x0 : 0 ≤ x' := by
    rcases Int.lt_or_le x' 0 with h | h
    · have := Int.mul_neg_of_pos_of_neg (show (0 : Int) < c by omega) h
      omega
    · exact h
  have y0 : 0 ≤ y' := by
    rcases Int.lt_or_le y' 0 with h | h
    · have := Int.mul_neg_of_pos_of_neg (show (0 : Int) < c by omega) h
      omega
    · exact h
  have x4 : x' ≤ 4 := by
    have : 1 * x' ≤ c * x' := Int.mul_le_mul_of_nonneg_right (by omega) x0
    omega
  have y4 : y' ≤ 4 := by
    have : 1 * y' ≤ c * y' := Int.mul_le_mul_of_nonneg_right (by omega) y0
    omega
  have b1 := mul_bd h1 h2 y0 y4
  have b2 := mul_bd h1 h2 x0 x4
  have key : (c : Int) * x' * (t * y') = -(c * y' * (0 - t * x')) := by
    rw [Int.zero_sub, Int.mul_neg, Int.neg_neg]
    rw [Int.mul_assoc, Int.mul_assoc, Int.mul_left_comm x' t y', Int.mul_left_comm y' t x', Int.mul_comm x' y']
  refine ⟨g.len, g.load, fun a b ha hb => ?_, fun a b => ?_⟩
  · unfold put2
    by_cases e1 : a = j ∧ b = i
    · obtain ⟨rfl, rfl⟩ := e1
      rw [if_pos ⟨rfl, rfl⟩, if_neg (fun z => by omega), if_pos ⟨rfl, rfl⟩, loadAt_get hi, loadAt_get hj]
      omega
    · rw [if_neg e1]
      by_cases e2 : a = i ∧ b = j
      · obtain ⟨rfl, rfl⟩ := e2
        rw [if_pos ⟨rfl, rfl⟩, if_pos ⟨rfl, rfl⟩, loadAt_get hi, loadAt_get hj]
        exact key
      · rw [if_neg e2, if_neg (fun z => e2 ⟨z.2, z.1⟩), if_neg (fun z => e1 ⟨z.2, z.1⟩)]
        exact g.ev a b ha hb
  · unfold put2
    by_cases e1 : a = j ∧ b = i
    · rw [if_pos e1]
      omega
    · rw [if_neg e1]
      by_cases e2 : a = i ∧ b = j
      · rw [if_pos e2]
        omega
      · rw [if_neg e2]
        exact g.bd a b
end Bw
set_option Elab.async false
set_option linter.all false
set_option maxRecDepth 100000
set_option maxHeartbeats 4000000
namespace Bw
open PySem PySem.Spec PyProof.Rows L2
end Bw
set_option Elab.async false
set_option linter.all false
set_option maxRecDepth 100000
set_option maxHeartbeats 4000000
namespace Bw
open PySem PySem.Spec PyProof.Rows L2
theorem SameBut.none {f l a : Addr} {H H1 : Hp} (s : SameBut f H H1) (h : FeedAt H1 f l) (e : H1 a = none) : H a = none := by
  by_cases z : a = f
  · subst z
    exact absurd rfl (h.ne e)
  · cases y : H a with
    | none => rfl
    | some u =>
      rw [s _ _ z y] at e
      cases e
end Bw
set_option Elab.async false
set_option linter.all false
set_option maxRecDepth 100000
set_option maxHeartbeats 4000000
namespace Bw
open PySem PySem.Spec PyProof.Rows L2
theorem ent_mat {n : Nat} {B : Nat → Nat → Int} {more : List (List Int)} {i j : Nat} (hi : i < n) (hj : j < n) : ent (matRows n B ++ more) i j = B i j := by
  unfold ent
  have e : (matRows n B ++ more).getD i [] = matRow n (B i) := by
    rw [List.getD_eq_getElem?_getD, List.getElem?_append, if_pos (by rw [matRows_len]; exact hi), matRows_get hi]
    rfl
  rw [e, matRow_getD hj]
theorem tabOk_drawn {n : Nat} {r : Int} {ls : List Int} {B : Nat → Nat → Int} {more : List (List Int)} (n1 : 1 ≤ n) (n4 : n ≤ 4) (g : Good n r ls B) (r1 : 0 ≤ r) (r12 : r ≤ 12) (hm : more.length ≤ 4) (hmo : ∀ x ∈ more, x.length = n ∧ ∀ t ∈ x, -50 ≤ t ∧ t ≤ 50) : TabOk (matRows n B ++ more) n := by
  have hmat : ∀ x ∈ matRows n B, ∃ i, i < n ∧ x = matRow n (B i) := fun x hx => by
    unfold matRows at hx
    obtain ⟨i, hi, rfl⟩ := List.mem_map.mp hx
    exact ⟨i, List.mem_range.mp hi, rfl⟩
  refine ⟨n1, n4, ?_, ?_, fun x hx => ?_, fun x hx t ht => ?_, loadAt ls, fun i hi => ?_, fun i j hi hj => ?_⟩
  · rw [List.length_append, matRows_len]
    omega
  · rw [List.length_append, matRows_len]
    omega
  · rcases List.mem_append.mp hx with hx | hx
    · obtain ⟨i, _, rfl⟩ := hmat x hx
      exact matRow_len ..
    · exact (hmo x hx).1
  · rcases List.mem_append.mp hx with hx | hx
    · obtain ⟨i, _, rfl⟩ := hmat x hx
      unfold matRow at ht
      obtain ⟨j, _, rfl⟩ := List.mem_map.mp ht
      have := g.bd i j
      omega
    · exact (hmo x hx).2 t ht
  · have h : i < ls.length := by
      rw [g.len]
      exact hi
    rw [loadAt_get (List.getElem?_eq_getElem h)]
    have := g.load _ (List.getElem_mem h)
    omega
  · rw [ent_mat hi hj, ent_mat hj hi]
    exact g.ev i j hi hj
end Bw
set_option Elab.async false
set_option linter.all false
set_option maxRecDepth 100000
set_option maxHeartbeats 4000000
namespace Bw
open PySem PySem.Spec PyProof.Rows L2
theorem ip_mul {X : Cx} : PIp X .Mult (rI CMul fun i j => .int (i * j)) := fun pins s σ H x y v u Q I a b q => iop_mul pins s σ H x y v u Q I a b q
section
variable {P : Program} {w : World} {K : PySem.W.Frag} {mg : Str → Option Value} {base : Heap}
/-! ### is_number -/
abbrev s_is_number : Stmt := topS 14
abbrev n_is_number : List Str := ["thing"]
theorem sc_is_number : FnScope n_is_number ["thing"] (defScope s_is_number) := ⟨rfl, rfl, rfl, by decide +kernel, rfl, by decide +kernel, by decide +kernel⟩
def spIsNum : Sp := fun vs H Q _ => ∃ i : Int, vs = [.int i] ∧ Q (.bl true) H
theorem ok_isnum {f : Addr} {fd : FuncData} {k : Nat} (F : Fun K "is_number" "is_number" s_is_number f fd) (T : Tx mg) : FnOk P w K mg base CX0 (k + 1) f fd ["thing"] spIsNum := by
  refine F.ok sc_is_number (fun vs H Q E h => ?_) (fun cdv A outer s H vs Q E hr h => ?_)
  · obtain ⟨i, rfl, _⟩ := h
    rfl
  · obtain ⟨i, rfl, q⟩ := h
    refine ⟨_, (pss_one (ps_ret (pe_and (pe_callB (c_isi (K := K)) (by rfl) T.isinstance (by decide +kernel) (pa_cons (pv 0) (pa_cons (pe_bltn (v := .ty "int") (by rfl) T.int (by decide +kernel) rfl) pa_nil))) (pe_one (pe_not (pe_callB (c_isi (K := K)) (by rfl) T.isinstance (by decide +kernel) (pa_cons (pv 0) (pa_cons (pe_bltn (v := .ty "bool") (by rfl) T.bool (by decide +kernel) rfl) pa_nil)))))))), ?_⟩
    refine ⟨.int i, rfl, _, _, _, _, true, rfl, .ty "int", .base (.int i), kit_ty (by decide +kernel), true, rfl, ?_⟩
    exact ⟨.int i, rfl, _, _, _, _, false, rfl, .ty "bool", .base (.int i), kit_ty (by decide +kernel), false, rfl, q⟩
/-! ### is_row -/
abbrev s_is_row : Stmt := topS 19
abbrev n_is_row : List Str := ["row", "many", "tie"]
theorem sc_is_row : FnScope n_is_row ["row", "many"] (defScope s_is_row) := ⟨rfl, rfl, rfl, by decide +kernel, rfl, by decide +kernel, by decide +kernel⟩
def spIsRow : Sp := fun vs H Q _ => ∃ (a : Addr) (r : List Int), vs = [.ref a, .int r.length] ∧ H a = some (.tup (r.map V.int)) ∧ r.length ≤ 4 ∧ (∀ t ∈ r, -50 ≤ t ∧ t ≤ 50) ∧ ∀ H', Same H H' → Q (.bl true) H'
theorem all_rep (n : Nat) : (List.replicate n true).all id = true := by
  rw [List.all_eq_true]
  intro x hx
  exact List.eq_of_mem_replicate hx
theorem ok_isrow {f : Addr} {fd : FuncData} (F : Fun K "is_row" "is_row" s_is_row f fd) (T : Tx mg) (c_is_number : Cal P w K mg base CX0 1 "is_number" ["thing"] spIsNum) : FnOk P w K mg base CX0 2 f fd ["row", "many"] spIsRow := by
  refine F.ok sc_is_row (fun vs H Q E h => ?_) (fun cdv A outer s H vs Q E hr h => ?_)
  · obtain ⟨a, r, rfl, _⟩ := h
    rfl
  · obtain ⟨a, r, rfl, ha, l4, hb, q⟩ := h
    refine ⟨_, (pss_cons (ps_if (PW.pt (pw_or (pt_not (pt_val (pe_callB (c_isi (K := K)) (by rfl) T.isinstance (by decide +kernel) (pa_cons (pv 0) (pa_cons (pe_bltn (v := .ty "tuple") (by rfl) T.tuple (by decide +kernel) rfl) pa_nil))))) (pw_or1 (pt_cmpR op_ne (pe_callB (c_len (K := K)) (by rfl) T.len PySem.boot_len (pa_cons (pv 0) pa_nil)) (pv 1) (nomark _)))))
    (pss_one (ps_ret pe_bl))
    pss_nil)
  (pss_one (ps_ret (pe_callB (c_all (K := K) rfl) (by rfl) T.all (by decide +kernel) (pa_cons (pe_lc (own := [("tie", 2)]) (by rfl) sc_is_row.nd (p_tup (K := K) (pv 0)) (blkOk_by (own := [("tie", 2)]) (N := n_is_row) (sc := defScope s_is_row) (by decide +kernel)) (fun _ _ _ _ _ => (pg_name (i := 2) sc_is_row.nd rfl (.inl rfl))) (fun _ _ _ _ _ => pts_nil) (fun _ _ _ _ _ => (pe_and (pe_cal c_is_number hr (by rfl) (pa_cons (pv 2) pa_nil)) (pe_one (pe_cmpR op_le (pe_callB call_abs (by rfl) T.abs (by decide +kernel) (pa_cons (pv 2) pa_nil)) (pe_gint (by rfl) T.MOST_TIE) (nomark _)))))) pa_nil))))), ?_⟩
    refine ⟨.ref a, rfl, _, _, _, _, true, rfl, .ty "tuple", .base (.tup ha), kit_ty (by decide +kernel), true, rfl, ?_⟩
    refine iteF ⟨.ref a, rfl, a, _, rfl, .inr (SqT.of ha), .int r.length, rfl, rfl, _, rfl, ?_⟩
    rw [List.length_map]
    refine iteNS rfl ?_
    -- all([..])
    refine ⟨.ref a, rfl, a, rfl, ⟨_, SqT.of ha⟩, fun D eD => ?_⟩
    have naD : a ≠ D := ne_of_none ha eD
    refine lc_tup (K := K) (a := a) (xs := r.map V.int) (fun j H' => H' D = some (.lst ((List.replicate j true).map V.bl)) ∧ ∀ b o, b ≠ D → H b = some o → H' b = some o) ⟨upd_same, fun b o n e => by rw [upd_ne n]; exact e⟩ (fun j H' _ ⟨_, k⟩ => SqT.of (k _ _ naD ha)) ?_ ?_
    · rintro j v H1 hv ⟨e1, k1⟩
      obtain ⟨t, ht, rfl⟩ := int_at hv
      have hj : j < r.length := (List.getElem?_eq_some_iff.mp ht).1
      have hbt := hb t (List.mem_of_getElem? ht)
      refine ⟨rfl, .int t, rfl, t, rfl, true, rfl, ?_⟩
      refine ⟨.int t, rfl, t, rfl, _, _, rfl, rfl, _, e1, by rw [List.length_map, List.length_replicate]; exact small1000 (by omega), ?_, fun b o n e => ?_⟩
      · have ed : decide ((if t < 0 then -t else t) ≤ 50) = true := decide_eq_true (by split <;> omega)
        rw [upd_same]
        show some (HO.lst (_ ++ [V.bl (decide ((if t < 0 then -t else t) ≤ 50))])) = _
        rw [ed, List.replicate_succ', List.map_append]
        rfl
      · rw [upd_ne n]
        exact k1 _ _ n e
    · rintro H1 ⟨e1, k1⟩
      refine ⟨D, _, rfl, SqL.of e1, ?_⟩
      rw [all_rep]
      exact q _ fun b o e => k1 _ _ (ne_of_none e eD) e
/-! ### bud_count -/
abbrev s_bud_count : Stmt := topS 23
abbrev n_bud_count : List Str := ["table"]
theorem sc_bud_count : FnScope n_bud_count ["table"] (defScope s_bud_count) := ⟨rfl, rfl, rfl, by decide +kernel, rfl, by decide +kernel, by decide +kernel⟩
/-- a table's row, tracked -/
theorem TabAt.row {H : Hp} {a : Addr} {rows : List (List Int)} (h : TabAt H a rows) {i : Nat} (hi : i < rows.length) : ∃ (as : List Addr) (b : Addr), H a = some (.tup (as.map V.ref)) ∧ (as.map V.ref)[i]? = some (.ref b) ∧ H b = some (.tup ((rows.getD i []).map V.int)) := by
  obtain ⟨as, h1, h2, h3⟩ := h
  obtain ⟨b, e1, e2⟩ := h3 i _ (List.getElem?_eq_getElem hi)
  refine ⟨as, b, h1, by rw [List.getElem?_map, e1]; rfl, ?_⟩
  rw [List.getD_eq_getElem?_getD, List.getElem?_eq_getElem hi]
  exact e2
theorem row_len {rows : List (List Int)} {n i : Nat} (w : ∀ r ∈ rows, r.length = n) (hi : i < rows.length) : (rows.getD i []).length = n := by
  rw [List.getD_eq_getElem?_getD, List.getElem?_eq_getElem hi]
  exact w _ (List.getElem_mem hi)
def spBuds : Sp := fun vs H Q _ => ∃ (a : Addr) (rows : List (List Int)) (n : Nat), vs = [.ref a] ∧ TabAt H a rows ∧ 0 < rows.length ∧ (∀ r ∈ rows, r.length = n) ∧ Q (.int n) H
theorem ok_buds {f : Addr} {fd : FuncData} {k : Nat} (F : Fun K "bud_count" "bud_count" s_bud_count f fd) (T : Tx mg) : FnOk P w K mg base CX0 (k + 1) f fd ["table"] spBuds := by
  refine F.ok sc_bud_count (fun vs H Q E h => ?_) (fun cdv A outer s H vs Q E hr h => ?_)
  · obtain ⟨a, rows, n, rfl, _⟩ := h
    rfl
  · obtain ⟨a, rows, n, rfl, hT, h0, hw, q⟩ := h
    refine ⟨_, (pss_one (ps_ret (pe_callB (c_len (K := K)) (by rfl) T.len PySem.boot_len (pa_cons (pe_ix (i_tup (K := K)) (pv 0) pe_int (fun _ _ => rfl)) pa_nil)))), ?_⟩
    obtain ⟨as, b, e1, e2, e3⟩ := hT.row h0
    refine ⟨.ref a, rfl, a, _, 0, .ref b, rfl, rfl, SqT.of e1, atI_nat (j := 0) e2, b, _, rfl, .inr (SqT.of e3), ?_⟩
    rw [List.length_map, row_len hw h0]
    exact q
/-! ### pair_bars -/
abbrev s_pair_bars : Stmt := topS 25
abbrev n_pair_bars : List Str := ["table", "i", "j", "one", "other"]
theorem sc_pair_bars : FnScope n_pair_bars ["table", "i", "j"] (defScope s_pair_bars) := ⟨rfl, rfl, rfl, by decide +kernel, rfl, by decide +kernel, by decide +kernel⟩
def spPair : Sp := fun vs H Q _ => ∃ (a : Addr) (rows : List (List Int)) (n i j : Nat), vs = [.ref a, .int i, .int j] ∧ TabAt H a rows ∧ TabOk rows n ∧ i < n ∧ j < n ∧ Q (.bl false) H
theorem ent_get {rows : List (List Int)} {n i j : Nat} (w : ∀ r ∈ rows, r.length = n) (hi : i < rows.length) (hj : j < n) : ((rows.getD i []).map V.int)[j]? = some (.int (ent rows i j)) := by
  have h := row_len w hi
  unfold ent
  have hj2 : j < (rows.getD i []).length := by omega
  rw [List.getElem?_map, List.getElem?_eq_getElem hj2, List.getD_eq_getElem?_getD (i := j), List.getElem?_eq_getElem hj2]
  rfl
theorem ent_bd {rows : List (List Int)} {n i j : Nat} (O : TabOk rows n) (hi : i < rows.length) (hj : j < n) : -50 ≤ ent rows i j ∧ ent rows i j ≤ 50 := by
  have h := row_len O.wide hi
  have hj2 : j < (rows.getD i []).length := by omega
  have e : ent rows i j = (rows.getD i [])[j] := by
    unfold ent
    rw [List.getD_eq_getElem?_getD (i := j), List.getElem?_eq_getElem hj2]
    rfl
  rw [e]
  refine O.tie (rows.getD i []) ?_ _ (List.getElem_mem hj2)
  rw [List.getD_eq_getElem?_getD, List.getElem?_eq_getElem hi]
  exact List.getElem_mem hi
theorem pair_math {x y c d : Int} (hc : 0 < c) (hd : 0 < d) (e : c * x = -(d * y)) : (x = 0 ∧ y = 0) ∨ x * y < 0 := by
  rcases Int.lt_trichotomy x 0 with hx | hx | hx
  · right
    have h1 : c * x < 0 := Int.mul_neg_of_pos_of_neg hc hx
    have h2 : 0 < y := by
      rcases Int.lt_or_le 0 y with h | h
      · exact h
      · have := Int.mul_nonpos_of_nonneg_of_nonpos (Int.le_of_lt hd) h
        omega
    exact Int.mul_neg_of_neg_of_pos hx h2
  · left
    subst hx
    rw [Int.mul_zero] at e
    refine ⟨rfl, ?_⟩
    have : d * y = 0 := by omega
    rcases Int.mul_eq_zero.mp this with h | h
    · omega
    · exact h
  · right
    have h1 : 0 < c * x := Int.mul_pos hc hx
    have h2 : y < 0 := by
      rcases Int.lt_or_le y 0 with h | h
      · exact h
      · have := Int.mul_nonneg (Int.le_of_lt hd) h
        omega
    exact Int.mul_neg_of_pos_of_neg hx h2
theorem ok_pair {f : Addr} {fd : FuncData} {k : Nat} (F : Fun K "pair_bars" "pair_bars" s_pair_bars f fd) (T : Tx mg) : FnOk P w K mg base CX0 (k + 1) f fd ["table", "i", "j"] spPair := by
  refine F.ok sc_pair_bars (fun vs H Q E h => ?_) (fun cdv A outer s H vs Q E hr h => ?_)
  · obtain ⟨a, rows, n, i, j, rfl, _⟩ := h
    rfl
  · obtain ⟨a, rows, n, i, j, rfl, hT, O, hi, hj, q⟩ := h
    refine ⟨_, (pss_cons (ps_set (i := 3) sc_pair_bars.nd rfl (.inl rfl) (pe_ix (i_tup (K := K)) (pe_ix (i_tup (K := K)) (pv 0) (pv 1) (fun _ _ => rfl)) (pv 2) (fun _ _ => rfl)))
  (pss_cons (ps_set (i := 4) sc_pair_bars.nd rfl (.inl rfl) (pe_ix (i_tup (K := K)) (pe_ix (i_tup (K := K)) (pv 0) (pv 2) (fun _ _ => rfl)) (pv 1) (fun _ _ => rfl)))
  (pss_one (ps_ret (pe_and (pe_not (pe_and (pe_cmpR op_eq (pv 3) pe_int (nomark _)) (pe_one (pe_cmpR op_eq (pv 4) pe_int (nomark _))))) (pe_one (pe_cmpR op_ge (pe_op op_mul (pv 3) (pv 4)) pe_int (nomark _)))))))), ?_⟩
    have hl := O.len
    have hi2 : i < rows.length := by omega
    have hj2 : j < rows.length := by omega
    obtain ⟨as, bi, e1, e2, e3⟩ := hT.row hi2
    obtain ⟨as', bj, e1', e2', e3'⟩ := hT.row hj2
    obtain ⟨d, d0, dv⟩ := O.even
    have key := pair_math (d0 i hi) (d0 j hj) (dv i j hi hj)
    have bd := ent_bd O hi2 hj
    refine ⟨.ref a, rfl, .int i, rfl, a, _, i, .ref bi, rfl, rfl, SqT.of e1, atI_nat e2, .int j, rfl, bi, _, j, _, rfl, rfl, SqT.of e3, atI_nat (ent_get O.wide hi2 hj), ?_⟩
    refine ⟨.ref a, rfl, .int j, rfl, a, _, j, .ref bj, rfl, rfl, SqT.of e1', atI_nat e2', .int i, rfl, bj, _, i, _, rfl, rfl, SqT.of e3', atI_nat (ent_get O.wide hj2 hi), ?_⟩
    generalize ent rows i j = x at key bd
    generalize ent rows j i = y at key
    refine ⟨.int x, rfl, rfl, _, rfl, ?_⟩
    rcases key with ⟨rfl, rfl⟩ | key
    · exact ⟨.int 0, rfl, rfl, true, rfl, false, rfl, q⟩
    · refine ite2 (fun e => ?_) (fun e => ?_)
      · have : x = 0 := V.int.inj (of_decide_eq_true e)
        subst this
        omega
      · refine ⟨false, rfl, true, rfl, .int x, rfl, .int y, rfl, x, y, rfl, rfl, .inl ⟨by omega, by omega⟩, _, _, rfl, rfl, ?_⟩
        have z : decide (x * y ≥ 0) = false := decide_eq_false (by omega)
        show Q (V.bl (decide (x * y ≥ 0))) H
        rw [z]
        exact q
end
end Bw
set_option Elab.async false
set_option linter.all false
set_option maxRecDepth 100000
set_option maxHeartbeats 4000000
namespace Bw
open PySem PySem.Spec PyProof.Rows L2
/-! ### walks whose turn is any reading -/
theorem it_list {K : PySem.W.Frag} {a : Addr} {xs : List V} {H1 : Hp} {Qd : Hp → Prop} {Body : V → Hp → (Hp → Prop) → Prop} (Pv : Nat → Hp → Prop) (h0 : Pv 0 H1) (hl : ∀ i H, i ≤ xs.length → Pv i H → SqL K H a xs)
    (hs : ∀ i x H, xs[i]? = some x → Pv i H → Body x H (Pv (i + 1))) (hd : ∀ H, Pv xs.length H → Qd H) :
    ∃ W : Nat → Nat → Hp → Prop, (∃ m, W 0 m H1) ∧ ∀ i m H, W i m H → ((Itl K a).stop i H ∧ Qd H) ∨ ((Itl K a).go i H ∧ ∃ Nx : Hp → Prop, (∀ H', Nx H' → ∃ m', m' < m ∧ W (i + 1) m' H') ∧ ∀ x H', (Itl K a).yld i H x H' → Body x H' Nx) := by
  refine ⟨fun i m H => m = xs.length - i ∧ i ≤ xs.length ∧ Pv i H, ⟨xs.length, by simp, Nat.zero_le _, h0⟩, ?_⟩
  rintro i m H ⟨rfl, hi, p⟩
  have q := hl i H hi p
  by_cases hlt : i < xs.length
  · refine .inr ⟨⟨xs, xs[i], q, by simp [hlt]⟩, Pv (i + 1), fun H' p' => ⟨xs.length - (i + 1), by omega, rfl, hlt, p'⟩, fun x H' y => ?_⟩
    obtain ⟨e, y⟩ := y
    subst e
    exact hs i x _ (y _ q) p
  · exact .inl ⟨⟨xs, q, by omega⟩, hd H (by
      have : i = xs.length := by omega
      rw [this] at p
      exact p)⟩
theorem it_range {lo : Int} {n : Nat} {H1 : Hp} {Qd : Hp → Prop} {Body : V → Hp → (Hp → Prop) → Prop} (Pv : Nat → Hp → Prop) (h0 : Pv 0 H1) (hs : ∀ i H, i < n → Pv i H → Body (.int (lo + i)) H (Pv (i + 1))) (hd : ∀ H, Pv n H → Qd H) :
    ∃ W : Nat → Nat → Hp → Prop, (∃ m, W 0 m H1) ∧ ∀ i m H, W i m H → ((Itr lo n).stop i H ∧ Qd H) ∨ ((Itr lo n).go i H ∧ ∃ Nx : Hp → Prop, (∀ H', Nx H' → ∃ m', m' < m ∧ W (i + 1) m' H') ∧ ∀ x H', (Itr lo n).yld i H x H' → Body x H' Nx) := by
  refine ⟨fun i m H => m = n - i ∧ i ≤ n ∧ Pv i H, ⟨n, by simp, Nat.zero_le _, h0⟩, ?_⟩
  rintro i m H ⟨rfl, hi, p⟩
  by_cases hlt : i < n
  · refine .inr ⟨hlt, Pv (i + 1), fun H' p' => ⟨n - (i + 1), by omega, rfl, hlt, p'⟩, fun x H' y => ?_⟩
    obtain ⟨e, y⟩ := y
    subst e y
    exact hs i _ hlt p
  · exact .inl ⟨(by show n ≤ i; omega), hd H (by
      have : i = n := by omega
      rw [this] at p
      exact p)⟩
section
variable {P : Program} {w : World} {K : PySem.W.Frag} {mg : Str → Option Value} {base : Heap}
/-! ### check_form -/
abbrev s_check_form : Stmt := topS 20
abbrev n_check_form : List Str := ["table", "many", "row"]
theorem sc_check_form : FnScope n_check_form ["table"] (defScope s_check_form) := ⟨rfl, rfl, rfl, by decide +kernel, rfl, by decide +kernel, by decide +kernel⟩
/-- what is asked of a good table -/
def spGood : Sp := fun vs H Q _ => ∃ (a : Addr) (rows : List (List Int)) (n : Nat), vs = [.ref a] ∧ TabAt H a rows ∧ TabOk rows n ∧ ∀ H', Same H H' → Q .non H'
theorem ok_form {f : Addr} {fd : FuncData} (F : Fun K "check_form" "check_form" s_check_form f fd) (T : Tx mg) (c_is_row : Cal P w K mg base CX0 2 "is_row" ["row", "many"] spIsRow) : FnOk P w K mg base CX0 3 f fd ["table"] spGood := by
  refine F.ok sc_check_form (fun vs H Q E h => ?_) (fun cdv A outer s H vs Q E hr h => ?_)
  · obtain ⟨a, rows, n, rfl, _⟩ := h
    rfl
  · obtain ⟨a, rows, n, rfl, hT, O, q⟩ := h
    refine ⟨_, (pss_cons (ps_if (PW.pt (pw_or (pt_not (pt_val (pe_callB (c_isi (K := K)) (by rfl) T.isinstance (by decide +kernel) (pa_cons (pv 0) (pa_cons (pe_bltn (v := .ty "tuple") (by rfl) T.tuple (by decide +kernel) rfl) pa_nil))))) (pw_or (pt_cmpR op_eq (pe_callB (c_len (K := K)) (by rfl) T.len PySem.boot_len (pa_cons (pv 0) pa_nil)) pe_int (nomark _)) (pw_or1 (pt_not (pt_val (pe_callB (c_isi (K := K)) (by rfl) T.isinstance (by decide +kernel) (pa_cons (pe_ix (i_tup (K := K)) (pv 0) pe_int (fun _ _ => rfl)) (pa_cons (pe_bltn (v := .ty "tuple") (by rfl) T.tuple (by decide +kernel) rfl) pa_nil)))))))))
    (pss_one ps_never)
    pss_nil)
  (pss_cons (ps_set (i := 1) sc_check_form.nd rfl (.inr rfl) (pe_callB (c_len (K := K)) (by rfl) T.len PySem.boot_len (pa_cons (pe_ix (i_tup (K := K)) (pv 0) pe_int (fun _ _ => rfl)) pa_nil)))
  (pss_cons (ps_if (PW.pt (pw_or (pt_not (pt_chain op_le op_le pe_int (pv 1) (pe_gint (by rfl) T.MOST_BUDS))) (pw_or1 (pt_not (pt_chain op_le op_le (pv 1) (pe_callB (c_len (K := K)) (by rfl) T.len PySem.boot_len (pa_cons (pv 0) pa_nil)) (pe_op op_add (pv 1) (pe_gint (by rfl) T.MOST_ROOTS)))))))
    (pss_one ps_never)
    pss_nil)
  (pss_one (ps_if (pt_not (pt_val (pe_callB (c_all (K := K) rfl) (by rfl) T.all (by decide +kernel) (pa_cons (pe_lc (own := [("row", 2)]) (by rfl) sc_check_form.nd (p_tup (K := K) (pv 0)) (blkOk_by (own := [("row", 2)]) (N := n_check_form) (sc := defScope s_check_form) (by decide +kernel)) (fun _ _ _ _ _ => (pg_name (i := 2) sc_check_form.nd rfl (.inl rfl))) (fun _ _ _ _ _ => pts_nil) (fun _ _ _ _ _ => (pe_cal c_is_row hr (by rfl) (pa_cons (pv 2) (pa_cons (pv 1) pa_nil))))) pa_nil))))
    (pss_one ps_never)
    pss_nil))))), ?_⟩
    have h1 := O.n1
    have h2 := O.n4
    have h3 := O.len
    have h4 := O.len4
    have l0 : 0 < rows.length := by omega
    obtain ⟨as, ha, hal, has⟩ := id hT
    obtain ⟨b, hb1, hb⟩ := has 0 _ (List.getElem?_eq_getElem l0)
    have hb0 : (as.map V.ref)[0]? = some (.ref b) := by rw [List.getElem?_map, hb1]; rfl
    have hw0 := O.wide _ (List.getElem_mem l0)
    -- the form
    refine ⟨.ref a, rfl, _, _, _, _, true, rfl, .ty "tuple", .base (.tup ha), kit_ty (by decide +kernel), true, rfl, ?_⟩
    refine iteF ⟨.ref a, rfl, a, _, rfl, .inr (SqT.of ha), rfl, _, rfl, ite2 (fun e => ?_) (fun _ => ?_)⟩
    · have := V.int.inj (of_decide_eq_true e)
      rw [List.length_map] at this
      omega
    refine ⟨.ref a, rfl, a, _, 0, .ref b, rfl, rfl, SqT.of ha, atI_nat (j := 0) hb0, _, _, _, _, true, rfl, .ty "tuple", .base (.tup hb), kit_ty (by decide +kernel), true, rfl, iteF ?_⟩
    -- many
    refine ⟨.ref a, rfl, a, _, 0, .ref b, rfl, rfl, SqT.of ha, atI_nat (j := 0) hb0, b, _, rfl, .inr (SqT.of hb), ?_⟩
    rw [List.length_map, hw0]
    refine ⟨.int n, rfl, _, _, rfl, rfl, _, rfl, ite2 (fun _ => ⟨_, _, rfl, rfl, _, rfl, iteNS (show (n : Int) ≤ 4 by omega) ?_⟩) (fun e => absurd (decide_eq_true (show (1 : Int) ≤ n by omega)) e)⟩
    refine ⟨.int n, rfl, .ref a, rfl, a, _, rfl, .inr (SqT.of ha), _, _, rfl, rfl, _, rfl, ?_⟩
    rw [List.length_map, hal]
    refine ite2 (fun _ => ⟨.int n, rfl, _, _, rfl, rfl, _, _, rfl, rfl, _, rfl, iteNS (show (rows.length : Int) ≤ n + 4 by omega) ?_⟩) (fun e => absurd (decide_eq_true (show (n : Int) ≤ rows.length by omega)) e)
    -- all rows
    refine ⟨.ref a, rfl, a, rfl, ⟨_, SqT.of ha⟩, fun D eD => ?_⟩
    have naD : a ≠ D := ne_of_none ha eD
    refine lc_tup (K := K) (a := a) (xs := as.map V.ref) (fun j H' => H' D = some (.lst ((List.replicate j true).map V.bl)) ∧ ∀ b o, b ≠ D → H b = some o → H' b = some o) ⟨upd_same, fun b o n e => by rw [upd_ne n]; exact e⟩ (fun j H' _ ⟨_, k⟩ => SqT.of (k _ _ naD ha)) ?_ ?_
    · rintro j v H1 hv ⟨e1, k1⟩
      rw [List.getElem?_map] at hv
      cases ej : as[j]? with
      | none =>
        rw [ej] at hv
        cases hv
      | some c =>
        rw [ej] at hv
        cases hv
        have hj : j < rows.length := by
          have := (List.getElem?_eq_some_iff.mp ej).1
          omega
        obtain ⟨c', e2, hc⟩ := has j _ (List.getElem?_eq_getElem hj)
        cases (Option.some.inj (ej.symm.trans e2))
        have hw := O.wide _ (List.getElem_mem hj)
        have ht := O.tie _ (List.getElem_mem hj)
        generalize rows[j] = r at hc hw ht
        refine ⟨rfl, .ref c, rfl, .int n, rfl, c, r, by rw [hw]; rfl, k1 _ _ (ne_of_none hc eD) hc, by omega, ht, fun H2 s2 => ?_⟩
        refine ⟨_, s2 _ _ e1, by rw [List.length_map, List.length_replicate]; exact small1000 (by omega), ?_, fun b o n e => ?_⟩
        · rw [upd_same, List.replicate_succ', List.map_append]
          rfl
        · rw [upd_ne n]
          exact s2 _ _ (k1 _ _ n e)
    · rintro H1 ⟨e1, k1⟩
      refine ⟨D, _, rfl, SqL.of e1, true, ?_, iteF (q _ fun b o e => k1 _ _ (ne_of_none e eD) e)⟩
      rw [all_rep]
/-! ### unlike_rows -/
abbrev s_unlike_rows : Stmt := topS 24
abbrev n_unlike_rows : List Str := ["many", "length", "rows", "step", "row", "number"]
theorem sc_unlike_rows : FnScope n_unlike_rows ["many", "length"] (defScope s_unlike_rows) := ⟨rfl, rfl, rfl, by decide +kernel, rfl, by decide +kernel, by decide +kernel⟩
def ringV (g : List Nat) : List V := g.map fun x => V.int (x : Nat)
/-- tuples of so many places -/
def RingsAt (H : Hp) (n m : Nat) (ts : List Addr) : Prop := ∀ t ∈ ts, ∃ g : List Nat, H t = some (.tup (ringV g)) ∧ g.length = m ∧ ∀ x ∈ g, x < n
def spUnlike : Sp := fun vs H Q _ => ∃ (n m : Nat), vs = [.int n, .int m] ∧ n ≤ 4 ∧ m ≤ 4 ∧ ∀ (p : Addr) (ts : List Addr) (H' : Hp), Same H H' → H' p = some (.lst (ts.map V.ref)) → RingsAt H' n m ts → ts.length ≤ 256 → Q (.ref p) H'
theorem pow4 {i : Nat} (h : i ≤ 4) : 4 ^ i ≤ 256 := Nat.pow_le_pow_right (by decide) h
theorem flat_ring (g : List Nat) : (ringV g).all flatV = true := by
  rw [List.all_eq_true]
  intro x hx
  unfold ringV at hx
  obtain ⟨y, _, rfl⟩ := List.mem_map.mp hx
  rfl
theorem ok_unlike {f : Addr} {fd : FuncData} {k : Nat} (F : Fun K "unlike_rows" "unlike_rows" s_unlike_rows f fd) (T : Tx mg) : FnOk P w K mg base CX0 (k + 1) f fd ["many", "length"] spUnlike := by
  refine F.ok sc_unlike_rows (fun vs H Q E h => ?_) (fun cdv A outer s H vs Q E hr h => ?_)
  · obtain ⟨n, m, rfl, _⟩ := h
    rfl
  · obtain ⟨n, m, rfl, n4, m4, q⟩ := h
    refine ⟨_, (pss_cons (ps_set (i := 2) sc_unlike_rows.nd rfl (.inl rfl) (pe_lst (pa_cons (pe_tup pa_nil) pa_nil)))
      (pss_cons (ps_for PassesOwn.never rfl (pi_range1 (by rfl) T.range (pa_cons (pv 1) pa_nil)) (pg_name (i := 3) sc_unlike_rows.nd rfl (.inl rfl))
        (pss_one (ps_setLc2 (i := 2) (own := [("row", 4), ("number", 5)]) (vs1 := [5]) (by rfl) sc_unlike_rows.nd rfl rfl (sw_true rfl rfl rfl (by decide +kernel)) (p_list (K := K) (pv 2)) (blkOk_by (own := [("row", 4), ("number", 5)]) (N := n_unlike_rows) (sc := defScope s_unlike_rows) (by decide +kernel)) (by decide)
          (fun _ _ _ _ _ => (pg_name (i := 4) sc_unlike_rows.nd rfl (.inl rfl))) (fun _ _ _ _ _ => pts_nil) (fun _ _ _ _ _ => (pi_range1 (by rfl) T.range (pa_cons (pv 0) pa_nil))) (fun _ _ _ _ _ => (pg_name (i := 5) sc_unlike_rows.nd rfl (.inl rfl))) (fun _ _ _ _ _ => pts_one (pt_cmpR (o_notin (K := K)) (pv 5) (pv 4) (by rfl)))
          (fun _ _ _ _ _ => (pe_op (o_cat (K := K)) (pv 4) (pe_tup (pa_cons (pv 5) pa_nil)))))))
      (pss_one (ps_ret (pv 2))))), ?_⟩
    -- rows = [()]
    refine ⟨Nat.zero_le _, fun e he => ⟨by show 1 ≤ sizeLine; decide, fun R eR => ?_⟩⟩
    have s1 := same_upd (o := .tup []) he
    have s2 := same_upd (o := .lst [.ref e]) eR
    refine ⟨.int m, rfl, m, rfl, by omega, by omega, for_range (fun i σ H' => ∃ (y3 : Option V) (R : Addr) (ts : List Addr), σ = [some (.int n), some (.int m), some (.ref R), y3, none, none] ∧ Same H H' ∧ H' R = some (.lst (ts.map V.ref)) ∧ RingsAt H' n i ts ∧ ts.length ≤ 4 ^ i)
      ⟨none, R, [e], rfl, s1.trans s2, upd_same, fun t ht => ?_, Nat.le_refl 1⟩ ?_ ?_⟩
    · rw [List.mem_singleton.mp ht]
      exact ⟨[], s2 _ _ upd_same, rfl, by simp⟩
    · rintro i σ H1 hi ⟨y3, R, ts, rfl, sm, eR1, hts, lts⟩
      have hi : i < m := hi
      have l256 : ts.length ≤ 256 := Nat.le_trans lts (pow4 (by omega))
      refine ⟨.ref R, rfl, R, rfl, ⟨_, SqL.of eR1⟩, fun D eD => ?_⟩
      have nRD : R ≠ D := ne_of_none eR1 eD
      refine it_list (K := K) (a := R) (xs := ts.map V.ref) (fun j H' => ∃ us : List Addr, H' D = some (.lst (us.map V.ref)) ∧ RingsAt H' n (i + 1) us ∧ us.length ≤ 4 * j ∧ ∀ b o, b ≠ D → H1 b = some o → H' b = some o)
        ⟨[], upd_same, fun t ht => by simp at ht, by simp, fun b o n e => by rw [upd_ne n]; exact e⟩ (fun j H' _ ⟨us, _, _, _, k⟩ => SqL.of (k _ _ nRD eR1)) ?_ ?_
      · rintro j v H2 hv ⟨us, eD2, hus, lus, k2⟩
        rw [List.getElem?_map] at hv
        cases ej : ts[j]? with
        | none =>
          rw [ej] at hv
          cases hv
        | some t =>
          rw [ej] at hv
          cases hv
          have hjl := (List.getElem?_eq_some_iff.mp ej).1
          obtain ⟨g, hg, lg, gb⟩ := hts t (List.mem_of_getElem? ej)
          refine ⟨rfl, .int n, rfl, n, rfl, by omega, by omega, it_range (fun x H' => ∃ us : List Addr, H' D = some (.lst (us.map V.ref)) ∧ RingsAt H' n (i + 1) us ∧ us.length ≤ 4 * j + x ∧ ∀ b o, b ≠ D → H1 b = some o → H' b = some o) ⟨us, eD2, hus, lus, k2⟩ ?_ ?_⟩
          · rintro x H3 hx ⟨us, eD3, hus, lus, k3⟩
            have hx : x < n := hx
            have e0 : (0 : Int) + (x : Int) = ((x : Nat) : Int) := by omega
            rw [e0]
            have ht3 := k3 _ _ (ne_of_none hg eD) hg
            refine ⟨rfl, .int x, rfl, .ref t, rfl, t, _, rfl, .inr (SqT.of ht3), rfl, flat_ring g, _, rfl, ite2 (fun _ => ?_) (fun _ => ⟨us, eD3, hus, by omega, k3⟩)⟩
            refine ⟨.ref t, rfl, .int x, rfl, by show 1 ≤ sizeLine; decide, fun c ec => ?_⟩
            have sc := same_upd (o := .tup [.int x]) ec
            have done : ∀ (z : Addr) (H4 : Hp), Same H3 H4 → H4 z = some (.tup (ringV (g ++ [x]))) → ∃ acc, H4 D = some (.lst acc) ∧ acc.length < sizeLine ∧ ∃ us : List Addr, (upd H4 D (.lst (acc ++ [.ref z]))) D = some (.lst (us.map V.ref)) ∧ RingsAt (upd H4 D (.lst (acc ++ [.ref z]))) n (i + 1) us ∧ us.length ≤ 4 * j + (x + 1) ∧ ∀ b o, b ≠ D → H1 b = some o → (upd H4 D (.lst (acc ++ [.ref z]))) b = some o := by
              intro z H4 s4 hz
              have eD4 := s4 _ _ eD3
              refine ⟨_, eD4, by rw [List.length_map]; exact Nat.lt_of_le_of_lt (show us.length ≤ 5000 by omega) (by decide), us ++ [z], by rw [upd_same, List.map_append]; rfl, fun t' ht' => ?_, by rw [List.length_append]; show us.length + 1 ≤ _; omega, fun b o nb e => by rw [upd_ne nb]; exact s4 _ _ (k3 _ _ nb e)⟩
              rcases List.mem_append.mp ht' with ht' | ht'
              · obtain ⟨g', a1, a2, a3⟩ := hus t' ht'
                have a4 := s4 _ _ a1
                refine ⟨g', ?_, a2, a3⟩
                rw [upd_ne (ne_of a4 eD4 (by intro z; cases z))]
                exact a4
              · rw [List.mem_singleton.mp ht']
                refine ⟨g ++ [x], ?_, by rw [List.length_append, lg]; rfl, fun y hy => ?_⟩
                · rw [upd_ne (ne_of hz eD4 (by intro z; cases z))]
                  exact hz
                · rcases List.mem_append.mp hy with hy | hy
                  · exact gb y hy
                  · rw [List.mem_singleton.mp hy]
                    exact hx
            refine ⟨t, c, ringV g, [.int x], rfl, rfl, SqT.of (sc _ _ ht3), SqT.of upd_same, ?_, fun z => ?_, fun _ z => (by cases z), fun _ _ p ep => ?_⟩
            · unfold ringV
              rw [List.length_map]
              show g.length + 1 ≤ sizeLine
              exact Nat.le_of_lt (small1000 (by omega))
            · refine done c _ sc ?_
              rw [upd_same]
              unfold ringV at z ⊢
              rw [List.map_append, z]
              rfl
            · refine done p _ (sc.trans (same_upd ep)) ?_
              rw [upd_same]
              unfold ringV
              rw [List.map_append]
              rfl
          · rintro H3 ⟨us, eD3, hus, lus, k3⟩
            have lus : us.length ≤ 4 * j + ((n : Int)).toNat := lus
            exact ⟨us, eD3, hus, by omega, k3⟩
      · rintro H2 ⟨us, eD2, hus, lus, k2⟩
        rw [List.length_map] at lus
        exact ⟨_, D, us, rfl, fun b o e => k2 _ _ (ne_of_none (sm _ _ e) eD) (sm _ _ e), eD2, hus, by rw [Nat.pow_succ]; omega⟩
    · rintro σ H1 ⟨y3, R, ts, rfl, sm, eR1, hts, lts⟩
      exact ⟨.ref R, rfl, q R ts _ sm eR1 hts (Nat.le_trans lts (pow4 m4))⟩
end
end Bw
set_option Elab.async false
set_option linter.all false
set_option maxRecDepth 100000
set_option maxHeartbeats 4000000
namespace Bw
open PySem PySem.Spec PyProof.Rows L2
/-! ### rings of an even table -/
def np (l : List Nat) : Nat := l.foldr (· * ·) 1
def fl (F : Nat × Nat → Int) (zs : List (Nat × Nat)) : Int := zs.foldl (fun p z => p * F z) 1
theorem fl_abs (F : Nat × Nat → Int) : ∀ (zs : List (Nat × Nat)) (c : Int), (zs.foldl (fun p z => p * F z) c).natAbs = c.natAbs * np (zs.map fun z => (F z).natAbs)
  | [], c => (Nat.mul_one _).symm
  | z :: zs, c => by
    show (zs.foldl (fun p z => p * F z) (c * F z)).natAbs = c.natAbs * ((F z).natAbs * np (zs.map fun z => (F z).natAbs))
    rw [fl_abs F zs, Int.natAbs_mul, Nat.mul_assoc]
theorem np_bal (D : Nat → Nat) (F G : Nat × Nat → Nat) : ∀ zs : List (Nat × Nat), (∀ z ∈ zs, D z.1 * F z = D z.2 * G z) → np ((zs.map (·.1)).map D) * np (zs.map F) = np ((zs.map (·.2)).map D) * np (zs.map G)
  | [], _ => rfl
  | z :: zs, h => by
    have h1 := h z (List.mem_cons_self ..)
    have ih := np_bal D F G zs fun y hy => h y (List.mem_cons_of_mem _ hy)
    show (D z.1 * np ((zs.map (·.1)).map D)) * (F z * np (zs.map F)) = (D z.2 * np ((zs.map (·.2)).map D)) * (G z * np (zs.map G))
    rw [Nat.mul_mul_mul_comm, h1, ih, Nat.mul_mul_mul_comm]
theorem np_append (l m : List Nat) : np (l ++ m) = np l * np m := by
  induction l with
  | nil => exact (Nat.one_mul _).symm
  | cons x l ih =>
    show x * np (l ++ m) = x * np l * np m
    rw [ih, Nat.mul_assoc]
theorem np_pos : ∀ l : List Nat, (∀ x ∈ l, 0 < x) → 0 < np l
  | [], _ => Nat.one_pos
  | x :: l, h => Nat.mul_pos (h x (List.mem_cons_self ..)) (np_pos l fun y hy => h y (List.mem_cons_of_mem _ hy))
def rot (g : List Nat) : List Nat := g.drop 1 ++ g.take 1
theorem rot_len (g : List Nat) : (rot g).length = g.length := by
  unfold rot
  rw [List.length_append, List.length_drop, List.length_take]
  omega
theorem rot_mem {g : List Nat} {x : Nat} (h : x ∈ rot g) : x ∈ g := by
  rcases List.mem_append.mp h with h | h
  · exact List.mem_of_mem_drop h
  · exact List.mem_of_mem_take h
theorem np_rot (D : Nat → Nat) (g : List Nat) : np ((rot g).map D) = np (g.map D) := by
  unfold rot
  rw [List.map_append, np_append, Nat.mul_comm, ← np_append, ← List.map_append, List.take_append_drop]
theorem ring_math {rows : List (List Int)} {n : Nat} (O : TabOk rows n) {g : List Nat} (hg : ∀ x ∈ g, x < n) :
    (fl (fun z => ent rows z.1 z.2) (g.zip (rot g))).natAbs = (fl (fun z => ent rows z.2 z.1) (g.zip (rot g))).natAbs := by
  obtain ⟨d, d0, dv⟩ := O.even
  have b := np_bal (fun x => (d x).natAbs) (fun z => (ent rows z.1 z.2).natAbs) (fun z => (ent rows z.2 z.1).natAbs) (g.zip (rot g)) (fun z hz => by
    have h1 := hg _ (List.of_mem_zip hz).1
    have h2 := hg _ (rot_mem (List.of_mem_zip hz).2)
    have e := congrArg Int.natAbs (dv _ _ h1 h2)
    rw [Int.natAbs_neg, Int.natAbs_mul, Int.natAbs_mul] at e
    exact e)
  rw [List.map_fst_zip (by rw [rot_len]; exact Nat.le_refl _), List.map_snd_zip (by rw [rot_len]; exact Nat.le_refl _), np_rot] at b
  have pos : 0 < np (g.map fun x => (d x).natAbs) := np_pos _ fun x hx => by
    obtain ⟨y, hy, rfl⟩ := List.mem_map.mp hx
    have := d0 y (hg y hy)
    omega
  have c := Nat.eq_of_mul_eq_mul_left pos b
  unfold fl
  rw [fl_abs (fun z => ent rows z.1 z.2), fl_abs (fun z => ent rows z.2 z.1), c]
theorem fl_take {F : Nat × Nat → Int} {zs : List (Nat × Nat)} {i : Nat} {z : Nat × Nat} (h : zs[i]? = some z) : fl F (zs.take (i + 1)) = fl F (zs.take i) * F z := by
  unfold fl
  rw [List.take_add_one, h, List.foldl_append]
  rfl
theorem abs_if (x : Int) : (if x < 0 then -x else x) = (x.natAbs : Int) := by
  split <;> omega
section
variable {P : Program} {w : World} {K : PySem.W.Frag} {mg : Str → Option Value} {base : Heap}
abbrev s_ring_bars : Stmt := topS 26
abbrev n_ring_bars : List Str := ["table", "ring", "onward", "back", "i", "j"]
theorem sc_ring_bars : FnScope n_ring_bars ["table", "ring"] (defScope s_ring_bars) := ⟨rfl, rfl, rfl, by decide +kernel, rfl, by decide +kernel, by decide +kernel⟩
def spRing : Sp := fun vs H Q _ => ∃ (a t : Addr) (rows : List (List Int)) (n : Nat) (g : List Nat), vs = [.ref a, .ref t] ∧ TabAt H a rows ∧ TabOk rows n ∧ H t = some (.tup (ringV g)) ∧ 2 ≤ g.length ∧ g.length ≤ 4 ∧ (∀ x ∈ g, x < n) ∧ ∀ H', Same H H' → Q (.bl false) H'
theorem cut_ring1 {g : List Nat} (h : 2 ≤ g.length) : cutV (ringV g) (some 1) none = ringV (g.drop 1) := by
  unfold cutV ringV
  rw [show HT.sIx (g.map fun x => V.int (x : Nat)).length 0 (some 1) = min 1 (g.map fun x => V.int (x : Nat)).length from HT.sIx_nat _ 0 1, HT.sIx_none, List.length_map, Nat.min_eq_left (by omega), List.map_drop, List.take_of_length_le]
  rw [List.length_drop, List.length_map]
  exact Nat.le_refl _
theorem cut_ring2 {g : List Nat} (h : 2 ≤ g.length) : cutV (ringV g) none (some 1) = ringV (g.take 1) := by
  unfold cutV ringV
  rw [show HT.sIx (g.map fun x => V.int (x : Nat)).length (g.map fun x => V.int (x : Nat)).length (some 1) = min 1 (g.map fun x => V.int (x : Nat)).length from HT.sIx_nat _ _ 1, HT.sIx_none, List.length_map, Nat.min_eq_left (by omega), List.map_take, List.drop_zero]
theorem ringV_len (g : List Nat) : (ringV g).length = g.length := by
  unfold ringV
  rw [List.length_map]
theorem ringV_at {g : List Nat} {i : Nat} {y : V} (h : (ringV g)[i]? = some y) : ∃ x, g[i]? = some x ∧ y = .int (x : Nat) := by
  unfold ringV at h
  rw [List.getElem?_map] at h
  cases e : g[i]? with
  | none =>
    rw [e] at h
    cases h
  | some u =>
    rw [e] at h
    exact ⟨u, rfl, (Option.some.inj h).symm⟩
theorem ok_ring {f : Addr} {fd : FuncData} {k : Nat} (F : Fun K "ring_bars" "ring_bars" s_ring_bars f fd) (T : Tx mg) : FnOk P w K mg base CX0 (k + 1) f fd ["table", "ring"] spRing := by
  refine F.ok sc_ring_bars (fun vs H Q E h => ?_) (fun cdv A outer s H vs Q E hr h => ?_)
  · obtain ⟨a, t, rows, n, g, rfl, _⟩ := h
    rfl
  · obtain ⟨a, t, rows, n, g, rfl, hT, O, ht, g2, g4, hg, q⟩ := h
    refine ⟨_, (pss_cons (ps_set (i := 2) sc_ring_bars.nd rfl (.inl rfl) pe_int)
  (pss_cons (ps_set (i := 3) sc_ring_bars.nd rfl (.inl rfl) pe_int)
  (pss_cons (ps_for PassesOwn.never rfl (RZ.pi_zipA (by rfl) T.zip (pa_cons (pv 1) (pa_cons (pe_op (o_cat (K := K)) (pe_slice (l_tup (K := K)) (pv 1) (po_some pe_int) po_none) (pe_slice (l_tup (K := K)) (pv 1) po_none (po_some pe_int))) pa_nil))) (pg_tup rfl (pgs_cons (pg_name (i := 4) sc_ring_bars.nd rfl (.inl rfl)) (pgs_cons (pg_name (i := 5) sc_ring_bars.nd rfl (.inl rfl)) pgs_nil)))
    (pss_cons (ps_aug (i := 2) sc_ring_bars.nd rfl (.inl rfl) (pe_ix (i_tup (K := K)) (pe_ix (i_tup (K := K)) (pv 0) (pv 4) (fun _ _ => rfl)) (pv 5) (fun _ _ => rfl)) ip_mul)
    (pss_one (ps_aug (i := 3) sc_ring_bars.nd rfl (.inl rfl) (pe_ix (i_tup (K := K)) (pe_ix (i_tup (K := K)) (pv 0) (pv 5) (fun _ _ => rfl)) (pv 4) (fun _ _ => rfl)) ip_mul))))
  (pss_one (ps_ret (pe_cmpR op_ne (pe_callB call_abs (by rfl) T.abs (by decide +kernel) (pa_cons (pv 2) pa_nil)) (pe_callB call_abs (by rfl) T.abs (by decide +kernel) (pa_cons (pv 3) pa_nil)) (nomark _))))))), ?_⟩
    -- zip(ring, ring[1:] + ring[:1])
    refine ⟨.ref t, rfl, .ref t, rfl, 1, rfl, t, _, rfl, SqT.of ht, fun z => ?_, fun _ c ec => ?_⟩
    · have z1 := z.1
      rw [show HT.sIx (ringV g).length 0 (some 1) = min 1 (ringV g).length from HT.sIx_nat _ 0 1, ringV_len] at z1
      omega
    have s1 := same_upd (o := .tup (cutV (ringV g) (some 1) none)) ec
    refine ⟨.ref t, rfl, 1, rfl, t, _, rfl, SqT.of (s1 _ _ ht), fun z => ?_, fun _ e ee => ?_⟩
    · have z1 := z.2
      rw [show HT.sIx (ringV g).length (ringV g).length (some 1) = min 1 (ringV g).length from HT.sIx_nat _ _ 1, ringV_len] at z1
      omega
    have s2 := same_upd (o := .tup (cutV (ringV g) none (some 1))) ee
    have hc := s2 _ _ (upd_same (H := H) (a := c) (o := .tup (cutV (ringV g) (some 1) none)))
    have hlc : (cutV (ringV g) (some 1) none).length = g.length - 1 := by rw [cut_ring1 g2, ringV_len, List.length_drop]
    have hle : (cutV (ringV g) none (some 1)).length = 1 := by
      rw [cut_ring2 g2, ringV_len, List.length_take]
      omega
    refine ⟨c, e, _, _, rfl, rfl, SqT.of hc, SqT.of upd_same, ?_, fun z => ?_, fun _ z => ?_, fun _ _ p ep => ?_⟩
    · rw [hlc, hle]
      exact Nat.le_of_lt (small1000 (by omega))
    · rw [z] at hlc
      have : 0 = g.length - 1 := hlc
      omega
    · rw [z] at hle
      cases hle
    have s3 := same_upd (o := .tup (cutV (ringV g) (some 1) none ++ cutV (ringV g) none (some 1))) ep
    have hp : (upd (upd (upd H c (.tup (cutV (ringV g) (some 1) none))) e (.tup (cutV (ringV g) none (some 1)))) p (.tup (cutV (ringV g) (some 1) none ++ cutV (ringV g) none (some 1)))) p = some (.tup (ringV (rot g))) := by
      rw [upd_same, cut_ring1 g2, cut_ring2 g2]
      unfold rot ringV
      rw [List.map_append]
    have s13 := s1.trans (s2.trans s3)
    generalize (upd (upd (upd H c (.tup (cutV (ringV g) (some 1) none))) e (.tup (cutV (ringV g) none (some 1)))) p (.tup (cutV (ringV g) (some 1) none ++ cutV (ringV g) none (some 1)))) = H3 at hp s13
    have ht3 := s13 _ _ ht
    have hT3 := hT.same s13
    refine ⟨t, p, ringV g, ringV (rot g), rfl, .inr ⟨SqT.of ht3, SqT.of hp, RZ.for_zipT (by rw [ringV_len, ringV_len, rot_len]) (fun i σ H' => ∃ y4 y5 : Option V, σ = [some (.ref a), some (.ref t), some (.int (fl (fun z => ent rows z.1 z.2) ((g.zip (rot g)).take i))), some (.int (fl (fun z => ent rows z.2 z.1) ((g.zip (rot g)).take i))), y4, y5] ∧ Same H3 H') ⟨none, none, rfl, .refl _⟩ (fun i σ H' ⟨_, _, _, s⟩ => ⟨SqT.of (s _ _ ht3), SqT.of (s _ _ hp)⟩) ?_ ?_⟩⟩
    · rintro i vx vy Tt σ H4 hx hy ⟨y4, y5, rfl, s4⟩ nT
      obtain ⟨x, ex, rfl⟩ := ringV_at hx
      obtain ⟨y, ey, rfl⟩ := ringV_at hy
      have hxn := hg x (List.mem_of_getElem? ex)
      have hyn := hg y (rot_mem (List.mem_of_getElem? ey))
      have hl := O.len
      have hz : (g.zip (rot g))[i]? = some (x, y) := by
        rw [List.getElem?_zip_eq_some]
        exact ⟨ex, ey⟩
      have s5 := s4.trans (same_upd (o := .tup [.int x, .int y]) nT)
      have hT5 := hT3.same s5
      obtain ⟨as, bx, e1, e2, e3⟩ := hT5.row (show x < rows.length by omega)
      obtain ⟨as', by', e1', e2', e3'⟩ := hT5.row (show y < rows.length by omega)
      have bd1 := ent_bd O (show x < rows.length by omega) hyn
      have bd2 := ent_bd O (show y < rows.length by omega) hxn
      refine ⟨Tt, [.int x, .int y], rfl, SqT.of upd_same, rfl, .int x, [.int y], rfl, .int y, [], rfl, rfl, ?_⟩
      refine ⟨_, rfl, .ref a, rfl, .int x, rfl, a, _, x, .ref bx, rfl, rfl, SqT.of e1, atI_nat e2, .int y, rfl, bx, _, y, _, rfl, rfl, SqT.of e3, atI_nat (ent_get O.wide (by omega) hyn), _, _, rfl, rfl, .inr ⟨by omega, by omega⟩, ?_⟩
      refine ⟨_, rfl, .ref a, rfl, .int y, rfl, a, _, y, .ref by', rfl, rfl, SqT.of e1', atI_nat e2', .int x, rfl, by', _, x, _, rfl, rfl, SqT.of e3', atI_nat (ent_get O.wide (by omega) hxn), _, _, rfl, rfl, .inr ⟨by omega, by omega⟩, ?_⟩
      refine ⟨some (.int x), some (.int y), ?_, s5⟩
      rw [fl_take hz, fl_take hz]
      rfl
    · rintro σ H4 ⟨y4, y5, rfl, s4⟩
      have et : (g.zip (rot g)).take (ringV g).length = g.zip (rot g) := List.take_of_length_le (by rw [ringV_len, List.length_zip]; omega)
      rw [et]
      have m := ring_math O hg
      refine ⟨_, rfl, _, rfl, _, rfl, _, rfl, rfl, ?_⟩
      rw [abs_if, abs_if, m, decide_eq_true rfl]
      exact q _ (s13.trans s4)
/-! ### barred -/
abbrev s_barred : Stmt := topS 27
abbrev n_barred : List Str := ["table", "many", "i", "j", "ring"]
theorem sc_barred : FnScope n_barred ["table"] (defScope s_barred) := ⟨rfl, rfl, rfl, by decide +kernel, rfl, by decide +kernel, by decide +kernel⟩
theorem ok_barred {f : Addr} {fd : FuncData} (F : Fun K "barred" "barred" s_barred f fd) (T : Tx mg) (c_check_form : Cal P w K mg base CX0 3 "check_form" ["table"] spGood) (c_bud_count : Cal P w K mg base CX0 1 "bud_count" ["table"] spBuds)
    (c_pair_bars : Cal P w K mg base CX0 1 "pair_bars" ["table", "i", "j"] spPair) (c_unlike_rows : Cal P w K mg base CX0 1 "unlike_rows" ["many", "length"] spUnlike) (c_ring_bars : Cal P w K mg base CX0 1 "ring_bars" ["table", "ring"] spRing) : FnOk P w K mg base CX0 4 f fd ["table"] spGood := by
  refine F.ok sc_barred (fun vs H Q E h => ?_) (fun cdv A outer s H vs Q E hr h => ?_)
  · obtain ⟨a, rows, n, rfl, _⟩ := h
    rfl
  · obtain ⟨a, rows, n, rfl, hT, O, q⟩ := h
    have hr1 := hr.mono (show 1 ≤ 3 by decide)
    refine ⟨_, (pss_cons (ps_expr (pe_cal c_check_form hr (by rfl) (pa_cons (pv 0) pa_nil)))
  (pss_cons (ps_set (i := 1) sc_barred.nd rfl (.inl rfl) (pe_cal c_bud_count hr1 (by rfl) (pa_cons (pv 0) pa_nil)))
  (pss_cons (ps_for PassesOwn.never rfl (pi_range1 (by rfl) T.range (pa_cons (pv 1) pa_nil)) (pg_name (i := 2) sc_barred.nd rfl (.inl rfl))
    (pss_one (ps_for PassesOwn.never rfl (pi_range2 (by rfl) T.range (pa_cons (pv 2) (pa_cons (pv 1) pa_nil))) (pg_name (i := 3) sc_barred.nd rfl (.inl rfl))
      (pss_one (ps_if (pt_val (pe_cal c_pair_bars hr1 (by rfl) (pa_cons (pv 0) (pa_cons (pv 2) (pa_cons (pv 3) pa_nil)))))
        (pss_one (ps_ret (pe_tup (pa_cons (pv 2) (pa_cons (pv 3) pa_nil)))))
        pss_nil)))))
  (pss_cons (ps_for PassesOwn.never rfl (p_list (K := K) (pe_op op_cat (pe_cal c_unlike_rows hr1 (by rfl) (pa_cons (pv 1) (pa_cons pe_int pa_nil))) (pe_cal c_unlike_rows hr1 (by rfl) (pa_cons (pv 1) (pa_cons pe_int pa_nil))))) (pg_name (i := 4) sc_barred.nd rfl (.inl rfl))
    (pss_one (ps_if (pt_val (pe_cal c_ring_bars hr1 (by rfl) (pa_cons (pv 0) (pa_cons (pv 4) pa_nil))))
      (pss_one (ps_ret (pv 4)))
      pss_nil)))
  (pss_one (ps_ret pe_non)))))), ?_⟩
    have h1 := O.n1
    have h2 := O.n4
    have h3 := O.len
    refine ⟨.ref a, rfl, a, rows, n, rfl, hT, O, fun H1 s1 => ?_⟩
    refine ⟨.ref a, rfl, a, rows, n, rfl, hT.same s1, by omega, O.wide, ?_⟩
    refine ⟨.int n, rfl, n, rfl, by omega, by omega, for_range (fun i σ H' => ∃ y2 y3 : Option V, σ = [some (.ref a), some (.int n), y2, y3, none] ∧ Same H H') ⟨none, none, rfl, s1⟩ ?_ ?_⟩
    · rintro i σ H2 hi ⟨y2, y3, rfl, s2⟩
      have hi : i < n := hi
      have e0 : (0 : Int) + (i : Int) = (i : Int) := by omega
      rw [e0]
      refine ⟨_, rfl, _, rfl, i, n, rfl, ⟨by omega, by omega, by omega, by omega⟩, for_range (fun j σ H' => ∃ y3 : Option V, σ = [some (.ref a), some (.int n), some (.int i), y3, none] ∧ Same H H') ⟨y3, rfl, s2⟩ ?_ ?_⟩
      · rintro j σ H3 hj ⟨y3, rfl, s3⟩
        obtain ⟨J, hJ⟩ : ∃ J : Nat, (i : Int) + (j : Int) = (J : Int) := ⟨i + j, by omega⟩
        rw [hJ]
        exact ⟨_, rfl, _, rfl, _, rfl, a, rows, n, i, J, rfl, hT.same s3, O, hi, by omega, false, rfl, iteF ⟨_, rfl, s3⟩⟩
      · rintro σ H3 ⟨y3, rfl, s3⟩
        exact ⟨_, y3, rfl, s3⟩
    · rintro σ H2 ⟨y2, y3, rfl, s2⟩
      refine ⟨.int n, rfl, n, 3, rfl, h2, by decide, fun p ts H3 s3 hp hts l3 => ?_⟩
      refine ⟨.int n, rfl, n, 4, rfl, h2, by decide, fun p' ts' H4 s4 hp' hts' l4 => ?_⟩
      refine ⟨p, p', _, _, rfl, rfl, s4 _ _ hp, hp', ?_, fun R eR => ?_⟩
      · rw [List.length_map, List.length_map]
        exact Nat.le_trans (show ts.length + ts'.length ≤ 1000 by omega) (by decide)
      have sR := same_upd (o := .lst (ts.map V.ref ++ ts'.map V.ref)) eR
      refine ⟨R, rfl, ⟨_, SqL.of upd_same⟩, for_list (K := K) (a := R) (xs := ts.map V.ref ++ ts'.map V.ref) (fun i σ H' => ∃ y4 : Option V, σ = [some (.ref a), some (.int n), y2, y3, y4] ∧ Same (upd H4 R (.lst (ts.map V.ref ++ ts'.map V.ref))) H') ⟨none, rfl, .refl _⟩ (fun i σ H' _ ⟨_, _, s⟩ => SqL.of (s _ _ upd_same)) ?_ ?_⟩
      · rintro i v σ H5 hv ⟨y4, rfl, s5⟩
        obtain ⟨t, g, rfl, hg, gl, gb⟩ : ∃ (t : Addr) (g : List Nat), v = .ref t ∧ H4 t = some (.tup (ringV g)) ∧ (g.length = 3 ∨ g.length = 4) ∧ ∀ x ∈ g, x < n := by
          rcases List.mem_append.mp (List.mem_of_getElem? hv) with h | h
          · obtain ⟨t, ht, e⟩ := List.mem_map.mp h
            subst e
            obtain ⟨g, a1, a2, a3⟩ := hts t ht
            exact ⟨t, g, rfl, s4 _ _ a1, .inl a2, a3⟩
          · obtain ⟨t, ht, e⟩ := List.mem_map.mp h
            subst e
            obtain ⟨g, a1, a2, a3⟩ := hts' t ht
            exact ⟨t, g, rfl, a1, .inr a2, a3⟩
        refine ⟨_, rfl, _, rfl, a, t, rows, n, g, rfl, hT.same (s2.trans (s3.trans (s4.trans (sR.trans s5)))), O, s5 _ _ (sR _ _ hg), by omega, by omega, gb, fun H6 s6 => ?_⟩
        exact ⟨false, rfl, iteF ⟨_, rfl, s5.trans s6⟩⟩
      · rintro σ H5 ⟨y4, rfl, s5⟩
        exact q _ (s2.trans (s3.trans (s4.trans (sR.trans s5))))
/-! ### check_table -/
abbrev s_check_table : Stmt := topS 21
abbrev n_check_table : List Str := ["table", "ring"]
theorem sc_check_table : FnScope n_check_table ["table"] (defScope s_check_table) := ⟨rfl, rfl, rfl, by decide +kernel, rfl, by decide +kernel, by decide +kernel⟩
theorem ok_check {f : Addr} {fd : FuncData} (F : Fun K "check_table" "check_table" s_check_table f fd) (T : Tx mg) (c_barred : Cal P w K mg base CX0 4 "barred" ["table"] spGood) : FnOk P w K mg base CX0 5 f fd ["table"] spGood := by
  refine F.ok sc_check_table (fun vs H Q E h => ?_) (fun cdv A outer s H vs Q E hr h => ?_)
  · obtain ⟨a, rows, n, rfl, _⟩ := h
    rfl
  · obtain ⟨a, rows, n, rfl, hT, O, q⟩ := h
    refine ⟨_, (pss_cons (ps_set (i := 1) sc_check_table.nd rfl (.inl rfl) (pe_cal c_barred hr (by rfl) (pa_cons (pv 0) pa_nil)))
  (pss_one (ps_if (pt_cmpR op_notN (pv 1) pe_non (nomark _))
    (pss_one ps_never)
    pss_nil))), ?_⟩
    refine ⟨.ref a, rfl, a, rows, n, rfl, hT, O, fun H1 s1 => ?_⟩
    exact ⟨.non, rfl, rfl, _, rfl, iteF (q _ s1)⟩
end
end Bw
set_option Elab.async false
set_option linter.all false
set_option maxRecDepth 100000
set_option maxHeartbeats 4000000
namespace Bw
open PySem PySem.Spec PyProof.Rows L2
/-! ### walks whose turn is any reading -/
theorem it_listS {K : PySem.W.Frag} {a : Addr} {xs : List V} {H1 : Hp} {Qd : Hp → Prop} {Body : V → Hp → (Hp → Prop) → Prop} (Pv : Nat → Hp → Prop) (h0 : Pv 0 H1) (hl : ∀ i H, i ≤ xs.length → Pv i H → SqL K H a xs)
    (hs : ∀ i x H, xs[i]? = some x → Pv i H → Body x H (Pv (i + 1))) (hd : ∀ H, Pv xs.length H → Qd H) :
    ∃ W : Nat → Nat → Hp → Prop, (∃ m, W 0 m H1) ∧ ∀ i m H, W i m H → ((Itl K a).stop i H ∧ Qd H) ∨ ((Itl K a).go i H ∧ ∃ Nx : Hp → Prop, (∀ H', Nx H' → ∃ m', m' < m ∧ W (i + 1) m' H') ∧ ∀ x H', (Itl K a).yld i H x H' → Body x H' Nx) := by
  refine ⟨fun i m H => m = xs.length - i ∧ i ≤ xs.length ∧ Pv i H, ⟨xs.length, by simp, Nat.zero_le _, h0⟩, ?_⟩
  rintro i m H ⟨rfl, hi, p⟩
  have q := hl i H hi p
  by_cases hlt : i < xs.length
  · refine .inr ⟨⟨xs, xs[i], q, by simp [hlt]⟩, Pv (i + 1), fun H' p' => ⟨xs.length - (i + 1), by omega, rfl, hlt, p'⟩, fun x H' y => ?_⟩
    obtain ⟨e, y⟩ := y
    subst e
    exact hs i x _ (y _ q) p
  · exact .inl ⟨⟨xs, q, by omega⟩, hd H (by
      have : i = xs.length := by omega
      rw [this] at p
      exact p)⟩
theorem it_rangeS {lo : Int} {n : Nat} {H1 : Hp} {Qd : Hp → Prop} {Body : V → Hp → (Hp → Prop) → Prop} (Pv : Nat → Hp → Prop) (h0 : Pv 0 H1) (hs : ∀ i H, i < n → Pv i H → Body (.int (lo + i)) H (Pv (i + 1))) (hd : ∀ H, Pv n H → Qd H) :
    ∃ W : Nat → Nat → Hp → Prop, (∃ m, W 0 m H1) ∧ ∀ i m H, W i m H → ((Itr lo n).stop i H ∧ Qd H) ∨ ((Itr lo n).go i H ∧ ∃ Nx : Hp → Prop, (∀ H', Nx H' → ∃ m', m' < m ∧ W (i + 1) m' H') ∧ ∀ x H', (Itr lo n).yld i H x H' → Body x H' Nx) := by
  refine ⟨fun i m H => m = n - i ∧ i ≤ n ∧ Pv i H, ⟨n, by simp, Nat.zero_le _, h0⟩, ?_⟩
  rintro i m H ⟨rfl, hi, p⟩
  by_cases hlt : i < n
  · refine .inr ⟨hlt, Pv (i + 1), fun H' p' => ⟨n - (i + 1), by omega, rfl, hlt, p'⟩, fun x H' y => ?_⟩
    obtain ⟨e, y⟩ := y
    subst e y
    exact hs i _ hlt p
  · exact .inl ⟨(by show n ≤ i; omega), hd H (by
      have : i = n := by omega
      rw [this] at p
      exact p)⟩
theorem all_repS (n : Nat) : (List.replicate n true).all id = true := by
  rw [List.all_eq_true]
  intro x hx
  exact List.eq_of_mem_replicate hx
theorem it_zipT {K : PySem.W.Frag} {a b : Addr} {xs ys : List V} {H1 : Hp} {Qd : Hp → Prop} {Body : V → Hp → (Hp → Prop) → Prop} (hl : xs.length = ys.length) (Pv : Nat → Hp → Prop) (h0 : Pv 0 H1) (hq : ∀ i H, Pv i H → SqT K H a xs ∧ SqT K H b ys)
    (hs : ∀ (i : Nat) (x y : V) (T : Addr) (H : Hp), xs[i]? = some x → ys[i]? = some y → Pv i H → H T = none → Body (.ref T) (upd H T (.tup [x, y])) (Pv (i + 1))) (hd : ∀ H, Pv xs.length H → Qd H) :
    ∃ W : Nat → Nat → Hp → Prop, (∃ m, W 0 m H1) ∧ ∀ i m H, W i m H → ((RZ.ItzT K a b).stop i H ∧ Qd H) ∨ ((RZ.ItzT K a b).go i H ∧ ∃ Nx : Hp → Prop, (∀ H', Nx H' → ∃ m', m' < m ∧ W (i + 1) m' H') ∧ ∀ x H', (RZ.ItzT K a b).yld i H x H' → Body x H' Nx) := by
  refine ⟨fun i m H => m = xs.length - i ∧ i ≤ xs.length ∧ Pv i H, ⟨xs.length, rfl, Nat.zero_le _, h0⟩, ?_⟩
  rintro i m H ⟨rfl, hi, p⟩
  obtain ⟨qx, qy⟩ := hq i H p
  by_cases hlt : i < xs.length
  · have hx : xs[i]? = some xs[i] := List.getElem?_eq_getElem hlt
    have hy : ys[i]? = some ys[i] := List.getElem?_eq_getElem (by omega)
    refine .inr ⟨⟨xs, ys, _, _, qx, qy, hx, hy⟩, Pv (i + 1), fun H' p' => ⟨xs.length - (i + 1), by omega, rfl, hlt, p'⟩, fun v H' y => ?_⟩
    obtain ⟨T, x', y', rfl, hT, rfl, f1, f2⟩ := y
    exact hs i x' y' T H (f1 xs qx) (f2 ys qy) p hT
  · have e : i = xs.length := by omega
    subst e
    exact .inl ⟨⟨xs, ys, qx, qy, Or.inl (Nat.le_refl _)⟩, hd H p⟩
theorem it_zipL {K : PySem.W.Frag} {a b : Addr} {xs ys : List V} {H1 : Hp} {Qd : Hp → Prop} {Body : V → Hp → (Hp → Prop) → Prop} (hl : xs.length = ys.length) (Pv : Nat → Hp → Prop) (h0 : Pv 0 H1) (hq : ∀ i H, Pv i H → SqL K H a xs ∧ SqL K H b ys)
    (hs : ∀ (i : Nat) (x y : V) (T : Addr) (H : Hp), xs[i]? = some x → ys[i]? = some y → Pv i H → H T = none → Body (.ref T) (upd H T (.tup [x, y])) (Pv (i + 1))) (hd : ∀ H, Pv xs.length H → Qd H) :
    ∃ W : Nat → Nat → Hp → Prop, (∃ m, W 0 m H1) ∧ ∀ i m H, W i m H → ((Itz K a b).stop i H ∧ Qd H) ∨ ((Itz K a b).go i H ∧ ∃ Nx : Hp → Prop, (∀ H', Nx H' → ∃ m', m' < m ∧ W (i + 1) m' H') ∧ ∀ x H', (Itz K a b).yld i H x H' → Body x H' Nx) := by
  refine ⟨fun i m H => m = xs.length - i ∧ i ≤ xs.length ∧ Pv i H, ⟨xs.length, rfl, Nat.zero_le _, h0⟩, ?_⟩
  rintro i m H ⟨rfl, hi, p⟩
  obtain ⟨qx, qy⟩ := hq i H p
  by_cases hlt : i < xs.length
  · have hx : xs[i]? = some xs[i] := List.getElem?_eq_getElem hlt
    have hy : ys[i]? = some ys[i] := List.getElem?_eq_getElem (by omega)
    refine .inr ⟨⟨xs, ys, _, _, qx, qy, hx, hy⟩, Pv (i + 1), fun H' p' => ⟨xs.length - (i + 1), by omega, rfl, hlt, p'⟩, fun v H' y => ?_⟩
    obtain ⟨T, x', y', rfl, hT, rfl, f1, f2⟩ := y
    exact hs i x' y' T H (f1 xs qx) (f2 ys qy) p hT
  · have e : i = xs.length := by omega
    subst e
    exact .inl ⟨⟨xs, ys, qx, qy, Or.inl (Nat.le_refl _)⟩, hd H p⟩
/-- alike data, at most n deep -/
def Al : Nat → Hp → V → V → Prop
  | 0, _, _, _ => False
  | n + 1, H, x, y => (x = y ∧ ((∃ i, x = .int i) ∨ (∃ z, x = .str z) ∨ (∃ b, x = .bl b) ∨ x = .non)) ∨
    (∃ (a b : Addr) (xs ys : List V), x = .ref a ∧ y = .ref b ∧ H a = some (.tup xs) ∧ H b = some (.tup ys) ∧ xs.length = ys.length ∧ xs.length ≤ 1000 ∧ ∀ (j : Nat) (u v : V), xs[j]? = some u → ys[j]? = some v → Al n H u v) ∨
    (∃ (a b : Addr) (xs ys : List V), x = .ref a ∧ y = .ref b ∧ H a = some (.lst xs) ∧ H b = some (.lst ys) ∧ xs.length = ys.length ∧ xs.length ≤ 1000 ∧ ∀ (j : Nat) (u v : V), xs[j]? = some u → ys[j]? = some v → Al n H u v)
theorem Al.same : ∀ {n : Nat} {H H' : Hp} {x y : V}, Same H H' → Al n H x y → Al n H' x y
  | 0, _, _, _, _, _, h => h
  | n + 1, H, H', x, y, s, h => by
    rcases h with h | ⟨a, b, xs, ys, h1, h2, h3, h4, h5, h6, h7⟩ | ⟨a, b, xs, ys, h1, h2, h3, h4, h5, h6, h7⟩
    · exact .inl h
    · exact .inr (.inl ⟨a, b, xs, ys, h1, h2, s _ _ h3, s _ _ h4, h5, h6, fun j u v e1 e2 => (h7 j u v e1 e2).same s⟩)
    · exact .inr (.inr ⟨a, b, xs, ys, h1, h2, s _ _ h3, s _ _ h4, h5, h6, fun j u v e1 e2 => (h7 j u v e1 e2).same s⟩)
end Bw
set_option Elab.async false
set_option linter.all false
set_option maxRecDepth 100000
set_option maxHeartbeats 4000000
namespace Bw
open PySem PySem.Spec PyProof.Rows L2
/-! ### rows by their addresses -/
def RefsAt (H : Hp) (as : List Addr) (rows : List (List Int)) : Prop := as.length = rows.length ∧ ∀ (i : Nat) (r : List Int), rows[i]? = some r → ∃ b, as[i]? = some b ∧ H b = some (.tup (r.map V.int))
theorem RefsAt.tab {H : Hp} {a : Addr} {as : List Addr} {rows : List (List Int)} (h : RefsAt H as rows) (e : H a = some (.tup (as.map V.ref))) : TabAt H a rows := ⟨as, e, h.1, h.2⟩
theorem TabAt.refs {H : Hp} {a : Addr} {rows : List (List Int)} (h : TabAt H a rows) : ∃ as : List Addr, H a = some (.tup (as.map V.ref)) ∧ RefsAt H as rows := by
  obtain ⟨as, e, l, k⟩ := h
  exact ⟨as, e, l, k⟩
theorem RefsAt.same {H H' : Hp} {as : List Addr} {rows : List (List Int)} (s : Same H H') (h : RefsAt H as rows) : RefsAt H' as rows := ⟨h.1, fun i r e => by
  obtain ⟨b, e1, e2⟩ := h.2 i r e
  exact ⟨b, e1, s _ _ e2⟩⟩
theorem RefsAt.append {H : Hp} {as bs : List Addr} {rows more : List (List Int)} (h : RefsAt H as rows) (k : RefsAt H bs more) : RefsAt H (as ++ bs) (rows ++ more) := by
  refine ⟨by rw [List.length_append, List.length_append, h.1, k.1], fun i r e => ?_⟩
  rw [List.getElem?_append] at e
  split at e
  · next hi =>
    obtain ⟨b, e1, e2⟩ := h.2 i r e
    exact ⟨b, by rw [List.getElem?_append, if_pos (by rw [h.1]; exact hi)]; exact e1, e2⟩
  · next hi =>
    obtain ⟨b, e1, e2⟩ := k.2 _ r e
    exact ⟨b, by rw [List.getElem?_append, if_neg (by rw [h.1]; exact hi), h.1]; exact e1, e2⟩
theorem RefsAt.take {H : Hp} {as : List Addr} {rows : List (List Int)} (h : RefsAt H as rows) (n : Nat) : RefsAt H (as.take n) (rows.take n) := by
  refine ⟨by rw [List.length_take, List.length_take, h.1], fun i r e => ?_⟩
  rw [List.getElem?_take] at e
  split at e
  · next hi =>
    obtain ⟨b, e1, e2⟩ := h.2 i r e
    exact ⟨b, by rw [List.getElem?_take, if_pos hi]; exact e1, e2⟩
  · cases e
theorem RefsAt.drop {H : Hp} {as : List Addr} {rows : List (List Int)} (h : RefsAt H as rows) (n : Nat) : RefsAt H (as.drop n) (rows.drop n) := by
  refine ⟨by rw [List.length_drop, List.length_drop, h.1], fun i r e => ?_⟩
  rw [List.getElem?_drop] at e
  obtain ⟨b, e1, e2⟩ := h.2 _ r e
  exact ⟨b, by rw [List.getElem?_drop]; exact e1, e2⟩
theorem cut_take (xs : List V) (n : Nat) : cutV xs none (some (n : Int)) = xs.take n := by
  unfold cutV
  rw [HT.sIx_nat, HT.sIx_none, List.drop_zero, Nat.sub_zero]
  by_cases h : n ≤ xs.length
  · rw [Nat.min_eq_left h]
  · rw [Nat.min_eq_right (by omega), List.take_of_length_le (Nat.le_refl _), List.take_of_length_le (by omega)]
theorem cut_drop (xs : List V) (n : Nat) : cutV xs (some (n : Int)) none = xs.drop n := by
  unfold cutV
  rw [HT.sIx_nat, HT.sIx_none]
  by_cases h : n ≤ xs.length
  · rw [Nat.min_eq_left h, List.take_of_length_le]
    rw [List.length_drop]
    exact Nat.le_refl _
  · rw [Nat.min_eq_right (by omega), List.drop_of_length_le (Nat.le_refl _), List.drop_of_length_le (by omega), List.take_nil]
/-! ### what is being gathered in a comprehension -/
def Acc (H0 H' : Hp) (D : Addr) (G : Nat → List Int) (i : Nat) : Prop := ∃ ts : List Addr, ts.length = i ∧ (∀ (k : Nat) (b : Addr), ts[k]? = some b → H' b = some (.tup ((G k).map V.int))) ∧ H' D = some (.lst (ts.map V.ref)) ∧ ∀ b o, b ≠ D → H0 b = some o → H' b = some o
theorem Acc.zero {H0 : Hp} {D : Addr} {G : Nat → List Int} : Acc H0 (upd H0 D (.lst [])) D G 0 := ⟨[], rfl, fun k b e => by simp at e, upd_same, fun b o n e => by rw [upd_ne n]; exact e⟩
theorem Acc.next {H0 H1 H2 : Hp} {D p : Addr} {G : Nat → List Int} {i : Nat} (h : Acc H0 H1 D G i) (s : Same H1 H2) (hp : H2 p = some (.tup ((G i).map V.int))) (hi : i ≤ 1000) :
    ∃ acc, H2 D = some (.lst acc) ∧ acc.length < sizeLine ∧ Acc H0 (upd H2 D (.lst (acc ++ [.ref p]))) D G (i + 1) := by
  obtain ⟨ts, et, hts, eD, k⟩ := h
  have eD2 := s _ _ eD
  have npD : p ≠ D := ne_of hp eD2 (by intro z; cases z)
  refine ⟨_, eD2, by rw [List.length_map]; exact small1000 (by omega), ts ++ [p], by rw [List.length_append, et]; rfl, fun k c e => ?_, ?_, fun c o nc e => ?_⟩
  · rw [List.getElem?_append] at e
    split at e
    · have hc := s _ _ (hts k c e)
      rw [upd_ne (ne_of hc eD2 (by intro z; cases z))]
      exact hc
    · next hk =>
      have h2 := (List.getElem?_eq_some_iff.mp e).1
      rw [List.length_singleton] at h2
      have hk2 : k = i := by omega
      subst hk2
      have z : k - ts.length = 0 := by omega
      rw [z] at e
      have : p = c := Option.some.inj e
      subst this
      rw [upd_ne npD]
      exact hp
  · rw [upd_same, List.map_append]
    rfl
  · rw [upd_ne nc]
    exact s _ _ (k _ _ nc e)
theorem Acc.get {H0 H1 : Hp} {D : Addr} {G : Nat → List Int} {n : Nat} (h : Acc H0 H1 D G n) : ∃ ts : List Addr, H1 D = some (.lst (ts.map V.ref)) ∧ RefsAt H1 ts ((List.range n).map G) := by
  obtain ⟨ts, et, hts, eD, k⟩ := h
  refine ⟨ts, eD, by rw [et, List.length_map, List.length_range], fun i r e => ?_⟩
  have hi : i < n := by
    have := (List.getElem?_eq_some_iff.mp e).1
    rw [List.length_map, List.length_range] at this
    exact this
  have e2 : G i = r := by
    rw [List.getElem?_map, List.getElem?_range hi] at e
    exact Option.some.inj e
  subst e2
  exact ⟨_, List.getElem?_eq_getElem (by omega), hts i _ (List.getElem?_eq_getElem (by omega))⟩
theorem Acc.stay {H0 H1 : Hp} {D : Addr} {G : Nat → List Int} {n : Nat} (h : Acc H0 H1 D G n) {b : Addr} {o : HO} (n : H0 D = none) (e : H0 b = some o) : H1 b = some o := by
  obtain ⟨ts, et, hts, eD, k⟩ := h
  exact k _ _ (ne_of_none e n) e
def AccI (H0 H' : Hp) (D : Addr) (g : Nat → Int) (i : Nat) : Prop := H' D = some (.lst ((matRow i g).map V.int)) ∧ ∀ b o, b ≠ D → H0 b = some o → H' b = some o
theorem AccI.zero {H0 : Hp} {D : Addr} {g : Nat → Int} : AccI H0 (upd H0 D (.lst [])) D g 0 := ⟨upd_same, fun b o n e => by rw [upd_ne n]; exact e⟩
theorem AccI.next {H0 H1 H2 : Hp} {D : Addr} {g : Nat → Int} {i : Nat} {y : Int} (h : AccI H0 H1 D g i) (s : Same H1 H2) (hy : y = g i) (hi : i ≤ 1000) : ∃ acc, H2 D = some (.lst acc) ∧ acc.length < sizeLine ∧ AccI H0 (upd H2 D (.lst (acc ++ [.int y]))) D g (i + 1) := by
  refine ⟨_, s _ _ h.1, by rw [List.length_map, matRow_len]; exact small1000 hi, ?_, fun b o n e => by rw [upd_ne n]; exact s _ _ (h.2 _ _ n e)⟩
  rw [upd_same, hy]
  unfold matRow
  rw [List.range_succ, List.map_append, List.map_append]
  rfl
theorem AccI.stay {H0 H1 : Hp} {D : Addr} {g : Nat → Int} {n : Nat} (h : AccI H0 H1 D g n) {b : Addr} {o : HO} (n : H0 D = none) (e : H0 b = some o) : H1 b = some o := h.2 _ _ (ne_of_none e n) e
/-! ### readings -/
theorem rep_done {K : PySem.W.Frag} {H : Hp} {Q : VK} {z0 : Addr} {m : Nat} (h0 : H z0 = some (.tup [.int 0])) (h1 : 1 ≤ m) (h8 : m ≤ 8) (q : ∀ (z : Addr) (H' : Hp), Same H H' → H' z = some (.tup ((matRow m fun _ => 0).map V.int)) → Q (.ref z) H') : rRep1 K (.ref z0) (.int m) H Q := by
  refine ⟨z0, m, _, rfl, rfl, SqT.of h0, (fun e => by cases e), by omega, by omega, by show 1 ≤ 1000; decide, fun e => ?_, fun _ p hp => ?_⟩
  · have : m = 1 := by omega
    subst this
    exact q z0 H (.refl _) h0
  · refine q p _ (same_upd hp) ?_
    rw [upd_same, Int.toNat_natCast, rep_flat]
theorem cat_done {K : PySem.W.Frag} {H : Hp} {Q : VK} {a b : Addr} {xs ys : List V} (hx : H a = some (.tup xs)) (hy : H b = some (.tup ys)) (nx : xs ≠ []) (ny : ys ≠ []) (lx : xs.length ≤ 500) (ly : ys.length ≤ 500) (q : ∀ (p : Addr) (H' : Hp), Same H H' → H' p = some (.tup (xs ++ ys)) → Q (.ref p) H') : rCatA K (.ref a) (.ref b) H Q :=
  ⟨a, b, xs, ys, rfl, rfl, SqT.of hx, SqT.of hy, Nat.le_of_lt (small1000 (by omega)), fun e => absurd e nx, fun _ e => absurd e ny, fun _ _ p hp => q p _ (same_upd hp) upd_same⟩
theorem sl_done {K : PySem.W.Frag} {H : Hp} {Q : VK} {a : Addr} {xs : List V} {n : Nat} (hx : H a = some (.tup xs)) (q : ∀ (p : Addr) (H' : Hp), Same H H' → H' p = some (.tup (xs.take n)) → Q (.ref p) H') : rSlA K (.ref a) none (some (n : Int)) H Q := by
  refine ⟨a, xs, rfl, SqT.of hx, fun e => ?_, fun _ p hp => q p _ (same_upd hp) (by rw [upd_same, cut_take])⟩
  have e2 := e.2
  rw [HT.sIx_nat] at e2
  refine q a H (.refl _) ?_
  rw [List.take_of_length_le (by omega)]
  exact hx
/-! ### other tables -/
def uRow (n k : Nat) : List Int := matRow n fun j => if k = j then 1 else 0
def uRows (n : Nat) : List (List Int) := (List.range n).map (uRow n)
def negRow (r : List Int) : List Int := r.map fun t => -t
def negRows (rows : List (List Int)) : List (List Int) := rows.map negRow
def zRow (n : Nat) : List Int := matRow n fun _ => 0
def sideRows (r1 : List (List Int)) (n1 : Nat) (r2 : List (List Int)) (n2 : Nat) : List (List Int) :=
  ((r1.map (· ++ zRow n2)).take n1 ++ (r2.map (zRow n1 ++ ·)).take n2 ++ (r1.map (· ++ zRow n2)).drop n1) ++ (r2.map (zRow n1 ++ ·)).drop n2
theorem mat_of (r : List Int) (h : Int → Int) : (matRow r.length fun j => h (r.getD j 0)) = r.map h := by
  apply List.ext_getElem?
  intro k
  by_cases hk : k < r.length
  · rw [matRow_get hk, List.getElem?_map, List.getElem?_eq_getElem hk, List.getD_eq_getElem?_getD, List.getElem?_eq_getElem hk]
    rfl
  · rw [List.getElem?_eq_none (by rw [matRow_len]; omega), List.getElem?_eq_none (by rw [List.length_map]; omega)]
theorem rows_of (rows : List (List Int)) (h : List Int → List Int) : ((List.range rows.length).map fun k => h (rows.getD k [])) = rows.map h := by
  apply List.ext_getElem?
  intro k
  by_cases hk : k < rows.length
  · rw [List.getElem?_map, List.getElem?_map, List.getElem?_range hk, List.getElem?_eq_getElem hk]
    show some (h (rows.getD k [])) = _
    rw [List.getD_eq_getElem?_getD, List.getElem?_eq_getElem hk]
    rfl
  · rw [List.getElem?_eq_none (by rw [List.length_map, List.length_range]; omega), List.getElem?_eq_none (by rw [List.length_map]; omega)]
theorem neg_neg (rows : List (List Int)) : negRows (negRows rows) = rows := by
  unfold negRows negRow
  rw [List.map_map]
  have e : ((fun r : List Int => r.map fun t => -t) ∘ fun r : List Int => r.map fun t => -t) = id := by
    funext r
    show (r.map fun t => -t).map (fun t => -t) = r
    rw [List.map_map]
    have e2 : ((fun t : Int => -t) ∘ fun t : Int => -t) = id := by
      funext t
      exact Int.neg_neg t
    rw [e2, List.map_id]
  rw [e, List.map_id]
theorem negRows_get {rows : List (List Int)} {i : Nat} : (negRows rows).getD i [] = negRow (rows.getD i []) := by
  unfold negRows
  rw [List.getD_eq_getElem?_getD, List.getElem?_map, List.getD_eq_getElem?_getD]
  cases rows[i]? <;> rfl
theorem ent_neg (rows : List (List Int)) (i j : Nat) : ent (negRows rows) i j = -(ent rows i j) := by
  unfold ent
  rw [negRows_get]
  unfold negRow
  rw [List.getD_eq_getElem?_getD, List.getElem?_map, List.getD_eq_getElem?_getD (l := rows.getD i [])]
  cases (rows.getD i [])[j]? <;> rfl
theorem TabOk.neg {rows : List (List Int)} {n : Nat} (O : TabOk rows n) : TabOk (negRows rows) n := by
  obtain ⟨d, d0, dv⟩ := O.even
  refine ⟨O.n1, O.n4, ?_, ?_, fun r hr => ?_, fun r hr t ht => ?_, d, d0, fun i j hi hj => ?_⟩
  · unfold negRows
    rw [List.length_map]
    exact O.len
  · unfold negRows
    rw [List.length_map]
    exact O.len4
  · obtain ⟨r', h', rfl⟩ := List.mem_map.mp hr
    unfold negRow
    rw [List.length_map]
    exact O.wide _ h'
  · obtain ⟨r', h', rfl⟩ := List.mem_map.mp hr
    obtain ⟨t', h2, rfl⟩ := List.mem_map.mp ht
    have := O.tie _ h' _ h2
    omega
  · have := dv i j hi hj
    rw [ent_neg, ent_neg, Int.mul_neg, Int.mul_neg]
    omega
theorem ent_prin {rows : List (List Int)} {n : Nat} (hl : n ≤ rows.length) {i j : Nat} (hi : i < n) : ent (rows.take n ++ uRows n) i j = ent rows i j := by
  unfold ent
  have e : (rows.take n ++ uRows n).getD i [] = rows.getD i [] := by
    rw [List.getD_eq_getElem?_getD, List.getElem?_append, if_pos (by rw [List.length_take]; omega), List.getElem?_take, if_pos hi, List.getD_eq_getElem?_getD]
  rw [e]
theorem uRows_mem {n : Nat} {r : List Int} (h : r ∈ uRows n) : r.length = n ∧ ∀ t ∈ r, -50 ≤ t ∧ t ≤ 50 := by
  unfold uRows at h
  obtain ⟨k, _, rfl⟩ := List.mem_map.mp h
  unfold uRow
  refine ⟨matRow_len .., fun t ht => ?_⟩
  unfold matRow at ht
  obtain ⟨j, _, rfl⟩ := List.mem_map.mp ht
  split <;> omega
theorem uRows_len (n : Nat) : (uRows n).length = n := by
  unfold uRows
  rw [List.length_map, List.length_range]
theorem TabOk.prin {rows : List (List Int)} {n : Nat} (O : TabOk rows n) : TabOk (rows.take n ++ uRows n) n := by
  obtain ⟨d, d0, dv⟩ := O.even
  have hl := O.len
  have h4 := O.n4
  refine ⟨O.n1, O.n4, ?_, ?_, fun r hr => ?_, fun r hr t ht => ?_, d, d0, fun i j hi hj => ?_⟩
  · rw [List.length_append, List.length_take, uRows_len]
    omega
  · rw [List.length_append, List.length_take, uRows_len]
    omega
  · rcases List.mem_append.mp hr with hr | hr
    · exact O.wide _ (List.mem_of_mem_take hr)
    · exact (uRows_mem hr).1
  · rcases List.mem_append.mp hr with hr | hr
    · exact O.tie _ (List.mem_of_mem_take hr) _ ht
    · exact (uRows_mem hr).2 _ ht
  · rw [ent_prin hl hi, ent_prin hl hj]
    exact dv i j hi hj
theorem prin_prin {rows : List (List Int)} {n : Nat} (hl : n ≤ rows.length) : (rows.take n ++ uRows n).take n ++ uRows n = rows.take n ++ uRows n := by
  have e : (rows.take n ++ uRows n).take n = rows.take n := by
    rw [List.take_append_of_le_length (by rw [List.length_take]; omega), List.take_take, Nat.min_self]
  rw [e]
/-- two tables alike are the same by the law's own looking -/
theorem al_tab {H : Hp} {a b : Addr} {rows : List (List Int)} (ha : TabAt H a rows) (hb : TabAt H b rows) (hz : rows.length ≤ 1000) (hw : ∀ r ∈ rows, r.length ≤ 1000) : Al 3 H (.ref a) (.ref b) := by
  obtain ⟨as, a1, a2, a3⟩ := ha
  obtain ⟨bs, b1, b2, b3⟩ := hb
  refine .inr (.inl ⟨a, b, _, _, rfl, rfl, a1, b1, by rw [List.length_map, List.length_map, a2, b2], by rw [List.length_map, a2]; exact hz, fun j u v hu hv => ?_⟩)
  have hj : j < rows.length := by
    have := (List.getElem?_eq_some_iff.mp hu).1
    rw [List.length_map, a2] at this
    exact this
  obtain ⟨x, x1, x2⟩ := a3 j _ (List.getElem?_eq_getElem hj)
  obtain ⟨y, y1, y2⟩ := b3 j _ (List.getElem?_eq_getElem hj)
  rw [List.getElem?_map, x1] at hu
  rw [List.getElem?_map, y1] at hv
  cases hu
  cases hv
  refine .inr (.inl ⟨x, y, _, _, rfl, rfl, x2, y2, rfl, by rw [List.length_map]; exact hw _ (List.getElem_mem hj), fun k u v hu hv => ?_⟩)
  obtain ⟨t, _, rfl⟩ := int_at hu
  rw [hu] at hv
  cases hv
  exact .inl ⟨rfl, .inl ⟨t, rfl⟩⟩
end Bw
set_option Elab.async false
set_option linter.all false
set_option maxRecDepth 100000
set_option maxHeartbeats 4000000
namespace Bw
open PySem PySem.Spec PyProof.Rows L2
/-! ### the errors' own __init__ -/
section
variable {P : Program} {w : World} {K : PySem.W.Frag} {mg : Str → Option Value} {base : Heap}
abbrev s_bud_init : Stmt := inClass (topS 1) 0
theorem sc_bud_init : FnScope ["self", "word"] ["self", "word"] (defScope s_bud_init) := ⟨rfl, rfl, rfl, by decide +kernel, rfl, by decide +kernel, by decide +kernel⟩
def vV (K : PySem.W.Frag) : Prop := PySem.W.findCls K (.type "ValueError") (.type "type") "__init__" = some (.val (.builtin "ValueError.__init__"))
def spBudInit (K : PySem.W.Frag) : Sp := fun vs H Q _ => ∃ (a C : Addr) (x : V), vs = [.ref a, x] ∧ OexC K C ∧ PySem.W.findIn K (.ref C) "word" = some none ∧ H a = some (exo a C none) ∧ ∀ dx, H dx = none → dx ≠ a → Q .non (upd (upd H dx (exd dx [("word", x)])) a (exo a C (some dx)))
theorem ok_budinit {f : Addr} {fd : FuncData} {k : Nat} (F : Fun K "__init__" "BudError.__init__" s_bud_init f fd) (T : Tx mg) (v : vV K) : FnOk P w K mg base CX0 (k + 1) f fd ["self", "word"] (spBudInit K) := by
  refine F.ok sc_bud_init (fun vs H Q E h => ?_) (fun cdv A outer s H vs Q E hr h => ?_)
  · obtain ⟨a, C, x, rfl, _⟩ := h
    rfl
  · obtain ⟨a, C, x, rfl, O, nw, ha, q⟩ := h
    refine ⟨_, pss_cons (ps_expr (pe_veinit (by rfl) T.ValueError v (pa_cons (pv 0) (pa_cons (pv 1) pa_nil)))) (pss_one (ps_ost (pv 0) (pv 1))), ?_⟩
    refine ⟨.ref a, rfl, x, rfl, a, C, [x], rfl, by show 1 ≤ 1000; decide, O, ha, ?_⟩
    exact ⟨x, rfl, .ref a, rfl, a, C, rfl, O, nw, .inl ⟨ha, q⟩⟩
abbrev s_great_init : Stmt := inClass (topS 4) 0
theorem sc_great_init : FnScope ["self"] ["self"] (defScope s_great_init) := ⟨rfl, rfl, rfl, by decide +kernel, rfl, by decide +kernel, by decide +kernel⟩
def greatFs : List (Str × V) := [("word", .str "great")]
def spGreatInit (K : PySem.W.Frag) : Sp := fun vs H Q _ => ∃ (a C : Addr), vs = [.ref a] ∧ OexC K C ∧ PySem.W.findIn K (.ref C) "word" = some none ∧ H a = some (exo a C none) ∧
  ∀ (dx : Addr) (H' : Hp), H dx = none → dx ≠ a → H' a = some (exo a C (some dx)) → H' dx = some (exd dx greatFs) → (∀ b, b ≠ a → b ≠ dx → H' b = H b) → Q .non H'
theorem ok_greatinit {f fB CB : Addr} {fd fdB : FuncData} {k : Nat} (F : Fun K "__init__" "Great.__init__" s_great_init f fd) (T : Tx mg) (TB : ClsFn K mg "BudError" "__init__" CB fB) (FB : FnOk P w K mg base CX0 k fB fdB ["self", "word"] (spBudInit K)) (bB : Binds K fdB ["self", "word"] []) : FnOk P w K mg base CX0 (k + 1) f fd ["self"] (spGreatInit K) := by
  refine F.ok sc_great_init (fun vs H Q E h => ?_) (fun cdv A outer s H vs Q E hr h => ?_)
  · obtain ⟨a, C, rfl, _⟩ := h
    rfl
  · obtain ⟨a, C, rfl, O, nw, ha, q⟩ := h
    refine ⟨_, pss_one (ps_expr (pe_cfun TB FB hr (by rfl) bB pass0 (pa_cons (pv 0) (pa_cons pe_str pa_nil)))), ?_⟩
    refine ⟨.ref a, rfl, a, C, _, rfl, O, nw, ha, fun dx ed nd => ?_⟩
    refine q dx _ ed nd upd_same ?_ fun b n1 n2 => ?_
    · rw [upd_ne nd, upd_same]
      rfl
    · rw [upd_ne n1, upd_ne n2]
end
/-- what the written part says of Great -/
structure GreatC (K : PySem.W.Frag) (mg : Str → Option Value) (C f : Addr) : Prop where
  g : mg "Great" = some (.ref C)
  oex : OexC K C
  iC : PySem.W.findIn K (.ref C) "__init__" = some (some (.ref f))
  tI : PySem.W.typeIn K (.ref f) = some (.type "function")
  nw : PySem.W.findIn K (.ref C) "word" = some none
  te : PySem.W.exmOne K (.ref C) (.ref C) = some true
/-! ### tables turned -/
def turnE (B : Nat → Nat → Int) (k i j : Nat) : Int :=
  if i = k ∨ j = k then -(B i j) else if 0 < B i k ∧ 0 < B k j then B i j + B i k * B k j else if B i k < 0 ∧ B k j < 0 then B i j - B i k * B k j else B i j
def turnT (rows : List (List Int)) (n k : Nat) : List (List Int) := (List.range rows.length).map fun i => matRow n (turnE (ent rows) k i)
structure WdOk (rows : List (List Int)) (n : Nat) : Prop where
  n1 : 1 ≤ n
  n4 : n ≤ 4
  len : n ≤ rows.length
  len8 : rows.length ≤ 8
  wide : ∀ r ∈ rows, r.length = n
  tie : ∀ r ∈ rows, ∀ t ∈ r, -50 ≤ t ∧ t ≤ 50
theorem WdOk.bd {rows : List (List Int)} {n i j : Nat} (O : WdOk rows n) (hi : i < rows.length) (hj : j < n) : -50 ≤ ent rows i j ∧ ent rows i j ≤ 50 := by
  have h := row_len O.wide hi
  have hj2 : j < (rows.getD i []).length := by omega
  have e : ent rows i j = (rows.getD i [])[j] := by
    unfold ent
    rw [List.getD_eq_getElem?_getD (i := j), List.getElem?_eq_getElem hj2]
    rfl
  rw [e]
  refine O.tie (rows.getD i []) ?_ _ (List.getElem_mem hj2)
  rw [List.getD_eq_getElem?_getD, List.getElem?_eq_getElem hi]
  exact List.getElem_mem hi
theorem turnT_len (rows : List (List Int)) (n k : Nat) : (turnT rows n k).length = rows.length := by
  unfold turnT
  rw [List.length_map, List.length_range]
theorem turnT_wide {rows : List (List Int)} {n k : Nat} : ∀ r ∈ turnT rows n k, r.length = n := fun r hr => by
  obtain ⟨i, _, rfl⟩ := List.mem_map.mp hr
  exact matRow_len _ _
theorem turnT_ent {rows : List (List Int)} {n k i j : Nat} (hi : i < rows.length) (hj : j < n) : ent (turnT rows n k) i j = turnE (ent rows) k i j := by
  have e : (turnT rows n k).getD i [] = matRow n (turnE (ent rows) k i) := by
    unfold turnT
    rw [List.getD_eq_getElem?_getD, List.getElem?_map, List.getElem?_range hi]
    rfl
  show ((turnT rows n k).getD i []).getD j 0 = _
  rw [e]
  exact matRow_getD hj
def fits (rows : List (List Int)) (n k : Nat) : Prop := ∀ r ∈ turnT rows n k, ∀ t ∈ r, -50 ≤ t ∧ t ≤ 50
theorem TabAt.entry {K : PySem.W.Frag} {H : Hp} {a : Addr} {rows : List (List Int)} {n i j : Nat} {Q : VK} (h : TabAt H a rows) (w : ∀ r ∈ rows, r.length = n) (hi : i < rows.length) (hj : j < n) {P : V → Hp → Prop} :
    ∃ (as : List Addr) (b : Addr), H a = some (.tup (as.map V.ref)) ∧ (as.map V.ref)[i]? = some (.ref b) ∧ H b = some (.tup ((rows.getD i []).map V.int)) ∧ ((rows.getD i []).map V.int)[j]? = some (.int (ent rows i j)) := by
  obtain ⟨as, b, h1, h2, h3⟩ := h.row hi
  exact ⟨as, b, h1, h2, h3, ent_get w hi hj⟩
/-! ### a row turned -/
def newRow (row up down : List Int) (k : Nat) : List Int :=
  if row.getD k 0 = 0 then row else matRow row.length fun j => row.getD j 0 + row.getD k 0 * (if 0 < row.getD k 0 then up else down).getD j 0
theorem getD_at {r : List Int} {j : Nat} {x : Int} (h : r[j]? = some x) : r.getD j 0 = x := by
  rw [List.getD_eq_getElem?_getD, h]
  rfl
theorem at_getD {r : List Int} {j : Nat} (h : j < r.length) : (r.map V.int)[j]? = some (.int (r.getD j 0)) := by
  rw [List.getElem?_map, List.getElem?_eq_getElem h, List.getD_eq_getElem?_getD, List.getElem?_eq_getElem h]
  rfl
section
variable {P : Program} {w : World} {K : PySem.W.Frag} {mg : Str → Option Value} {base : Heap}
abbrev s_turned_row : Stmt := topS 28
abbrev n_turned_row : List Str := ["row", "up", "down", "place", "tie", "old", "often"]
theorem sc_turned_row : FnScope n_turned_row ["row", "up", "down", "place"] (defScope s_turned_row) := ⟨rfl, rfl, rfl, by decide +kernel, rfl, by decide +kernel, by decide +kernel⟩
def spTRow : Sp := fun vs H Q _ => ∃ (r u d : Addr) (row up down : List Int) (k : Nat), vs = [.ref r, .ref u, .ref d, .int k] ∧ H r = some (.tup (row.map V.int)) ∧ H u = some (.lst (up.map V.int)) ∧ H d = some (.lst (down.map V.int)) ∧ k < row.length ∧ row.length ≤ 4 ∧ up.length = row.length ∧ down.length = row.length ∧ (∀ t ∈ row, -50 ≤ t ∧ t ≤ 50) ∧
  ∀ (b : Addr) (H' : Hp), Same H H' → H' b = some (.tup ((newRow row up down k).map V.int)) → Q (.ref b) H'
theorem ok_trow {f : Addr} {fd : FuncData} (F : Fun K "turned_row" "turned_row" s_turned_row f fd) (T : Tx mg) : FnOk P w K mg base CX0 1 f fd ["row", "up", "down", "place"] spTRow := by
  refine F.ok sc_turned_row (fun vs H Q E h => ?_) (fun cdv A outer s H vs Q E hr h => ?_)
  · obtain ⟨r, u, d, row, up, down, k, rfl, _⟩ := h
    rfl
  · obtain ⟨r, u, d, row, up, down, k, rfl, h1, hu, hd, hk, l4, lu, ld, hb, q⟩ := h
    refine ⟨_, (pss_cons (ps_set (i := 4) sc_turned_row.nd rfl (.inr rfl) (pe_ix (i_tup (K := K)) (pv 0) (pv 3) (fun _ _ => rfl)))
  (pss_cons (ps_if (pt_cmpR op_eq (pv 4) pe_int (nomark _))
    (pss_one (ps_ret (pv 0)))
    pss_nil)
  (pss_one (ps_ret (pe_callTy (c_tup (K := K)) (by rfl) T.tuple (by decide +kernel) (pa_cons (pe_lc (own := [("old", 5), ("often", 6)]) (by rfl) sc_turned_row.nd (p_zipM (K := K) (by rfl) T.zip (pa_cons (pv 0) (pa_cons (pe_ifExp (pt_cmpR op_gt (pv 4) pe_int (nomark _)) (pv 1) (pv 2)) pa_nil))) (blkOk_by (own := [("old", 5), ("often", 6)]) (N := n_turned_row) (sc := defScope s_turned_row) (by decide +kernel)) (fun _ _ _ _ _ => (g_tup (K := K) (n := 2) rfl (pgs_cons (pg_name (i := 5) sc_turned_row.nd rfl (.inl rfl)) (pgs_cons (pg_name (i := 6) sc_turned_row.nd rfl (.inl rfl)) pgs_nil)))) (fun _ _ _ _ _ => pts_nil) (fun _ _ _ _ _ => (pe_op op_add (pv 5) (pe_op op_mul (pv 4) (pv 6))))) pa_nil)))))), ?_⟩
    have ek := at_getD hk
    have hbk : -50 ≤ row.getD k 0 ∧ row.getD k 0 ≤ 50 := by
      rw [List.getD_eq_getElem?_getD, List.getElem?_eq_getElem hk]
      exact hb _ (List.getElem_mem hk)
    generalize et : row.getD k 0 = t at ek hbk
    refine ⟨.ref r, rfl, .int k, rfl, r, _, _, .int t, rfl, rfl, SqT.of h1, atI_nat ek, ?_⟩
    refine ⟨.int t, rfl, rfl, _, rfl, ite2 (fun e => ?_) (fun e => ?_)⟩
    · have e := V.int.inj (of_decide_eq_true e)
      refine ⟨.ref r, rfl, q r H (.refl _) ?_⟩
      unfold newRow
      rw [if_pos (et.trans e)]
      exact h1
    · have e : t ≠ 0 := fun z => e (decide_eq_true (by rw [z]))
      refine ⟨.ref r, rfl, .int t, rfl, _, _, rfl, rfl, _, rfl, ite2 (fun e2 => ?_) (fun e2 => ?_)⟩
      · have e2 : 0 < t := of_decide_eq_true e2
        refine ⟨.ref u, rfl, r, u, _, _, rfl, .inl ⟨SqT.of h1, SqL.of hu, fun D eD => ?_⟩⟩
        have lmin : row.length = min (row.map V.int).length (up.map V.int).length := by
          rw [List.length_map, List.length_map, lu, Nat.min_self]
        refine lc_it (walk_zipG (xs := row.map V.int) (ys := up.map V.int) lmin) (fun i H' => AccI H H' D (fun j => row.getD j 0 + t * up.getD j 0) i) AccI.zero (fun i H' _ hA => ⟨SqT.of (hA.stay eD h1), SqL.of (hA.stay eD hu)⟩) ?_ ?_
        · rintro i v H3 H3' hi hA ⟨U, x', y', rfl, eU, rfl, ex', ey'⟩
          obtain ⟨x, ex, rfl⟩ := int_at ex'
          obtain ⟨y, ey, rfl⟩ := int_at ey'
          refine ⟨U, _, rfl, SqT.of upd_same, rfl, _, _, rfl, _, _, rfl, rfl, rfl, .int x, rfl, .int t, rfl, .int y, rfl, _, _, rfl, rfl, .inl ⟨by omega, by omega⟩, _, _, rfl, rfl, ?_⟩
          exact hA.next (same_upd eU) (by rw [getD_at ex, getD_at ey]) (by omega)
        · rintro H3 hA
          refine ⟨D, _, rfl, .inl ⟨SqL.of hA.1, fun p hp => ?_⟩⟩
          refine q p _ (fun b o e => same_upd hp _ _ (hA.stay eD e)) ?_
          rw [upd_same]
          unfold newRow
          rw [et, if_neg e, if_pos e2]
      · have e2 : ¬ 0 < t := fun z => e2 (decide_eq_true z)
        refine ⟨.ref d, rfl, r, d, _, _, rfl, .inl ⟨SqT.of h1, SqL.of hd, fun D eD => ?_⟩⟩
        have lmin : row.length = min (row.map V.int).length (down.map V.int).length := by
          rw [List.length_map, List.length_map, ld, Nat.min_self]
        refine lc_it (walk_zipG (xs := row.map V.int) (ys := down.map V.int) lmin) (fun i H' => AccI H H' D (fun j => row.getD j 0 + t * down.getD j 0) i) AccI.zero (fun i H' _ hA => ⟨SqT.of (hA.stay eD h1), SqL.of (hA.stay eD hd)⟩) ?_ ?_
        · rintro i v H3 H3' hi hA ⟨U, x', y', rfl, eU, rfl, ex', ey'⟩
          obtain ⟨x, ex, rfl⟩ := int_at ex'
          obtain ⟨y, ey, rfl⟩ := int_at ey'
          refine ⟨U, _, rfl, SqT.of upd_same, rfl, _, _, rfl, _, _, rfl, rfl, rfl, .int x, rfl, .int t, rfl, .int y, rfl, _, _, rfl, rfl, .inl ⟨by omega, by omega⟩, _, _, rfl, rfl, ?_⟩
          exact hA.next (same_upd eU) (by rw [getD_at ex, getD_at ey]) (by omega)
        · rintro H3 hA
          refine ⟨D, _, rfl, .inl ⟨SqL.of hA.1, fun p hp => ?_⟩⟩
          refine q p _ (fun b o e => same_upd hp _ _ (hA.stay eD e)) ?_
          rw [upd_same]
          unfold newRow
          rw [et, if_neg e, if_neg e2]
end
end Bw
set_option Elab.async false
set_option linter.all false
set_option maxRecDepth 100000
set_option maxHeartbeats 4000000
namespace Bw
open PySem PySem.Spec PyProof.Rows L2
theorem Same.updN {H H' : Hp} {D : Addr} {o : HO} (s : Same H H') (h : H D = none) : Same H (upd H' D o) := fun c u e => by
  rw [upd_ne (ne_of_none e h)]
  exact s _ _ e
def bigT (t : Int) : Bool := decide ((if t < 0 then -t else t) > 50)
def bigR (rows : List (List Int)) : Bool := rows.any fun r => r.any bigT
theorem bigT_iff (t : Int) : bigT t = false ↔ -50 ≤ t ∧ t ≤ 50 := by
  unfold bigT
  rw [decide_eq_false_iff_not]
  constructor
  · intro h
    split at h <;> omega
  · rintro ⟨h1, h2⟩
    split <;> omega
theorem bigR_iff (rows : List (List Int)) : bigR rows = false ↔ ∀ r ∈ rows, ∀ t ∈ r, -50 ≤ t ∧ t ≤ 50 := by
  unfold bigR
  rw [List.any_eq_false]
  constructor
  · intro h r hr t ht
    have h1 := h r hr
    have h2 : r.any bigT = false := by
      cases e : r.any bigT with
      | false => rfl
      | true => exact absurd e h1
    have h3 := List.any_eq_false.mp h2 t ht
    refine (bigT_iff t).mp ?_
    cases e : bigT t with
    | false => rfl
    | true => exact absurd e h3
  · intro h r hr z
    obtain ⟨t, ht, e⟩ := List.any_eq_true.mp z
    rw [(bigT_iff t).mpr (h r hr t ht)] at e
    cases e
theorem bigR_take {rows : List (List Int)} {i : Nat} {r : List Int} (h : rows[i]? = some r) : bigR (rows.take (i + 1)) = (bigR (rows.take i) || r.any bigT) := by
  unfold bigR
  rw [List.take_succ, h, List.any_append]
  show (_ || (r.any bigT || false)) = _
  rw [Bool.or_false]
theorem any_take {r : List Int} {j : Nat} {t : Int} (h : r[j]? = some t) : (r.take (j + 1)).any bigT = ((r.take j).any bigT || bigT t) := by
  rw [List.take_succ, h, List.any_append]
  show (_ || (bigT t || false)) = _
  rw [Bool.or_false]
section
variable {P : Program} {w : World} {K : PySem.W.Frag} {mg : Str → Option Value} {base : Heap}
abbrev s_turned_table : Stmt := topS 29
abbrev n_turned_table : List Str := ["table", "place", "own", "up", "down", "rows", "tie", "row"]
theorem sc_turned_table : FnScope n_turned_table ["table", "place"] (defScope s_turned_table) := ⟨rfl, rfl, rfl, by decide +kernel, rfl, by decide +kernel, by decide +kernel⟩
def spTurn (C : Addr) : Sp := fun vs H Q E => ∃ (a : Addr) (rows : List (List Int)) (n k : Nat), vs = [.ref a, .int k] ∧ TabAt H a rows ∧ WdOk rows n ∧ k < n ∧
  (fits rows n k → ∀ (b : Addr) (H' : Hp), Same H H' → TabAt H' b (turnT rows n k) → Q (.ref b) H') ∧
  (¬ fits rows n k → ∀ (d : Addr) (H' : Hp), Same H H' → H' d = some (.xd greatFs) → E (.ref C) (some d) H')
def upE (B : Nat → Nat → Int) (k j : Nat) : Int := if j = k then -2 else if B k j > 0 then B k j else 0
def dnE (B : Nat → Nat → Int) (k j : Nat) : Int := if j = k then -2 else if -(B k j) > 0 then -(B k j) else 0
theorem new_turn {rows : List (List Int)} {n k i : Nat} (w : ∀ r ∈ rows, r.length = n) (hi : i < rows.length) (hk : k < n) (hik : i ≠ k) :
    newRow (rows.getD i []) (matRow n (upE (ent rows) k)) (matRow n (dnE (ent rows) k)) k = matRow n (turnE (ent rows) k i) := by
  have lr := row_len w hi
  unfold newRow
  have ek : (rows.getD i []).getD k 0 = ent rows i k := rfl
  rw [ek, lr]
  by_cases e : ent rows i k = 0
  · rw [if_pos e]
    apply List.ext_getElem?
    intro j
    by_cases hj : j < n
    · rw [matRow_get hj, List.getElem?_eq_getElem (by omega)]
      congr 1
      have e1 : (rows.getD i [])[j]'(by omega) = ent rows i j := by
        unfold ent
        rw [List.getD_eq_getElem?_getD (i := j), List.getElem?_eq_getElem (by omega)]
        rfl
      rw [e1]
      unfold turnE
      by_cases hjk : j = k
      · subst hjk
        rw [if_pos (.inr rfl), e]
        rfl
      · have hnk : ¬ (i = k ∨ j = k) := fun z => z.elim hik hjk
        rw [if_neg hnk, e, if_neg (by omega), if_neg (by omega)]
    · rw [List.getElem?_eq_none (by omega), List.getElem?_eq_none (by rw [matRow_len]; omega)]
  · rw [if_neg e]
    unfold matRow
    refine List.map_congr_left fun j hj => ?_
    have hj : j < n := List.mem_range.mp hj
    show ent rows i j + _ * List.getD (if 0 < ent rows i k then matRow n (upE (ent rows) k) else matRow n (dnE (ent rows) k)) j 0 = _
    unfold turnE
    by_cases hp : 0 < ent rows i k
    · rw [if_pos hp, matRow_getD hj]
      unfold upE
      by_cases hjk : j = k
      · subst hjk
        rw [if_pos rfl, if_pos (.inr rfl)]
        omega
      · have hnk : ¬ (i = k ∨ j = k) := fun z => z.elim hik hjk
        rw [if_neg hjk, if_neg hnk]
        by_cases hb : ent rows k j > 0
        · have hb2 : 0 < ent rows i k ∧ 0 < ent rows k j := ⟨hp, hb⟩
          rw [if_pos hb, if_pos hb2]
        · have hb2 : ¬ (0 < ent rows i k ∧ 0 < ent rows k j) := fun z => hb z.2
          have hb3 : ¬ (ent rows i k < 0 ∧ ent rows k j < 0) := fun z => by omega
          rw [if_neg hb, if_neg hb2, if_neg hb3, Int.mul_zero, Int.add_zero]
    · rw [if_neg hp, matRow_getD hj]
      have hn : ent rows i k < 0 := by omega
      unfold dnE
      by_cases hjk : j = k
      · subst hjk
        rw [if_pos rfl, if_pos (.inr rfl)]
        omega
      · have hnk : ¬ (i = k ∨ j = k) := fun z => z.elim hik hjk
        have hb2 : ¬ (0 < ent rows i k ∧ 0 < ent rows k j) := fun z => hp z.1
        rw [if_neg hjk, if_neg hnk, if_neg hb2]
        by_cases hb : ent rows k j < 0
        · have hb3 : ent rows i k < 0 ∧ ent rows k j < 0 := ⟨hn, hb⟩
          have hb4 : -(ent rows k j) > 0 := by omega
          rw [if_pos hb4, if_pos hb3, Int.mul_neg]
          omega
        · have hb3 : ¬ (ent rows i k < 0 ∧ ent rows k j < 0) := fun z => hb z.2
          have hb4 : ¬ (-(ent rows k j) > 0) := by omega
          rw [if_neg hb4, if_neg hb3, Int.mul_zero, Int.add_zero]
theorem own_turn {rows : List (List Int)} {n k : Nat} (w : ∀ r ∈ rows, r.length = n) (hk : k < rows.length) :
    matRow n (fun j => -((rows.getD k []).getD j 0)) = matRow n (turnE (ent rows) k k) := by
  unfold matRow
  refine List.map_congr_left fun j hj => ?_
  unfold turnE
  rw [if_pos (.inl rfl)]
  rfl
theorem big_row {r : List Int} {m l : Int} (hm : m ∈ r) (hmx : ∀ y ∈ r, y ≤ m) (hl : l ∈ r) (hlx : ∀ y ∈ r, l ≤ y) : r.any bigT = (decide (m > 50) || decide (l < -50)) := by
  rw [Bool.eq_iff_iff, List.any_eq_true, Bool.or_eq_true, decide_eq_true_iff, decide_eq_true_iff]
  constructor
  · rintro ⟨x, hx, e⟩
    unfold bigT at e
    have e := of_decide_eq_true e
    have h1 := hmx x hx
    have h2 := hlx x hx
    split at e
    · right; omega
    · left; omega
  · rintro (h | h)
    · refine ⟨m, hm, decide_eq_true ?_⟩
      rw [if_neg (by omega)]
      exact h
    · refine ⟨l, hl, decide_eq_true ?_⟩
      rw [if_pos (by omega)]
      omega
theorem big_max {r : List Int} {m : Int} (hm : m ∈ r) (h : m > 50) : r.any bigT = true := by
  rw [List.any_eq_true]
  refine ⟨m, hm, decide_eq_true ?_⟩
  rw [if_neg (by omega)]
  exact h
theorem set_mat {n j : Nat} {b : Nat → Int} {v : Int} : ((matRow n b).map V.int).set j (.int v) = (matRow n (fun i => if i = j then v else b i)).map V.int := by
  rw [← List.map_set, matRow_set]
theorem ix_nat {n k : Nat} (h : k < n) : ixN n (k : Int) = some k := by
  unfold ixN
  rw [if_pos (by omega), if_pos (by omega), Int.toNat_natCast]
theorem ok_turn {f C fI : Addr} {fd fdI : FuncData} (F : Fun K "turned_table" "turned_table" s_turned_table f fd) (T : Tx mg) (c_turned_row : Cal P w K mg base CX0 1 "turned_row" ["row", "up", "down", "place"] spTRow)
    (TG : GreatC K mg C fI) (FI : FnOk P w K mg base CX0 2 fI fdI ["self"] (spGreatInit K)) (bI : Binds K fdI ["self"] []) : FnOk P w K mg base (L2.CX P w) 4 f fd ["table", "place"] (spTurn C) := by
  refine F.okX sc_turned_table (fun vs H Q E h => ?_) (fun cdv A outer s H vs Q E hr h => ?_)
  · obtain ⟨a, rows, n, k, rfl, _⟩ := h
    rfl
  · obtain ⟨a, rows, n, k, rfl, hT, O, hk, q, qE⟩ := h
    have hr1 := hr.mono (show 1 ≤ 3 by decide)
    refine ⟨_, (pss_cons (ps_set (i := 2) sc_turned_table.nd rfl (.inl rfl) (pe_ix (i_tup (K := K)) (pv 0) (pv 1) (fun _ _ => rfl)))
  (pss_cons (ps_set (i := 3) sc_turned_table.nd rfl (.inr rfl) (pe_lc (own := [("tie", 6)]) (by rfl) sc_turned_table.nd (p_tup (K := K) (pv 2)) (blkOk_by (own := [("tie", 6)]) (N := n_turned_table) (sc := defScope s_turned_table) (by decide +kernel)) (fun _ _ _ _ _ => (pg_name (i := 6) sc_turned_table.nd rfl (.inl rfl))) (fun _ _ _ _ _ => pts_nil) (fun _ _ _ _ _ => (pe_callB (call_max2 rfl) (by rfl) T.max (by decide +kernel) (pa_cons pe_int (pa_cons (pv 6) pa_nil))))))
  (pss_cons (ps_set (i := 4) sc_turned_table.nd rfl (.inr rfl) (pe_lc (own := [("tie", 6)]) (by rfl) sc_turned_table.nd (p_tup (K := K) (pv 2)) (blkOk_by (own := [("tie", 6)]) (N := n_turned_table) (sc := defScope s_turned_table) (by decide +kernel)) (fun _ _ _ _ _ => (pg_name (i := 6) sc_turned_table.nd rfl (.inl rfl))) (fun _ _ _ _ _ => pts_nil) (fun _ _ _ _ _ => (pe_callB (call_max2 rfl) (by rfl) T.max (by decide +kernel) (pa_cons pe_int (pa_cons (pe_un un_neg (pv 6)) pa_nil))))))
  (pss_cons (ps_asg (pe_un un_neg pe_int) (pg_sub (pv 3) (pv 1) set_list))
  (pss_cons (ps_asg (pe_un un_neg pe_int) (pg_sub (pv 4) (pv 1) set_list))
  (pss_cons (ps_setLc (i := 5) (own := [("row", 7)]) (by rfl) sc_turned_table.nd rfl rfl (sw_true rfl rfl rfl (by decide +kernel)) (p_tup (K := K) (pv 0)) (blkOk_by (own := [("row", 7)]) (N := n_turned_table) (sc := defScope s_turned_table) (by decide +kernel)) (fun _ _ _ _ _ => (pg_name (i := 7) sc_turned_table.nd rfl (.inl rfl))) (fun _ _ _ _ _ => pts_nil) (fun _ _ _ _ _ => (pe_cal c_turned_row hr1 (by rfl) (pa_cons (pv 7) (pa_cons (pv 3) (pa_cons (pv 4) (pa_cons (pv 1) pa_nil)))))))
  (pss_cons (ps_asg (pe_callTy (c_tup (K := K)) (by rfl) T.tuple (by decide +kernel) (pa_cons (pe_lc (own := [("tie", 6)]) (by rfl) sc_turned_table.nd (p_tup (K := K) (pv 2)) (blkOk_by (own := [("tie", 6)]) (N := n_turned_table) (sc := defScope s_turned_table) (by decide +kernel)) (fun _ _ _ _ _ => (pg_name (i := 6) sc_turned_table.nd rfl (.inl rfl))) (fun _ _ _ _ _ => pts_nil) (fun _ _ _ _ _ => (pe_un un_neg (pv 6)))) pa_nil)) (pg_sub (pv 5) (pv 1) set_list))
  (pss_cons (ps_if (pt_val (pe_callB (c_any (K := K) rfl) (by rfl) T.any (by decide +kernel) (pa_cons (pe_lc (own := [("row", 7)]) (by rfl) sc_turned_table.nd (p_list (K := K) (pv 5)) (blkOk_by (own := [("row", 7)]) (N := n_turned_table) (sc := defScope s_turned_table) (by decide +kernel)) (fun _ _ _ _ _ => (pg_name (i := 7) sc_turned_table.nd rfl (.inl rfl))) (fun _ _ _ _ _ => pts_nil) (fun _ _ _ _ _ => (pe_or (pe_cmpR op_gt (pe_callB (c_maxT (K := K) rfl) (by rfl) T.max (by decide +kernel) (pa_cons (pv 7) pa_nil)) (pe_gint (by rfl) T.MOST_TIE) (nomark _)) (pe_one (pe_cmpR op_lt (pe_callB (c_minT (K := K) rfl) (by rfl) T.min (by decide +kernel) (pa_cons (pv 7) pa_nil)) (pe_un un_neg (pe_gint (by rfl) T.MOST_TIE)) (nomark _)))))) pa_nil)))
    (pss_one (ps_raise rfl (takes_of rfl rfl rfl rfl) (pmk_oex0 TG.oex TG.iC TG.tI FI hr bI pass0 (by rfl) TG.g)))
    pss_nil)
  (pss_one (ps_ret (pe_callTy (c_tup (K := K)) (by rfl) T.tuple (by decide +kernel) (pa_cons (pv 5) pa_nil)))))))))))), ?_⟩
    have h1 := O.n1
    have h4 := O.n4
    have hl := O.len
    have hl8 := O.len8
    have hkr : k < rows.length := by omega
    obtain ⟨as, ha, hR⟩ := hT.refs
    have las : as.length = rows.length := hR.1
    obtain ⟨as', c, g1, g2, g3⟩ := hT.row hkr
    have eas : as'.map V.ref = as.map V.ref := HO.tup.inj (Option.some.inj (g1.symm.trans ha))
    rw [eas] at g2
    have lk := row_len O.wide hkr
    refine ⟨.ref a, rfl, .int k, rfl, a, _, _, .ref c, rfl, rfl, SqT.of ha, atI_nat g2, ?_⟩
    -- up
    refine ⟨.ref c, rfl, c, rfl, ⟨_, SqT.of g3⟩, fun U eU => ?_⟩
    refine lc_tup (K := K) (a := c) (xs := (rows.getD k []).map V.int) (fun j H' => AccI H H' U (fun j => if (rows.getD k []).getD j 0 > 0 then (rows.getD k []).getD j 0 else 0) j) AccI.zero (fun j H' _ hA => SqT.of (hA.stay eU g3)) ?_ ?_
    · rintro j v H1 hv hA
      obtain ⟨x, ex, rfl⟩ := int_at hv
      have hj := (List.getElem?_eq_some_iff.mp ex).1
      refine ⟨rfl, .int x, rfl, _, _, rfl, ?_⟩
      exact hA.next (.refl _) (by rw [getD_at ex]) (by omega)
    · rintro H1 hA
      rw [List.length_map, lk] at hA
      have s1 : Same H H1 := fun b o e => hA.stay eU e
      have e1 : H1 U = some (.lst ((matRow n fun j => if (rows.getD k []).getD j 0 > 0 then (rows.getD k []).getD j 0 else 0).map V.int)) := hA.1
      clear hA
      -- down
      refine ⟨.ref c, rfl, c, rfl, ⟨_, SqT.of (s1 _ _ g3)⟩, fun D eD => ?_⟩
      refine lc_tup (K := K) (a := c) (xs := (rows.getD k []).map V.int) (fun j H' => AccI H1 H' D (fun j => if -((rows.getD k []).getD j 0) > 0 then -((rows.getD k []).getD j 0) else 0) j) AccI.zero (fun j H' _ hA => SqT.of (hA.stay eD (s1 _ _ g3))) ?_ ?_
      · rintro j v H2 hv hA
        obtain ⟨x, ex, rfl⟩ := int_at hv
        have hj := (List.getElem?_eq_some_iff.mp ex).1
        refine ⟨rfl, .int x, rfl, _, rfl, _, _, rfl, ?_⟩
        exact hA.next (.refl _) (by rw [getD_at ex]) (by omega)
      · rintro H2 hA
        rw [List.length_map, lk] at hA
        have s2 : Same H1 H2 := fun b o e => hA.stay eD e
        have e2 : H2 D = some (.lst ((matRow n fun j => if -((rows.getD k []).getD j 0) > 0 then -((rows.getD k []).getD j 0) else 0).map V.int)) := hA.1
        clear hA
        have nUD : U ≠ D := ne_of_none e1 eD
        -- up[place] = -2, down[place] = -2
        have ixk : ∀ b : Nat → Int, ixN ((matRow n b).map V.int).length (k : Int) = some k := fun b => by
          rw [List.length_map, matRow_len]
          exact ix_nat hk
        refine ⟨2, rfl, .ref U, rfl, .int k, rfl, U, _, k, k, rfl, rfl, s2 _ _ e1, ixk _, ?_⟩
        refine ⟨2, rfl, .ref D, rfl, .int k, rfl, D, _, k, k, rfl, rfl, (upd_ne (fun z => nUD z.symm)).trans e2, ixk _, ?_⟩
        rw [set_mat, set_mat]
        have eU3 : (upd (upd H2 U (.lst ((matRow n (upE (ent rows) k)).map V.int))) D (.lst ((matRow n (dnE (ent rows) k)).map V.int))) U = some (.lst ((matRow n (upE (ent rows) k)).map V.int)) := by
          rw [upd_ne nUD, upd_same]
        have eD3 : (upd (upd H2 U (.lst ((matRow n (upE (ent rows) k)).map V.int))) D (.lst ((matRow n (dnE (ent rows) k)).map V.int))) D = some (.lst ((matRow n (dnE (ent rows) k)).map V.int)) := upd_same
        have s3 : Same H (upd (upd H2 U (.lst ((matRow n (upE (ent rows) k)).map V.int))) D (.lst ((matRow n (dnE (ent rows) k)).map V.int))) := fun b o e => by
          rw [upd_ne (ne_of_none (s1 _ _ e) eD), upd_ne (ne_of_none e eU)]
          exact s2 _ _ (s1 _ _ e)
        have fu : (matRow n fun i => if i = k then (-2 : Int) else if (rows.getD k []).getD i 0 > 0 then (rows.getD k []).getD i 0 else 0) = matRow n (upE (ent rows) k) := rfl
        have fd : (matRow n fun i => if i = k then (-2 : Int) else if -((rows.getD k []).getD i 0) > 0 then -((rows.getD k []).getD i 0) else 0) = matRow n (dnE (ent rows) k) := rfl
        generalize ee : (upd (upd H2 U (.lst ((matRow n (upE (ent rows) k)).map V.int))) D (.lst ((matRow n (dnE (ent rows) k)).map V.int))) = H3 at eU3 eD3 s3
        have ee2 : (upd (upd H2 U (.lst ((matRow n fun i => if i = k then (-2 : Int) else if (rows.getD k []).getD i 0 > 0 then (rows.getD k []).getD i 0 else 0).map V.int))) D (.lst ((matRow n fun i => if i = k then (-2 : Int) else if -((rows.getD k []).getD i 0) > 0 then -((rows.getD k []).getD i 0) else 0).map V.int))) = H3 := ee
        rw [ee2]
        clear ee ee2 fu fd
        have ha3 := s3 _ _ ha
        have g33 := s3 _ _ g3
        have hR3 := hR.same s3
        -- rows
        refine ⟨.ref a, rfl, a, rfl, ⟨_, SqT.of ha3⟩, fun R eR => ?_⟩
        refine lc_tup (K := K) (a := a) (xs := as.map V.ref) (fun i H' => Acc H3 H' R (fun i => newRow (rows.getD i []) (matRow n (upE (ent rows) k)) (matRow n (dnE (ent rows) k)) k) i) Acc.zero (fun i H' _ hA => SqT.of (hA.stay eR ha3)) ?_ ?_
        · rintro i v H4 hv hA
          rw [List.getElem?_map] at hv
          obtain ⟨t, et, rfl⟩ := Option.map_eq_some_iff.mp hv
          have hi : i < rows.length := by
            have := (List.getElem?_eq_some_iff.mp et).1
            omega
          obtain ⟨b, eb, hb⟩ := hR3.2 i _ (List.getElem?_eq_getElem hi)
          rw [et] at eb
          cases eb
          have er : rows[i] = rows.getD i [] := by
            rw [List.getD_eq_getElem?_getD, List.getElem?_eq_getElem hi]
            rfl
          have hmem := O.tie _ (List.getElem_mem hi)
          rw [er] at hb hmem
          have lr := row_len O.wide hi
          refine ⟨rfl, .ref t, rfl, .ref U, rfl, .ref D, rfl, .int k, rfl, t, U, D, _, _, _, k, rfl, hA.stay eR hb, hA.stay eR eU3, hA.stay eR eD3, by omega, by omega, by rw [matRow_len]; omega, by rw [matRow_len]; omega, hmem, fun p H5 s5 hp => ?_⟩
          exact hA.next s5 hp (by omega)
        · rintro H4 hA
          rw [List.length_map, las] at hA
          obtain ⟨ts, eR4, hR4⟩ := hA.get
          have s4 : Same H3 H4 := fun b o e => hA.stay eR e
          have s04 := s3.trans s4
          clear hA
          -- own row
          refine ⟨.ref c, rfl, c, rfl, ⟨_, SqT.of (s04 _ _ g3)⟩, fun L eL => ?_⟩
          refine lc_tup (K := K) (a := c) (xs := (rows.getD k []).map V.int) (fun j H' => AccI H4 H' L (fun j => -((rows.getD k []).getD j 0)) j) AccI.zero (fun j H' _ hA => SqT.of (hA.stay eL (s04 _ _ g3))) ?_ ?_
          · rintro j v H5 hv hA
            obtain ⟨x, ex, rfl⟩ := int_at hv
            have hj := (List.getElem?_eq_some_iff.mp ex).1
            refine ⟨rfl, .int x, rfl, _, rfl, ?_⟩
            exact hA.next (.refl _) (by rw [getD_at ex]) (by omega)
          · rintro H5 hA
            rw [List.length_map, lk] at hA
            have s5 : Same H4 H5 := fun b o e => hA.stay eL e
            refine ⟨L, _, rfl, .inl ⟨SqL.of hA.1, fun p hp => ?_⟩⟩
            rw [own_turn O.wide hkr]
            have lts : ts.length = rows.length := by
              rw [hR4.1, List.length_map, List.length_range]
            have sp := s5.trans (same_upd (o := .tup ((matRow n (turnE (ent rows) k k)).map V.int)) hp)
            refine ⟨.ref R, rfl, .int k, rfl, R, _, k, k, rfl, rfl, sp _ _ eR4, ?_, ?_⟩
            · rw [List.length_map, lts]
              exact ix_nat hkr
            have eset : (ts.map V.ref).set k (.ref p) = (ts.set k p).map V.ref := by
              rw [List.map_set]
            rw [eset]
            have hR6 : RefsAt (upd (upd H5 p (.tup ((matRow n (turnE (ent rows) k k)).map V.int))) R (.lst ((ts.set k p).map V.ref))) (ts.set k p) (turnT rows n k) := by
              refine ⟨by rw [List.length_set, lts, turnT_len], fun i r e => ?_⟩
              have hi : i < rows.length := by
                have := (List.getElem?_eq_some_iff.mp e).1
                rw [turnT_len] at this
                exact this
              have er : r = matRow n (turnE (ent rows) k i) := by
                unfold turnT at e
                rw [List.getElem?_map, List.getElem?_range hi] at e
                exact (Option.some.inj e).symm
              subst er
              by_cases hik : i = k
              · subst hik
                refine ⟨p, by rw [List.getElem?_set_self (by omega)], ?_⟩
                rw [upd_ne (ne_of_none (s5 _ _ eR4) hp).symm, upd_same]
              · obtain ⟨b, eb, hb⟩ := hR4.2 i _ (by rw [List.getElem?_map, List.getElem?_range hi]; rfl)
                refine ⟨b, by rw [List.getElem?_set_ne (fun z => hik z.symm)]; exact eb, ?_⟩
                have nbR : b ≠ R := fun z => by
                  rw [z, eR4] at hb
                  cases hb
                rw [upd_ne nbR, sp _ _ hb]
                show some (HO.tup ((newRow (rows.getD i []) (matRow n (upE (ent rows) k)) (matRow n (dnE (ent rows) k)) k).map V.int)) = _
                rw [new_turn O.wide hi hk hik]
            have eR6 : (upd (upd H5 p (.tup ((matRow n (turnE (ent rows) k k)).map V.int))) R (.lst ((ts.set k p).map V.ref))) R = some (.lst ((ts.set k p).map V.ref)) := upd_same
            have s6 : Same H (upd (upd H5 p (.tup ((matRow n (turnE (ent rows) k k)).map V.int))) R (.lst ((ts.set k p).map V.ref))) := fun b o e => by
              rw [upd_ne (ne_of_none (s3 _ _ e) eR)]
              exact sp _ _ (s04 _ _ e)
            have lts2 : (ts.set k p).length = rows.length := by
              rw [List.length_set, lts]
            generalize (upd (upd H5 p (.tup ((matRow n (turnE (ent rows) k k)).map V.int))) R (.lst ((ts.set k p).map V.ref))) = H6 at hR6 eR6 s6
            clear sp hp hA s5 eL s4 s04 eR4 hR4 eset
            generalize ts.set k p = us at hR6 eR6 lts2
            -- any
            refine ⟨.ref R, rfl, R, rfl, ⟨_, SqL.of eR6⟩, fun L eL => ?_⟩
            refine lc_list (K := K) (a := R) (xs := us.map V.ref) (fun i H' => ∃ bs : List Bool, H' L = some (.lst (bs.map V.bl)) ∧ bs.any id = bigR ((turnT rows n k).take i) ∧ bs.length = i ∧ Same H6 H') ⟨[], upd_same, rfl, rfl, same_upd eL⟩ (fun i H' _ ⟨_, _, _, _, s⟩ => SqL.of (s _ _ eR6)) ?_ ?_
            · rintro i v H7 ev ⟨bs, e7, hb7, l7, s7⟩
              rw [List.getElem?_map] at ev
              obtain ⟨t, et, rfl⟩ := Option.map_eq_some_iff.mp ev
              have hi : i < rows.length := by
                have := (List.getElem?_eq_some_iff.mp et).1
                omega
              have er : (turnT rows n k)[i]? = some (matRow n (turnE (ent rows) k i)) := by
                unfold turnT
                rw [List.getElem?_map, List.getElem?_range hi]
                rfl
              obtain ⟨b, eb, hb⟩ := hR6.2 i _ er
              rw [et] at eb
              cases eb
              have lr : (matRow n (turnE (ent rows) k i)).length = n := matRow_len _ _
              generalize matRow n (turnE (ent rows) k i) = r at er hb lr
              have hb := s7 _ _ hb
              have fin : ∀ z : Bool, z = r.any bigT → ∃ acc, H7 L = some (.lst acc) ∧ acc.length < sizeLine ∧ ∃ bs : List Bool, (upd H7 L (.lst (acc ++ [.bl z]))) L = some (.lst (bs.map V.bl)) ∧ bs.any id = bigR ((turnT rows n k).take (i + 1)) ∧ bs.length = i + 1 ∧ Same H6 (upd H7 L (.lst (acc ++ [.bl z]))) := fun z ez => by
                refine ⟨_, e7, by rw [List.length_map]; exact small1000 (by omega), bs ++ [z], ?_, ?_, by rw [List.length_append, l7]; rfl, Same.updN s7 eL⟩
                · rw [upd_same, List.map_append]
                  rfl
                · rw [List.any_append, hb7, bigR_take er, ez]
                  show (_ || (_ || false)) = _
                  rw [Bool.or_false]
                  rfl
              refine ⟨rfl, .ref t, rfl, t, r, rfl, SqT.of hb, by omega, fun m hm hmx => ⟨_, _, rfl, rfl, _, rfl, ite2 (fun e => ?_) (fun e => ?_)⟩⟩
              · exact fin true (big_max hm (of_decide_eq_true e)).symm
              · refine ⟨.ref t, rfl, t, r, rfl, SqT.of hb, by omega, fun l hl hlx => ⟨_, rfl, _, _, rfl, rfl, ?_⟩⟩
                refine fin _ ?_
                rw [big_row hm hmx hl hlx]
                have e : decide (m > 50) = false := by
                  cases z : decide (m > 50) with
                  | false => rfl
                  | true => exact absurd z e
                rw [e, Bool.false_or]
            · rintro H7 ⟨bs, e7, hb7, _, s7⟩
              rw [List.length_map, lts2, List.take_of_length_le (by rw [turnT_len]; exact Nat.le_refl _)] at hb7
              refine ⟨L, _, rfl, SqL.of e7, ?_⟩
              rw [hb7]
              have s07 := s6.trans s7
              refine ⟨_, rfl, ite2 (fun hz => ?_) (fun hz => ?_)⟩
              · have hf : ¬ fits rows n k := fun z => by
                  rw [(bigR_iff _).mpr z] at hz
                  cases hz
                refine ⟨by show 0 ≤ 1000; decide, fun x ex => ?_⟩
                refine ⟨x, C, rfl, TG.oex, TG.nw, upd_same, fun dx H8 ed nd hx hd hk => ?_⟩
                have ed2 : H7 dx = none := by
                  rw [upd_ne nd] at ed
                  exact ed
                refine ⟨rfl, dx, _, hx, hd, ed2, qE hf dx _ (fun c o e => ?_) upd_same⟩
                have e2 := s07 _ _ e
                have n1 : c ≠ x := ne_of_none e2 ex
                have n2 : c ≠ dx := ne_of_none e2 ed2
                rw [upd_ne n2, del_ne n1, hk c n1 n2, upd_ne n1]
                exact e2
              · have hf : fits rows n k := (bigR_iff _).mp (by
                  cases e : bigR (turnT rows n k) with
                  | false => rfl
                  | true => exact absurd e hz)
                refine ⟨.ref R, rfl, R, _, rfl, .inl ⟨SqL.of (s7 _ _ eR6), fun p hp => ?_⟩⟩
                have sp := same_upd (o := .tup (us.map V.ref)) hp
                exact q hf p _ (s07.trans sp) (((hR6.same s7).same sp).tab upd_same)
end
end Bw
set_option Elab.async false
set_option linter.all false
set_option maxRecDepth 100000
set_option maxHeartbeats 4000000
namespace Bw
open PySem PySem.Spec PyProof.Rows L2
def fitB (rows : List (List Int)) (n k : Nat) : Bool := !bigR (turnT rows n k)
theorem fitB_iff {rows : List (List Int)} {n k : Nat} : fitB rows n k = true ↔ fits rows n k := by
  unfold fitB
  rw [Bool.not_eq_true', bigR_iff]
  exact Iff.rfl
theorem WdOk.turn {rows : List (List Int)} {n k : Nat} (O : WdOk rows n) (h : fits rows n k) : WdOk (turnT rows n k) n := ⟨O.n1, O.n4, by rw [turnT_len]; exact O.len, by rw [turnT_len]; exact O.len8, turnT_wide, h⟩
theorem TabOk.sq {rows : List (List Int)} {n : Nat} (O : TabOk rows n) : WdOk (rows.take n) n := by
  have h1 := O.n1
  have h2 := O.len
  have h4 := O.n4
  exact ⟨O.n1, O.n4, by rw [List.length_take]; omega, by rw [List.length_take]; omega, fun r hr => O.wide r (List.mem_of_mem_take hr), fun r hr => O.tie r (List.mem_of_mem_take hr)⟩
end Bw
set_option Elab.async false
set_option linter.all false
set_option maxRecDepth 100000
set_option maxHeartbeats 4000000
namespace Bw
open PySem PySem.Spec PyProof.Rows L2
/-! ### turning: even tables stay even, twice is none -/
theorem sgn_pair {c d x y : Int} (hc : 0 < c) (hd : 0 < d) (e : c * x = -(d * y)) : (0 < x ↔ y < 0) ∧ (x < 0 ↔ 0 < y) := by
  rcases pair_math hc hd e with ⟨rfl, rfl⟩ | h
  · exact ⟨⟨fun h => by omega, fun h => by omega⟩, ⟨fun h => by omega, fun h => by omega⟩⟩
  · have n1 : 0 < x → y < 0 := fun hx => by
      rcases Int.lt_or_le y 0 with g | g
      · exact g
      · have := Int.mul_nonneg (Int.le_of_lt hx) g
        omega
    have n2 : x < 0 → 0 < y := fun hx => by
      rcases Int.lt_or_le 0 y with g | g
      · exact g
      · have := Int.mul_nonneg_of_nonpos_of_nonpos (Int.le_of_lt hx) g
        omega
    have x0 : x ≠ 0 := fun z => by
      rw [z, Int.zero_mul] at h
      omega
    refine ⟨⟨n1, fun hy => ?_⟩, ⟨n2, fun hy => ?_⟩⟩
    · rcases Int.lt_trichotomy x 0 with g | g | g
      · have := n2 g
        omega
      · exact absurd g x0
      · exact g
    · rcases Int.lt_trichotomy x 0 with g | g | g
      · exact g
      · exact absurd g x0
      · have := n1 g
        omega
theorem turn_even {di dj dk x x' y y' z z' : Int} (hi : 0 < di) (hj : 0 < dj) (hk : 0 < dk) (e1 : di * x = -(dk * x')) (e2 : dk * y = -(dj * y')) (e3 : di * z = -(dj * z')) :
    di * (if 0 < x ∧ 0 < y then z + x * y else if x < 0 ∧ y < 0 then z - x * y else z) = -(dj * (if 0 < y' ∧ 0 < x' then z' + y' * x' else if y' < 0 ∧ x' < 0 then z' - y' * x' else z')) := by
  obtain ⟨a1, a2⟩ := sgn_pair hi hk e1
  obtain ⟨b1, b2⟩ := sgn_pair hk hj e2
  have key : di * (x * y) = dj * (y' * x') := by
    have h1 : di * (x * y) = (di * x) * y := (Int.mul_assoc ..).symm
    rw [h1, e1, Int.neg_mul, Int.mul_comm dk x', Int.mul_assoc, e2, Int.mul_neg, Int.neg_neg]
    rw [Int.mul_left_comm, Int.mul_comm x' y']
  by_cases h1 : 0 < x ∧ 0 < y
  · have g1 : ¬ (0 < y' ∧ 0 < x') := fun g => by
      have := a1.mp h1.1
      omega
    have g2 : y' < 0 ∧ x' < 0 := ⟨b1.mp h1.2, a1.mp h1.1⟩
    rw [if_pos h1, if_neg g1, if_pos g2, Int.mul_add, Int.mul_sub, e3, key]
    omega
  · rw [if_neg h1]
    by_cases h2 : x < 0 ∧ y < 0
    · have g1 : 0 < y' ∧ 0 < x' := ⟨b2.mp h2.2, a2.mp h2.1⟩
      rw [if_pos h2, if_pos g1, Int.mul_sub, Int.mul_add, e3, key]
      omega
    · have g1 : ¬ (0 < y' ∧ 0 < x') := fun g => h2 ⟨a2.mpr g.2, b2.mpr g.1⟩
      have g2 : ¬ (y' < 0 ∧ x' < 0) := fun g => h1 ⟨a1.mpr g.2, b1.mpr g.1⟩
      rw [if_neg h2, if_neg g1, if_neg g2]
      exact e3
theorem turnE_even {B : Nat → Nat → Int} {d : Nat → Int} {n k : Nat} (d0 : ∀ i, i < n → 0 < d i) (dv : ∀ i j, i < n → j < n → d i * B i j = -(d j * B j i)) (hk : k < n) {i j : Nat} (hi : i < n) (hj : j < n) :
    d i * turnE B k i j = -(d j * turnE B k j i) := by
  unfold turnE
  by_cases h : i = k ∨ j = k
  · rw [if_pos h, if_pos (show j = k ∨ i = k from h.symm), Int.mul_neg, Int.mul_neg, dv i j hi hj]
  · rw [if_neg h, if_neg (show ¬ (j = k ∨ i = k) from fun g => h g.symm)]
    exact turn_even (d0 i hi) (d0 j hj) (d0 k hk) (dv i k hi hk) (dv k j hk hj) (dv i j hi hj)
theorem TabOk.wd {rows : List (List Int)} {n : Nat} (O : TabOk rows n) : WdOk rows n := ⟨O.n1, O.n4, O.len, by have := O.len4; have := O.n4; omega, O.wide, O.tie⟩
theorem TabOk.turn {rows : List (List Int)} {n k : Nat} (O : TabOk rows n) (hk : k < n) (hf : fits rows n k) : TabOk (turnT rows n k) n := by
  have W := O.wd.turn hf
  obtain ⟨d, d0, dv⟩ := O.even
  have hl := O.len
  refine ⟨O.n1, O.n4, W.len, by rw [turnT_len]; exact O.len4, W.wide, W.tie, d, d0, fun i j hi hj => ?_⟩
  rw [turnT_ent (by omega) hj, turnT_ent (by omega) hi]
  exact turnE_even d0 dv hk hi hj
end Bw
set_option Elab.async false
set_option linter.all false
set_option maxRecDepth 100000
set_option maxHeartbeats 0
namespace Bw
def gQ : Int → Int → Int → Int
  | x, .ofNat m, .ofNat n => Int.add x (Int.ofNat (Nat.mul m n))
  | x, .negSucc m, .negSucc n => Int.add x (Int.negOfNat (Nat.mul (Nat.succ m) (Nat.succ n)))
  | x, _, _ => x
def fQ : Int → Bool
  | .ofNat m => Nat.ble m 50
  | .negSucc m => Nat.ble m 49
def sU : Int → Nat → Nat → Nat
  | .ofNat m, w, u => Nat.mul u (Nat.pow w m)
  | .negSucc _, _, u => u
def sV : Int → Nat → Nat → Nat
  | .ofNat _, _, v => v
  | .negSucc m, w, v => Nat.mul v (Nat.pow w (Nat.succ m))
def g60 : Nat := 1000000000000000000000000000000000000000000000000000000000000
def run4 (f : Nat) : Int → Int → Int → Int → Int → Int → Int → Int → Int → Int → Int → Int → Nat → Nat → Nat → Nat → Bool :=
  Nat.rec (motive := fun _ => Int → Int → Int → Int → Int → Int → Int → Int → Int → Int → Int → Int → Nat → Nat → Nat → Nat → Bool)
    (fun _ _ _ _ _ _ _ _ _ _ _ _ _ _ _ _ => true)
    (fun _ ih b01 b02 b03 b10 b12 b13 b20 b21 b23 b30 b31 b32 w0 w1 w2 w3 =>
      (fun c12 c13 c21 c23 c31 c32 =>
        cond (fQ c12 && (fQ c13 && (fQ c21 && (fQ c23 && (fQ c31 && fQ c32)))))
          ((fun s => cond (Nat.beq (Nat.mod s w0) 0)
              ((fun x => cond (Nat.ble g60 x) true (ih c12 c13 (Int.neg b10) c21 c23 (Int.neg b20) c31 c32 (Int.neg b30) (Int.neg b01) (Int.neg b02) (Int.neg b03) w1 w2 w3 x)) (Nat.div s w0)) false)
            (Nat.add (sU b30 w3 (sU b20 w2 (sU b10 w1 1))) (sV b30 w3 (sV b20 w2 (sV b10 w1 1)))))
          true)
        (gQ b12 b10 b02) (gQ b13 b10 b03) (gQ b21 b20 b01) (gQ b23 b20 b03) (gQ b31 b30 b01) (gQ b32 b30 b02)) f
def chk (a b c d : Nat) (t1 t2 t3 t4 t5 t6 : Int) : Bool :=
  run4 24 (t1 * ↑(b / Nat.gcd a b)) (t2 * ↑(c / Nat.gcd a c)) (t3 * ↑(d / Nat.gcd a d))
    (-(t1 * ↑(a / Nat.gcd a b))) (t4 * ↑(c / Nat.gcd b c)) (t5 * ↑(d / Nat.gcd b d))
    (-(t2 * ↑(a / Nat.gcd a c))) (-(t4 * ↑(b / Nat.gcd b c))) (t6 * ↑(d / Nat.gcd c d))
    (-(t3 * ↑(a / Nat.gcd a d))) (-(t5 * ↑(b / Nat.gcd b d))) (-(t6 * ↑(c / Nat.gcd c d))) 1 1 1 1
def e3 (f : Int → Bool) : Bool := f 0 && (f 1 && f (-1))
def all4 (l1 l2 l3 l4 : Nat) (a b : Int) : Bool := e3 fun c => e3 fun d => e3 fun e => e3 fun f => chk l1 l2 l3 l4 a b c d e f

def gT (x y : Int) : Int := if 0 < x ∧ 0 < y then x * y else if x < 0 ∧ y < 0 then -(x * y) else 0
theorem gQ_eq (x y z : Int) : gQ x y z = x + gT y z := by
  unfold gT
  match y, z with
  | .ofNat m, .ofNat n =>
    show x + Int.ofNat (m * n) = _
    by_cases h : 0 < m ∧ 0 < n
    · rw [if_pos ⟨Int.ofNat_lt.mpr h.1, Int.ofNat_lt.mpr h.2⟩]
      rfl
    · have z0 : m * n = 0 := by
        rcases Nat.eq_zero_or_pos m with h1 | h1
        · rw [h1, Nat.zero_mul]
        · rcases Nat.eq_zero_or_pos n with h2 | h2
          · rw [h2, Nat.mul_zero]
          · exact absurd ⟨h1, h2⟩ h
      rw [z0, if_neg (fun k => h ⟨Int.ofNat_lt.mp k.1, Int.ofNat_lt.mp k.2⟩), if_neg (fun k => absurd k.1 (by show ¬ (Int.ofNat m < 0); exact Int.not_lt.mpr (Int.natCast_nonneg m)))]
      rfl
  | .negSucc m, .negSucc n =>
    show x + Int.negOfNat ((m + 1) * (n + 1)) = _
    rw [if_neg (fun k => absurd k.1 (by omega)), if_pos ⟨Int.negSucc_lt_zero m, Int.negSucc_lt_zero n⟩]
    rw [show Int.negSucc m * Int.negSucc n = Int.ofNat ((m + 1) * (n + 1)) from rfl]
    rfl
  | .ofNat m, .negSucc n =>
    show x = _
    have h1 := Int.negSucc_lt_zero n
    have h2 : (0 : Int) ≤ Int.ofNat m := Int.natCast_nonneg m
    rw [if_neg (fun k => by omega), if_neg (fun k => by omega)]
    omega
  | .negSucc m, .ofNat n =>
    show x = _
    have h1 := Int.negSucc_lt_zero m
    have h2 : (0 : Int) ≤ Int.ofNat n := Int.natCast_nonneg n
    rw [if_neg (fun k => by omega), if_neg (fun k => by omega)]
    omega
theorem fQ_iff {x : Int} : fQ x = true ↔ -50 ≤ x ∧ x ≤ 50 := by
  match x with
  | .ofNat m =>
    show Nat.ble m 50 = true ↔ -50 ≤ (m : Int) ∧ (m : Int) ≤ 50
    rw [Nat.ble_eq]
    omega
  | .negSucc m =>
    show Nat.ble m 49 = true ↔ _
    rw [Nat.ble_eq]
    omega
theorem sU_eq (b : Int) (w u : Nat) : sU b w u = u * w ^ b.toNat := by
  match b with
  | .ofNat m => rfl
  | .negSucc m => exact (Nat.mul_one u).symm
theorem sV_eq (b : Int) (w v : Nat) : sV b w v = v * w ^ (-b).toNat := by
  match b with
  | .ofNat m =>
    have : (-(Int.ofNat m)).toNat = 0 := by
      have : (0 : Int) ≤ Int.ofNat m := Int.natCast_nonneg m
      omega
    rw [this]
    exact (Nat.mul_one v).symm
  | .negSucc m => rfl
/-- a tie behind an exchange -/
def tE (B : Nat → Nat → Int) (k i j : Nat) : Int := if i = k ∨ j = k then -(B i j) else B i j + gT (B i k) (B k j)
def pr (f : Nat → Nat) : Nat → Nat
  | 0 => 1
  | n + 1 => pr f n * f n
def sS (n k : Nat) (B : Nat → Nat → Int) (w : Nat → Nat) : Nat := pr (fun i => if i = k then 1 else w i ^ (B i k).toNat) n + pr (fun i => if i = k then 1 else w i ^ (-(B i k)).toNat) n
def upW (w : Nat → Nat) (k x : Nat) : Nat → Nat := fun i => if i = k then x else w i
/-- the worths stay whole, as long as none is great and the ties fit -/
def Wh (n : Nat) : Nat → Nat → (Nat → Nat → Int) → (Nat → Nat) → Prop
  | 0, _, _, _ => True
  | f + 1, k, B, w => (∀ i j, i < n → j < n → -50 ≤ tE B k i j ∧ tE B k i j ≤ 50) → w k ∣ sS n k B w ∧ (sS n k B w / w k < g60 → Wh n f ((k + 1) % n) (tE B k) (upW w k (sS n k B w / w k)))
theorem run4_succ (f : Nat) (b01 b02 b03 b10 b12 b13 b20 b21 b23 b30 b31 b32 : Int) (w0 w1 w2 w3 : Nat) (h : run4 (f + 1) b01 b02 b03 b10 b12 b13 b20 b21 b23 b30 b31 b32 w0 w1 w2 w3 = true)
    (fits : ∀ x ∈ [b12 + gT b10 b02, b13 + gT b10 b03, b21 + gT b20 b01, b23 + gT b20 b03, b31 + gT b30 b01, b32 + gT b30 b02], -50 ≤ x ∧ x ≤ 50) :
    let s := w1 ^ b10.toNat * w2 ^ b20.toNat * w3 ^ b30.toNat + w1 ^ (-b10).toNat * w2 ^ (-b20).toNat * w3 ^ (-b30).toNat
    w0 ∣ s ∧ (s / w0 < g60 → run4 f (b12 + gT b10 b02) (b13 + gT b10 b03) (-b10) (b21 + gT b20 b01) (b23 + gT b20 b03) (-b20) (b31 + gT b30 b01) (b32 + gT b30 b02) (-b30) (-b01) (-b02) (-b03) w1 w2 w3 (s / w0) = true) := by
  have e : run4 (f + 1) b01 b02 b03 b10 b12 b13 b20 b21 b23 b30 b31 b32 w0 w1 w2 w3 = cond (fQ (gQ b12 b10 b02) && (fQ (gQ b13 b10 b03) && (fQ (gQ b21 b20 b01) && (fQ (gQ b23 b20 b03) && (fQ (gQ b31 b30 b01) && fQ (gQ b32 b30 b02))))))
      (cond (Nat.beq (Nat.mod (Nat.add (sU b30 w3 (sU b20 w2 (sU b10 w1 1))) (sV b30 w3 (sV b20 w2 (sV b10 w1 1)))) w0) 0)
        (cond (Nat.ble g60 (Nat.div (Nat.add (sU b30 w3 (sU b20 w2 (sU b10 w1 1))) (sV b30 w3 (sV b20 w2 (sV b10 w1 1)))) w0)) true
          (run4 f (gQ b12 b10 b02) (gQ b13 b10 b03) (Int.neg b10) (gQ b21 b20 b01) (gQ b23 b20 b03) (Int.neg b20) (gQ b31 b30 b01) (gQ b32 b30 b02) (Int.neg b30) (Int.neg b01) (Int.neg b02) (Int.neg b03) w1 w2 w3 (Nat.div (Nat.add (sU b30 w3 (sU b20 w2 (sU b10 w1 1))) (sV b30 w3 (sV b20 w2 (sV b10 w1 1)))) w0))) false) true := rfl
  rw [e] at h
  simp only [gQ_eq, sU_eq, sV_eq, Nat.one_mul] at h
  simp only [List.mem_cons, List.not_mem_nil, or_false] at fits
  have g : ∀ x, (x = b12 + gT b10 b02 ∨ x = b13 + gT b10 b03 ∨ x = b21 + gT b20 b01 ∨ x = b23 + gT b20 b03 ∨ x = b31 + gT b30 b01 ∨ x = b32 + gT b30 b02) → fQ x = true := fun x hx => fQ_iff.mpr (fits x hx)
  rw [g _ (.inl rfl), g _ (.inr (.inl rfl)), g _ (.inr (.inr (.inl rfl))), g _ (.inr (.inr (.inr (.inl rfl)))), g _ (.inr (.inr (.inr (.inr (.inl rfl))))), g _ (.inr (.inr (.inr (.inr (.inr rfl)))))] at h
  intro s
  generalize hs : s = S
  have hS : Nat.add (w1 ^ b10.toNat * w2 ^ b20.toNat * w3 ^ b30.toNat) (w1 ^ (-b10).toNat * w2 ^ (-b20).toNat * w3 ^ (-b30).toNat) = S := hs
  rw [hS] at h
  have h : cond (Nat.beq (Nat.mod S w0) 0) (cond (Nat.ble g60 (Nat.div S w0)) true (run4 f (b12 + gT b10 b02) (b13 + gT b10 b03) (-b10) (b21 + gT b20 b01) (b23 + gT b20 b03) (-b20) (b31 + gT b30 b01) (b32 + gT b30 b02) (-b30) (-b01) (-b02) (-b03) w1 w2 w3 (Nat.div S w0))) false = true := h
  cases hm : Nat.beq (Nat.mod S w0) 0 with
  | false => rw [hm] at h; cases h
  | true =>
    rw [hm] at h
    refine ⟨Nat.dvd_of_mod_eq_zero (Nat.eq_of_beq_eq_true hm), fun hl => ?_⟩
    have hb : Nat.ble g60 (Nat.div S w0) = false := by
      cases z : Nat.ble g60 (Nat.div S w0) with
      | false => rfl
      | true =>
        have z := Nat.le_of_ble_eq_true z
        have z : g60 ≤ S / w0 := z
        omega
    rw [hb] at h
    exact h
def at4 (f k : Nat) (B : Nat → Nat → Int) (w : Nat → Nat) : Bool := match k with
  | 0 => run4 f (B 0 1) (B 0 2) (B 0 3) (B 1 0) (B 1 2) (B 1 3) (B 2 0) (B 2 1) (B 2 3) (B 3 0) (B 3 1) (B 3 2) (w 0) (w 1) (w 2) (w 3)
  | 1 => run4 f (B 1 2) (B 1 3) (B 1 0) (B 2 1) (B 2 3) (B 2 0) (B 3 1) (B 3 2) (B 3 0) (B 0 1) (B 0 2) (B 0 3) (w 1) (w 2) (w 3) (w 0)
  | 2 => run4 f (B 2 3) (B 2 0) (B 2 1) (B 3 2) (B 3 0) (B 3 1) (B 0 2) (B 0 3) (B 0 1) (B 1 2) (B 1 3) (B 1 0) (w 2) (w 3) (w 0) (w 1)
  | _ => run4 f (B 3 0) (B 3 1) (B 3 2) (B 0 3) (B 0 1) (B 0 2) (B 1 3) (B 1 0) (B 1 2) (B 2 3) (B 2 0) (B 2 1) (w 3) (w 0) (w 1) (w 2)
theorem run4_ok : ∀ (f k : Nat) (B : Nat → Nat → Int) (w : Nat → Nat), k < 4 → at4 f k B w = true → Wh 4 f k B w
  | 0, _, _, _, _, _ => trivial
  | f + 1, k, B, w, hk, h => by
    refine fun hf => ?_
    match k, hk, h, hf with
    | 0, _, h, hf =>
      have R := run4_succ f (B 0 1) (B 0 2) (B 0 3) (B 1 0) (B 1 2) (B 1 3) (B 2 0) (B 2 1) (B 2 3) (B 3 0) (B 3 1) (B 3 2) (w 0) (w 1) (w 2) (w 3) h (fun x hx => by
        simp only [List.mem_cons, List.not_mem_nil, or_false] at hx
        rcases hx with rfl | rfl | rfl | rfl | rfl | rfl
        · exact hf 1 2 (by decide) (by decide)
        · exact hf 1 3 (by decide) (by decide)
        · exact hf 2 1 (by decide) (by decide)
        · exact hf 2 3 (by decide) (by decide)
        · exact hf 3 1 (by decide) (by decide)
        · exact hf 3 2 (by decide) (by decide)
        )
      have es : sS 4 0 B w = w 1 ^ (B 1 0).toNat * w 2 ^ (B 2 0).toNat * w 3 ^ (B 3 0).toNat + w 1 ^ (-(B 1 0)).toNat * w 2 ^ (-(B 2 0)).toNat * w 3 ^ (-(B 3 0)).toNat := by
        simp [sS, pr, Nat.mul_comm, Nat.mul_left_comm, Nat.mul_assoc]
      rw [es]
      refine ⟨R.1, fun hl => ?_⟩
      have R2 := R.2 hl
      exact run4_ok f 1 _ _ (by decide) R2
    | 1, _, h, hf =>
      have R := run4_succ f (B 1 2) (B 1 3) (B 1 0) (B 2 1) (B 2 3) (B 2 0) (B 3 1) (B 3 2) (B 3 0) (B 0 1) (B 0 2) (B 0 3) (w 1) (w 2) (w 3) (w 0) h (fun x hx => by
        simp only [List.mem_cons, List.not_mem_nil, or_false] at hx
        rcases hx with rfl | rfl | rfl | rfl | rfl | rfl
        · exact hf 2 3 (by decide) (by decide)
        · exact hf 2 0 (by decide) (by decide)
        · exact hf 3 2 (by decide) (by decide)
        · exact hf 3 0 (by decide) (by decide)
        · exact hf 0 2 (by decide) (by decide)
        · exact hf 0 3 (by decide) (by decide)
        )
      have es : sS 4 1 B w = w 2 ^ (B 2 1).toNat * w 3 ^ (B 3 1).toNat * w 0 ^ (B 0 1).toNat + w 2 ^ (-(B 2 1)).toNat * w 3 ^ (-(B 3 1)).toNat * w 0 ^ (-(B 0 1)).toNat := by
        simp [sS, pr, Nat.mul_comm, Nat.mul_left_comm, Nat.mul_assoc]
      rw [es]
      refine ⟨R.1, fun hl => ?_⟩
      have R2 := R.2 hl
      exact run4_ok f 2 _ _ (by decide) R2
    | 2, _, h, hf =>
      have R := run4_succ f (B 2 3) (B 2 0) (B 2 1) (B 3 2) (B 3 0) (B 3 1) (B 0 2) (B 0 3) (B 0 1) (B 1 2) (B 1 3) (B 1 0) (w 2) (w 3) (w 0) (w 1) h (fun x hx => by
        simp only [List.mem_cons, List.not_mem_nil, or_false] at hx
        rcases hx with rfl | rfl | rfl | rfl | rfl | rfl
        · exact hf 3 0 (by decide) (by decide)
        · exact hf 3 1 (by decide) (by decide)
        · exact hf 0 3 (by decide) (by decide)
        · exact hf 0 1 (by decide) (by decide)
        · exact hf 1 3 (by decide) (by decide)
        · exact hf 1 0 (by decide) (by decide)
        )
      have es : sS 4 2 B w = w 3 ^ (B 3 2).toNat * w 0 ^ (B 0 2).toNat * w 1 ^ (B 1 2).toNat + w 3 ^ (-(B 3 2)).toNat * w 0 ^ (-(B 0 2)).toNat * w 1 ^ (-(B 1 2)).toNat := by
        simp [sS, pr, Nat.mul_comm, Nat.mul_left_comm, Nat.mul_assoc]
      rw [es]
      refine ⟨R.1, fun hl => ?_⟩
      have R2 := R.2 hl
      exact run4_ok f 3 _ _ (by decide) R2
    | 3, _, h, hf =>
      have R := run4_succ f (B 3 0) (B 3 1) (B 3 2) (B 0 3) (B 0 1) (B 0 2) (B 1 3) (B 1 0) (B 1 2) (B 2 3) (B 2 0) (B 2 1) (w 3) (w 0) (w 1) (w 2) h (fun x hx => by
        simp only [List.mem_cons, List.not_mem_nil, or_false] at hx
        rcases hx with rfl | rfl | rfl | rfl | rfl | rfl
        · exact hf 0 1 (by decide) (by decide)
        · exact hf 0 2 (by decide) (by decide)
        · exact hf 1 0 (by decide) (by decide)
        · exact hf 1 2 (by decide) (by decide)
        · exact hf 2 0 (by decide) (by decide)
        · exact hf 2 1 (by decide) (by decide)
        )
      have es : sS 4 3 B w = w 0 ^ (B 0 3).toNat * w 1 ^ (B 1 3).toNat * w 2 ^ (B 2 3).toNat + w 0 ^ (-(B 0 3)).toNat * w 1 ^ (-(B 1 3)).toNat * w 2 ^ (-(B 2 3)).toNat := by
        simp [sS, pr, Nat.mul_comm, Nat.mul_left_comm, Nat.mul_assoc]
      rw [es]
      refine ⟨R.1, fun hl => ?_⟩
      have R2 := R.2 hl
      exact run4_ok f 0 _ _ (by decide) R2
end Bw
set_option Elab.async false
set_option linter.all false
set_option maxRecDepth 100000
set_option maxHeartbeats 0
namespace Bw
theorem yk1111_0z : all4 1 1 1 1 0 (0) = true := by decide +kernel
theorem yk1111_0p : all4 1 1 1 1 0 (1) = true := by decide +kernel
theorem yk1111_0m : all4 1 1 1 1 0 (-1) = true := by decide +kernel
theorem yk1111_1z : all4 1 1 1 1 1 (0) = true := by decide +kernel
theorem yk1111_1p : all4 1 1 1 1 1 (1) = true := by decide +kernel
theorem yk1111_1m : all4 1 1 1 1 1 (-1) = true := by decide +kernel
theorem yk1131_0z : all4 1 1 3 1 0 (0) = true := by decide +kernel
theorem yk1131_0p : all4 1 1 3 1 0 (1) = true := by decide +kernel
theorem yk1131_0m : all4 1 1 3 1 0 (-1) = true := by decide +kernel
theorem yk1131_1z : all4 1 1 3 1 1 (0) = true := by decide +kernel
theorem yk1131_1p : all4 1 1 3 1 1 (1) = true := by decide +kernel
theorem yk1131_1m : all4 1 1 3 1 1 (-1) = true := by decide +kernel
theorem yk1214_0z : all4 1 2 1 4 0 (0) = true := by decide +kernel
theorem yk1214_0p : all4 1 2 1 4 0 (1) = true := by decide +kernel
theorem yk1214_0m : all4 1 2 1 4 0 (-1) = true := by decide +kernel
theorem yk1214_1z : all4 1 2 1 4 1 (0) = true := by decide +kernel
theorem yk1214_1p : all4 1 2 1 4 1 (1) = true := by decide +kernel
theorem yk1214_1m : all4 1 2 1 4 1 (-1) = true := by decide +kernel
theorem yk1311_0z : all4 1 3 1 1 0 (0) = true := by decide +kernel
theorem yk1311_0p : all4 1 3 1 1 0 (1) = true := by decide +kernel
theorem yk1311_0m : all4 1 3 1 1 0 (-1) = true := by decide +kernel
theorem yk1311_1z : all4 1 3 1 1 1 (0) = true := by decide +kernel
theorem yk1311_1p : all4 1 3 1 1 1 (1) = true := by decide +kernel
theorem yk1311_1m : all4 1 3 1 1 1 (-1) = true := by decide +kernel
theorem yk1421_0z : all4 1 4 2 1 0 (0) = true := by decide +kernel
theorem yk1421_0p : all4 1 4 2 1 0 (1) = true := by decide +kernel
theorem yk1421_0m : all4 1 4 2 1 0 (-1) = true := by decide +kernel
theorem yk1421_1z : all4 1 4 2 1 1 (0) = true := by decide +kernel
theorem yk1421_1p : all4 1 4 2 1 1 (1) = true := by decide +kernel
theorem yk1421_1m : all4 1 4 2 1 1 (-1) = true := by decide +kernel
theorem yk2112_0z : all4 2 1 1 2 0 (0) = true := by decide +kernel
theorem yk2112_0p : all4 2 1 1 2 0 (1) = true := by decide +kernel
theorem yk2112_0m : all4 2 1 1 2 0 (-1) = true := by decide +kernel
theorem yk2112_1z : all4 2 1 1 2 1 (0) = true := by decide +kernel
theorem yk2112_1p : all4 2 1 1 2 1 (1) = true := by decide +kernel
theorem yk2112_1m : all4 2 1 1 2 1 (-1) = true := by decide +kernel
theorem yk2144_0z : all4 2 1 4 4 0 (0) = true := by decide +kernel
theorem yk2144_0p : all4 2 1 4 4 0 (1) = true := by decide +kernel
theorem yk2144_0m : all4 2 1 4 4 0 (-1) = true := by decide +kernel
theorem yk2144_1z : all4 2 1 4 4 1 (0) = true := by decide +kernel
theorem yk2144_1p : all4 2 1 4 4 1 (1) = true := by decide +kernel
theorem yk2144_1m : all4 2 1 4 4 1 (-1) = true := by decide +kernel
theorem yk2241_0z : all4 2 2 4 1 0 (0) = true := by decide +kernel
theorem yk2241_0p : all4 2 2 4 1 0 (1) = true := by decide +kernel
theorem yk2241_0m : all4 2 2 4 1 0 (-1) = true := by decide +kernel
theorem yk2241_1z : all4 2 2 4 1 1 (0) = true := by decide +kernel
theorem yk2241_1p : all4 2 2 4 1 1 (1) = true := by decide +kernel
theorem yk2241_1m : all4 2 2 4 1 1 (-1) = true := by decide +kernel
theorem yk2422_0z : all4 2 4 2 2 0 (0) = true := by decide +kernel
theorem yk2422_0p : all4 2 4 2 2 0 (1) = true := by decide +kernel
theorem yk2422_0m : all4 2 4 2 2 0 (-1) = true := by decide +kernel
theorem yk2422_1z : all4 2 4 2 2 1 (0) = true := by decide +kernel
theorem yk2422_1p : all4 2 4 2 2 1 (1) = true := by decide +kernel
theorem yk2422_1m : all4 2 4 2 2 1 (-1) = true := by decide +kernel
theorem yk3131_0z : all4 3 1 3 1 0 (0) = true := by decide +kernel
theorem yk3131_0p : all4 3 1 3 1 0 (1) = true := by decide +kernel
theorem yk3131_0m : all4 3 1 3 1 0 (-1) = true := by decide +kernel
theorem yk3131_1z : all4 3 1 3 1 1 (0) = true := by decide +kernel
theorem yk3131_1p : all4 3 1 3 1 1 (1) = true := by decide +kernel
theorem yk3131_1m : all4 3 1 3 1 1 (-1) = true := by decide +kernel
theorem yk4112_0z : all4 4 1 1 2 0 (0) = true := by decide +kernel
theorem yk4112_0p : all4 4 1 1 2 0 (1) = true := by decide +kernel
theorem yk4112_0m : all4 4 1 1 2 0 (-1) = true := by decide +kernel
theorem yk4112_1z : all4 4 1 1 2 1 (0) = true := by decide +kernel
theorem yk4112_1p : all4 4 1 1 2 1 (1) = true := by decide +kernel
theorem yk4112_1m : all4 4 1 1 2 1 (-1) = true := by decide +kernel
theorem yk4144_0z : all4 4 1 4 4 0 (0) = true := by decide +kernel
theorem yk4144_0p : all4 4 1 4 4 0 (1) = true := by decide +kernel
theorem yk4144_0m : all4 4 1 4 4 0 (-1) = true := by decide +kernel
theorem yk4144_1z : all4 4 1 4 4 1 (0) = true := by decide +kernel
theorem yk4144_1p : all4 4 1 4 4 1 (1) = true := by decide +kernel
theorem yk4144_1m : all4 4 1 4 4 1 (-1) = true := by decide +kernel
theorem yk4241_0z : all4 4 2 4 1 0 (0) = true := by decide +kernel
theorem yk4241_0p : all4 4 2 4 1 0 (1) = true := by decide +kernel
theorem yk4241_0m : all4 4 2 4 1 0 (-1) = true := by decide +kernel
theorem yk4241_1z : all4 4 2 4 1 1 (0) = true := by decide +kernel
theorem yk4241_1p : all4 4 2 4 1 1 (1) = true := by decide +kernel
theorem yk4241_1m : all4 4 2 4 1 1 (-1) = true := by decide +kernel
theorem yk4422_0z : all4 4 4 2 2 0 (0) = true := by decide +kernel
theorem yk4422_0p : all4 4 4 2 2 0 (1) = true := by decide +kernel
theorem yk4422_0m : all4 4 4 2 2 0 (-1) = true := by decide +kernel
theorem yk4422_1z : all4 4 4 2 2 1 (0) = true := by decide +kernel
theorem yk4422_1p : all4 4 4 2 2 1 (1) = true := by decide +kernel
theorem yk4422_1m : all4 4 4 2 2 1 (-1) = true := by decide +kernel
end Bw
set_option Elab.async false
set_option linter.all false
set_option maxRecDepth 100000
set_option maxHeartbeats 0
namespace Bw
theorem yk1112_0z : all4 1 1 1 2 0 (0) = true := by decide +kernel
theorem yk1112_0p : all4 1 1 1 2 0 (1) = true := by decide +kernel
theorem yk1112_0m : all4 1 1 1 2 0 (-1) = true := by decide +kernel
theorem yk1112_1z : all4 1 1 1 2 1 (0) = true := by decide +kernel
theorem yk1112_1p : all4 1 1 1 2 1 (1) = true := by decide +kernel
theorem yk1112_1m : all4 1 1 1 2 1 (-1) = true := by decide +kernel
theorem yk1133_0z : all4 1 1 3 3 0 (0) = true := by decide +kernel
theorem yk1133_0p : all4 1 1 3 3 0 (1) = true := by decide +kernel
theorem yk1133_0m : all4 1 1 3 3 0 (-1) = true := by decide +kernel
theorem yk1133_1z : all4 1 1 3 3 1 (0) = true := by decide +kernel
theorem yk1133_1p : all4 1 1 3 3 1 (1) = true := by decide +kernel
theorem yk1133_1m : all4 1 1 3 3 1 (-1) = true := by decide +kernel
theorem yk1221_0z : all4 1 2 2 1 0 (0) = true := by decide +kernel
theorem yk1221_0p : all4 1 2 2 1 0 (1) = true := by decide +kernel
theorem yk1221_0m : all4 1 2 2 1 0 (-1) = true := by decide +kernel
theorem yk1221_1z : all4 1 2 2 1 1 (0) = true := by decide +kernel
theorem yk1221_1p : all4 1 2 2 1 1 (1) = true := by decide +kernel
theorem yk1221_1m : all4 1 2 2 1 1 (-1) = true := by decide +kernel
theorem yk1313_0z : all4 1 3 1 3 0 (0) = true := by decide +kernel
theorem yk1313_0p : all4 1 3 1 3 0 (1) = true := by decide +kernel
theorem yk1313_0m : all4 1 3 1 3 0 (-1) = true := by decide +kernel
theorem yk1313_1z : all4 1 3 1 3 1 (0) = true := by decide +kernel
theorem yk1313_1p : all4 1 3 1 3 1 (1) = true := by decide +kernel
theorem yk1313_1m : all4 1 3 1 3 1 (-1) = true := by decide +kernel
theorem yk1422_0z : all4 1 4 2 2 0 (0) = true := by decide +kernel
theorem yk1422_0p : all4 1 4 2 2 0 (1) = true := by decide +kernel
theorem yk1422_0m : all4 1 4 2 2 0 (-1) = true := by decide +kernel
theorem yk1422_1z : all4 1 4 2 2 1 (0) = true := by decide +kernel
theorem yk1422_1p : all4 1 4 2 2 1 (1) = true := by decide +kernel
theorem yk1422_1m : all4 1 4 2 2 1 (-1) = true := by decide +kernel
theorem yk2114_0z : all4 2 1 1 4 0 (0) = true := by decide +kernel
theorem yk2114_0p : all4 2 1 1 4 0 (1) = true := by decide +kernel
theorem yk2114_0m : all4 2 1 1 4 0 (-1) = true := by decide +kernel
theorem yk2114_1z : all4 2 1 1 4 1 (0) = true := by decide +kernel
theorem yk2114_1p : all4 2 1 1 4 1 (1) = true := by decide +kernel
theorem yk2114_1m : all4 2 1 1 4 1 (-1) = true := by decide +kernel
theorem yk2211_0z : all4 2 2 1 1 0 (0) = true := by decide +kernel
theorem yk2211_0p : all4 2 2 1 1 0 (1) = true := by decide +kernel
theorem yk2211_0m : all4 2 2 1 1 0 (-1) = true := by decide +kernel
theorem yk2211_1z : all4 2 2 1 1 1 (0) = true := by decide +kernel
theorem yk2211_1p : all4 2 2 1 1 1 (1) = true := by decide +kernel
theorem yk2211_1m : all4 2 2 1 1 1 (-1) = true := by decide +kernel
theorem yk2242_0z : all4 2 2 4 2 0 (0) = true := by decide +kernel
theorem yk2242_0p : all4 2 2 4 2 0 (1) = true := by decide +kernel
theorem yk2242_0m : all4 2 2 4 2 0 (-1) = true := by decide +kernel
theorem yk2242_1z : all4 2 2 4 2 1 (0) = true := by decide +kernel
theorem yk2242_1p : all4 2 2 4 2 1 (1) = true := by decide +kernel
theorem yk2242_1m : all4 2 2 4 2 1 (-1) = true := by decide +kernel
theorem yk2424_0z : all4 2 4 2 4 0 (0) = true := by decide +kernel
theorem yk2424_0p : all4 2 4 2 4 0 (1) = true := by decide +kernel
theorem yk2424_0m : all4 2 4 2 4 0 (-1) = true := by decide +kernel
theorem yk2424_1z : all4 2 4 2 4 1 (0) = true := by decide +kernel
theorem yk2424_1p : all4 2 4 2 4 1 (1) = true := by decide +kernel
theorem yk2424_1m : all4 2 4 2 4 1 (-1) = true := by decide +kernel
theorem yk3133_0z : all4 3 1 3 3 0 (0) = true := by decide +kernel
theorem yk3133_0p : all4 3 1 3 3 0 (1) = true := by decide +kernel
theorem yk3133_0m : all4 3 1 3 3 0 (-1) = true := by decide +kernel
theorem yk3133_1z : all4 3 1 3 3 1 (0) = true := by decide +kernel
theorem yk3133_1p : all4 3 1 3 3 1 (1) = true := by decide +kernel
theorem yk3133_1m : all4 3 1 3 3 1 (-1) = true := by decide +kernel
theorem yk4114_0z : all4 4 1 1 4 0 (0) = true := by decide +kernel
theorem yk4114_0p : all4 4 1 1 4 0 (1) = true := by decide +kernel
theorem yk4114_0m : all4 4 1 1 4 0 (-1) = true := by decide +kernel
theorem yk4114_1z : all4 4 1 1 4 1 (0) = true := by decide +kernel
theorem yk4114_1p : all4 4 1 1 4 1 (1) = true := by decide +kernel
theorem yk4114_1m : all4 4 1 1 4 1 (-1) = true := by decide +kernel
theorem yk4211_0z : all4 4 2 1 1 0 (0) = true := by decide +kernel
theorem yk4211_0p : all4 4 2 1 1 0 (1) = true := by decide +kernel
theorem yk4211_0m : all4 4 2 1 1 0 (-1) = true := by decide +kernel
theorem yk4211_1z : all4 4 2 1 1 1 (0) = true := by decide +kernel
theorem yk4211_1p : all4 4 2 1 1 1 (1) = true := by decide +kernel
theorem yk4211_1m : all4 4 2 1 1 1 (-1) = true := by decide +kernel
theorem yk4242_0z : all4 4 2 4 2 0 (0) = true := by decide +kernel
theorem yk4242_0p : all4 4 2 4 2 0 (1) = true := by decide +kernel
theorem yk4242_0m : all4 4 2 4 2 0 (-1) = true := by decide +kernel
theorem yk4242_1z : all4 4 2 4 2 1 (0) = true := by decide +kernel
theorem yk4242_1p : all4 4 2 4 2 1 (1) = true := by decide +kernel
theorem yk4242_1m : all4 4 2 4 2 1 (-1) = true := by decide +kernel
theorem yk4424_0z : all4 4 4 2 4 0 (0) = true := by decide +kernel
theorem yk4424_0p : all4 4 4 2 4 0 (1) = true := by decide +kernel
theorem yk4424_0m : all4 4 4 2 4 0 (-1) = true := by decide +kernel
theorem yk4424_1z : all4 4 4 2 4 1 (0) = true := by decide +kernel
theorem yk4424_1p : all4 4 4 2 4 1 (1) = true := by decide +kernel
theorem yk4424_1m : all4 4 4 2 4 1 (-1) = true := by decide +kernel
end Bw
set_option Elab.async false
set_option linter.all false
set_option maxRecDepth 100000
set_option maxHeartbeats 0
namespace Bw
theorem yk1113_0z : all4 1 1 1 3 0 (0) = true := by decide +kernel
theorem yk1113_0p : all4 1 1 1 3 0 (1) = true := by decide +kernel
theorem yk1113_0m : all4 1 1 1 3 0 (-1) = true := by decide +kernel
theorem yk1113_1z : all4 1 1 1 3 1 (0) = true := by decide +kernel
theorem yk1113_1p : all4 1 1 1 3 1 (1) = true := by decide +kernel
theorem yk1113_1m : all4 1 1 1 3 1 (-1) = true := by decide +kernel
theorem yk1141_0z : all4 1 1 4 1 0 (0) = true := by decide +kernel
theorem yk1141_0p : all4 1 1 4 1 0 (1) = true := by decide +kernel
theorem yk1141_0m : all4 1 1 4 1 0 (-1) = true := by decide +kernel
theorem yk1141_1z : all4 1 1 4 1 1 (0) = true := by decide +kernel
theorem yk1141_1p : all4 1 1 4 1 1 (1) = true := by decide +kernel
theorem yk1141_1m : all4 1 1 4 1 1 (-1) = true := by decide +kernel
theorem yk1222_0z : all4 1 2 2 2 0 (0) = true := by decide +kernel
theorem yk1222_0p : all4 1 2 2 2 0 (1) = true := by decide +kernel
theorem yk1222_0m : all4 1 2 2 2 0 (-1) = true := by decide +kernel
theorem yk1222_1z : all4 1 2 2 2 1 (0) = true := by decide +kernel
theorem yk1222_1p : all4 1 2 2 2 1 (1) = true := by decide +kernel
theorem yk1222_1m : all4 1 2 2 2 1 (-1) = true := by decide +kernel
theorem yk1331_0z : all4 1 3 3 1 0 (0) = true := by decide +kernel
theorem yk1331_0p : all4 1 3 3 1 0 (1) = true := by decide +kernel
theorem yk1331_0m : all4 1 3 3 1 0 (-1) = true := by decide +kernel
theorem yk1331_1z : all4 1 3 3 1 1 (0) = true := by decide +kernel
theorem yk1331_1p : all4 1 3 3 1 1 (1) = true := by decide +kernel
theorem yk1331_1m : all4 1 3 3 1 1 (-1) = true := by decide +kernel
theorem yk1424_0z : all4 1 4 2 4 0 (0) = true := by decide +kernel
theorem yk1424_0p : all4 1 4 2 4 0 (1) = true := by decide +kernel
theorem yk1424_0m : all4 1 4 2 4 0 (-1) = true := by decide +kernel
theorem yk1424_1z : all4 1 4 2 4 1 (0) = true := by decide +kernel
theorem yk1424_1p : all4 1 4 2 4 1 (1) = true := by decide +kernel
theorem yk1424_1m : all4 1 4 2 4 1 (-1) = true := by decide +kernel
theorem yk2121_0z : all4 2 1 2 1 0 (0) = true := by decide +kernel
theorem yk2121_0p : all4 2 1 2 1 0 (1) = true := by decide +kernel
theorem yk2121_0m : all4 2 1 2 1 0 (-1) = true := by decide +kernel
theorem yk2121_1z : all4 2 1 2 1 1 (0) = true := by decide +kernel
theorem yk2121_1p : all4 2 1 2 1 1 (1) = true := by decide +kernel
theorem yk2121_1m : all4 2 1 2 1 1 (-1) = true := by decide +kernel
theorem yk2212_0z : all4 2 2 1 2 0 (0) = true := by decide +kernel
theorem yk2212_0p : all4 2 2 1 2 0 (1) = true := by decide +kernel
theorem yk2212_0m : all4 2 2 1 2 0 (-1) = true := by decide +kernel
theorem yk2212_1z : all4 2 2 1 2 1 (0) = true := by decide +kernel
theorem yk2212_1p : all4 2 2 1 2 1 (1) = true := by decide +kernel
theorem yk2212_1m : all4 2 2 1 2 1 (-1) = true := by decide +kernel
theorem yk2244_0z : all4 2 2 4 4 0 (0) = true := by decide +kernel
theorem yk2244_0p : all4 2 2 4 4 0 (1) = true := by decide +kernel
theorem yk2244_0m : all4 2 2 4 4 0 (-1) = true := by decide +kernel
theorem yk2244_1z : all4 2 2 4 4 1 (0) = true := by decide +kernel
theorem yk2244_1p : all4 2 2 4 4 1 (1) = true := by decide +kernel
theorem yk2244_1m : all4 2 2 4 4 1 (-1) = true := by decide +kernel
theorem yk2441_0z : all4 2 4 4 1 0 (0) = true := by decide +kernel
theorem yk2441_0p : all4 2 4 4 1 0 (1) = true := by decide +kernel
theorem yk2441_0m : all4 2 4 4 1 0 (-1) = true := by decide +kernel
theorem yk2441_1z : all4 2 4 4 1 1 (0) = true := by decide +kernel
theorem yk2441_1p : all4 2 4 4 1 1 (1) = true := by decide +kernel
theorem yk2441_1m : all4 2 4 4 1 1 (-1) = true := by decide +kernel
theorem yk3311_0z : all4 3 3 1 1 0 (0) = true := by decide +kernel
theorem yk3311_0p : all4 3 3 1 1 0 (1) = true := by decide +kernel
theorem yk3311_0m : all4 3 3 1 1 0 (-1) = true := by decide +kernel
theorem yk3311_1z : all4 3 3 1 1 1 (0) = true := by decide +kernel
theorem yk3311_1p : all4 3 3 1 1 1 (1) = true := by decide +kernel
theorem yk3311_1m : all4 3 3 1 1 1 (-1) = true := by decide +kernel
theorem yk4121_0z : all4 4 1 2 1 0 (0) = true := by decide +kernel
theorem yk4121_0p : all4 4 1 2 1 0 (1) = true := by decide +kernel
theorem yk4121_0m : all4 4 1 2 1 0 (-1) = true := by decide +kernel
theorem yk4121_1z : all4 4 1 2 1 1 (0) = true := by decide +kernel
theorem yk4121_1p : all4 4 1 2 1 1 (1) = true := by decide +kernel
theorem yk4121_1m : all4 4 1 2 1 1 (-1) = true := by decide +kernel
theorem yk4212_0z : all4 4 2 1 2 0 (0) = true := by decide +kernel
theorem yk4212_0p : all4 4 2 1 2 0 (1) = true := by decide +kernel
theorem yk4212_0m : all4 4 2 1 2 0 (-1) = true := by decide +kernel
theorem yk4212_1z : all4 4 2 1 2 1 (0) = true := by decide +kernel
theorem yk4212_1p : all4 4 2 1 2 1 (1) = true := by decide +kernel
theorem yk4212_1m : all4 4 2 1 2 1 (-1) = true := by decide +kernel
theorem yk4244_0z : all4 4 2 4 4 0 (0) = true := by decide +kernel
theorem yk4244_0p : all4 4 2 4 4 0 (1) = true := by decide +kernel
theorem yk4244_0m : all4 4 2 4 4 0 (-1) = true := by decide +kernel
theorem yk4244_1z : all4 4 2 4 4 1 (0) = true := by decide +kernel
theorem yk4244_1p : all4 4 2 4 4 1 (1) = true := by decide +kernel
theorem yk4244_1m : all4 4 2 4 4 1 (-1) = true := by decide +kernel
theorem yk4441_0z : all4 4 4 4 1 0 (0) = true := by decide +kernel
theorem yk4441_0p : all4 4 4 4 1 0 (1) = true := by decide +kernel
theorem yk4441_0m : all4 4 4 4 1 0 (-1) = true := by decide +kernel
theorem yk4441_1z : all4 4 4 4 1 1 (0) = true := by decide +kernel
theorem yk4441_1p : all4 4 4 4 1 1 (1) = true := by decide +kernel
theorem yk4441_1m : all4 4 4 4 1 1 (-1) = true := by decide +kernel
end Bw
set_option Elab.async false
set_option linter.all false
set_option maxRecDepth 100000
set_option maxHeartbeats 0
namespace Bw
theorem yk1114_0z : all4 1 1 1 4 0 (0) = true := by decide +kernel
theorem yk1114_0p : all4 1 1 1 4 0 (1) = true := by decide +kernel
theorem yk1114_0m : all4 1 1 1 4 0 (-1) = true := by decide +kernel
theorem yk1114_1z : all4 1 1 1 4 1 (0) = true := by decide +kernel
theorem yk1114_1p : all4 1 1 1 4 1 (1) = true := by decide +kernel
theorem yk1114_1m : all4 1 1 1 4 1 (-1) = true := by decide +kernel
theorem yk1142_0z : all4 1 1 4 2 0 (0) = true := by decide +kernel
theorem yk1142_0p : all4 1 1 4 2 0 (1) = true := by decide +kernel
theorem yk1142_0m : all4 1 1 4 2 0 (-1) = true := by decide +kernel
theorem yk1142_1z : all4 1 1 4 2 1 (0) = true := by decide +kernel
theorem yk1142_1p : all4 1 1 4 2 1 (1) = true := by decide +kernel
theorem yk1142_1m : all4 1 1 4 2 1 (-1) = true := by decide +kernel
theorem yk1224_0z : all4 1 2 2 4 0 (0) = true := by decide +kernel
theorem yk1224_0p : all4 1 2 2 4 0 (1) = true := by decide +kernel
theorem yk1224_0m : all4 1 2 2 4 0 (-1) = true := by decide +kernel
theorem yk1224_1z : all4 1 2 2 4 1 (0) = true := by decide +kernel
theorem yk1224_1p : all4 1 2 2 4 1 (1) = true := by decide +kernel
theorem yk1224_1m : all4 1 2 2 4 1 (-1) = true := by decide +kernel
theorem yk1333_0z : all4 1 3 3 3 0 (0) = true := by decide +kernel
theorem yk1333_0p : all4 1 3 3 3 0 (1) = true := by decide +kernel
theorem yk1333_0m : all4 1 3 3 3 0 (-1) = true := by decide +kernel
theorem yk1333_1z : all4 1 3 3 3 1 (0) = true := by decide +kernel
theorem yk1333_1p : all4 1 3 3 3 1 (1) = true := by decide +kernel
theorem yk1333_1m : all4 1 3 3 3 1 (-1) = true := by decide +kernel
theorem yk1441_0z : all4 1 4 4 1 0 (0) = true := by decide +kernel
theorem yk1441_0p : all4 1 4 4 1 0 (1) = true := by decide +kernel
theorem yk1441_0m : all4 1 4 4 1 0 (-1) = true := by decide +kernel
theorem yk1441_1z : all4 1 4 4 1 1 (0) = true := by decide +kernel
theorem yk1441_1p : all4 1 4 4 1 1 (1) = true := by decide +kernel
theorem yk1441_1m : all4 1 4 4 1 1 (-1) = true := by decide +kernel
theorem yk2122_0z : all4 2 1 2 2 0 (0) = true := by decide +kernel
theorem yk2122_0p : all4 2 1 2 2 0 (1) = true := by decide +kernel
theorem yk2122_0m : all4 2 1 2 2 0 (-1) = true := by decide +kernel
theorem yk2122_1z : all4 2 1 2 2 1 (0) = true := by decide +kernel
theorem yk2122_1p : all4 2 1 2 2 1 (1) = true := by decide +kernel
theorem yk2122_1m : all4 2 1 2 2 1 (-1) = true := by decide +kernel
theorem yk2214_0z : all4 2 2 1 4 0 (0) = true := by decide +kernel
theorem yk2214_0p : all4 2 2 1 4 0 (1) = true := by decide +kernel
theorem yk2214_0m : all4 2 2 1 4 0 (-1) = true := by decide +kernel
theorem yk2214_1z : all4 2 2 1 4 1 (0) = true := by decide +kernel
theorem yk2214_1p : all4 2 2 1 4 1 (1) = true := by decide +kernel
theorem yk2214_1m : all4 2 2 1 4 1 (-1) = true := by decide +kernel
theorem yk2411_0z : all4 2 4 1 1 0 (0) = true := by decide +kernel
theorem yk2411_0p : all4 2 4 1 1 0 (1) = true := by decide +kernel
theorem yk2411_0m : all4 2 4 1 1 0 (-1) = true := by decide +kernel
theorem yk2411_1z : all4 2 4 1 1 1 (0) = true := by decide +kernel
theorem yk2411_1p : all4 2 4 1 1 1 (1) = true := by decide +kernel
theorem yk2411_1m : all4 2 4 1 1 1 (-1) = true := by decide +kernel
theorem yk2442_0z : all4 2 4 4 2 0 (0) = true := by decide +kernel
theorem yk2442_0p : all4 2 4 4 2 0 (1) = true := by decide +kernel
theorem yk2442_0m : all4 2 4 4 2 0 (-1) = true := by decide +kernel
theorem yk2442_1z : all4 2 4 4 2 1 (0) = true := by decide +kernel
theorem yk2442_1p : all4 2 4 4 2 1 (1) = true := by decide +kernel
theorem yk2442_1m : all4 2 4 4 2 1 (-1) = true := by decide +kernel
theorem yk3313_0z : all4 3 3 1 3 0 (0) = true := by decide +kernel
theorem yk3313_0p : all4 3 3 1 3 0 (1) = true := by decide +kernel
theorem yk3313_0m : all4 3 3 1 3 0 (-1) = true := by decide +kernel
theorem yk3313_1z : all4 3 3 1 3 1 (0) = true := by decide +kernel
theorem yk3313_1p : all4 3 3 1 3 1 (1) = true := by decide +kernel
theorem yk3313_1m : all4 3 3 1 3 1 (-1) = true := by decide +kernel
theorem yk4122_0z : all4 4 1 2 2 0 (0) = true := by decide +kernel
theorem yk4122_0p : all4 4 1 2 2 0 (1) = true := by decide +kernel
theorem yk4122_0m : all4 4 1 2 2 0 (-1) = true := by decide +kernel
theorem yk4122_1z : all4 4 1 2 2 1 (0) = true := by decide +kernel
theorem yk4122_1p : all4 4 1 2 2 1 (1) = true := by decide +kernel
theorem yk4122_1m : all4 4 1 2 2 1 (-1) = true := by decide +kernel
theorem yk4214_0z : all4 4 2 1 4 0 (0) = true := by decide +kernel
theorem yk4214_0p : all4 4 2 1 4 0 (1) = true := by decide +kernel
theorem yk4214_0m : all4 4 2 1 4 0 (-1) = true := by decide +kernel
theorem yk4214_1z : all4 4 2 1 4 1 (0) = true := by decide +kernel
theorem yk4214_1p : all4 4 2 1 4 1 (1) = true := by decide +kernel
theorem yk4214_1m : all4 4 2 1 4 1 (-1) = true := by decide +kernel
theorem yk4411_0z : all4 4 4 1 1 0 (0) = true := by decide +kernel
theorem yk4411_0p : all4 4 4 1 1 0 (1) = true := by decide +kernel
theorem yk4411_0m : all4 4 4 1 1 0 (-1) = true := by decide +kernel
theorem yk4411_1z : all4 4 4 1 1 1 (0) = true := by decide +kernel
theorem yk4411_1p : all4 4 4 1 1 1 (1) = true := by decide +kernel
theorem yk4411_1m : all4 4 4 1 1 1 (-1) = true := by decide +kernel
theorem yk4442_0z : all4 4 4 4 2 0 (0) = true := by decide +kernel
theorem yk4442_0p : all4 4 4 4 2 0 (1) = true := by decide +kernel
theorem yk4442_0m : all4 4 4 4 2 0 (-1) = true := by decide +kernel
theorem yk4442_1z : all4 4 4 4 2 1 (0) = true := by decide +kernel
theorem yk4442_1p : all4 4 4 4 2 1 (1) = true := by decide +kernel
theorem yk4442_1m : all4 4 4 4 2 1 (-1) = true := by decide +kernel
end Bw
set_option Elab.async false
set_option linter.all false
set_option maxRecDepth 100000
set_option maxHeartbeats 0
namespace Bw
theorem yk1121_0z : all4 1 1 2 1 0 (0) = true := by decide +kernel
theorem yk1121_0p : all4 1 1 2 1 0 (1) = true := by decide +kernel
theorem yk1121_0m : all4 1 1 2 1 0 (-1) = true := by decide +kernel
theorem yk1121_1z : all4 1 1 2 1 1 (0) = true := by decide +kernel
theorem yk1121_1p : all4 1 1 2 1 1 (1) = true := by decide +kernel
theorem yk1121_1m : all4 1 1 2 1 1 (-1) = true := by decide +kernel
theorem yk1144_0z : all4 1 1 4 4 0 (0) = true := by decide +kernel
theorem yk1144_0p : all4 1 1 4 4 0 (1) = true := by decide +kernel
theorem yk1144_0m : all4 1 1 4 4 0 (-1) = true := by decide +kernel
theorem yk1144_1z : all4 1 1 4 4 1 (0) = true := by decide +kernel
theorem yk1144_1p : all4 1 1 4 4 1 (1) = true := by decide +kernel
theorem yk1144_1m : all4 1 1 4 4 1 (-1) = true := by decide +kernel
theorem yk1241_0z : all4 1 2 4 1 0 (0) = true := by decide +kernel
theorem yk1241_0p : all4 1 2 4 1 0 (1) = true := by decide +kernel
theorem yk1241_0m : all4 1 2 4 1 0 (-1) = true := by decide +kernel
theorem yk1241_1z : all4 1 2 4 1 1 (0) = true := by decide +kernel
theorem yk1241_1p : all4 1 2 4 1 1 (1) = true := by decide +kernel
theorem yk1241_1m : all4 1 2 4 1 1 (-1) = true := by decide +kernel
theorem yk1411_0z : all4 1 4 1 1 0 (0) = true := by decide +kernel
theorem yk1411_0p : all4 1 4 1 1 0 (1) = true := by decide +kernel
theorem yk1411_0m : all4 1 4 1 1 0 (-1) = true := by decide +kernel
theorem yk1411_1z : all4 1 4 1 1 1 (0) = true := by decide +kernel
theorem yk1411_1p : all4 1 4 1 1 1 (1) = true := by decide +kernel
theorem yk1411_1m : all4 1 4 1 1 1 (-1) = true := by decide +kernel
theorem yk1442_0z : all4 1 4 4 2 0 (0) = true := by decide +kernel
theorem yk1442_0p : all4 1 4 4 2 0 (1) = true := by decide +kernel
theorem yk1442_0m : all4 1 4 4 2 0 (-1) = true := by decide +kernel
theorem yk1442_1z : all4 1 4 4 2 1 (0) = true := by decide +kernel
theorem yk1442_1p : all4 1 4 4 2 1 (1) = true := by decide +kernel
theorem yk1442_1m : all4 1 4 4 2 1 (-1) = true := by decide +kernel
theorem yk2124_0z : all4 2 1 2 4 0 (0) = true := by decide +kernel
theorem yk2124_0p : all4 2 1 2 4 0 (1) = true := by decide +kernel
theorem yk2124_0m : all4 2 1 2 4 0 (-1) = true := by decide +kernel
theorem yk2124_1z : all4 2 1 2 4 1 (0) = true := by decide +kernel
theorem yk2124_1p : all4 2 1 2 4 1 (1) = true := by decide +kernel
theorem yk2124_1m : all4 2 1 2 4 1 (-1) = true := by decide +kernel
theorem yk2221_0z : all4 2 2 2 1 0 (0) = true := by decide +kernel
theorem yk2221_0p : all4 2 2 2 1 0 (1) = true := by decide +kernel
theorem yk2221_0m : all4 2 2 2 1 0 (-1) = true := by decide +kernel
theorem yk2221_1z : all4 2 2 2 1 1 (0) = true := by decide +kernel
theorem yk2221_1p : all4 2 2 2 1 1 (1) = true := by decide +kernel
theorem yk2221_1m : all4 2 2 2 1 1 (-1) = true := by decide +kernel
theorem yk2412_0z : all4 2 4 1 2 0 (0) = true := by decide +kernel
theorem yk2412_0p : all4 2 4 1 2 0 (1) = true := by decide +kernel
theorem yk2412_0m : all4 2 4 1 2 0 (-1) = true := by decide +kernel
theorem yk2412_1z : all4 2 4 1 2 1 (0) = true := by decide +kernel
theorem yk2412_1p : all4 2 4 1 2 1 (1) = true := by decide +kernel
theorem yk2412_1m : all4 2 4 1 2 1 (-1) = true := by decide +kernel
theorem yk2444_0z : all4 2 4 4 4 0 (0) = true := by decide +kernel
theorem yk2444_0p : all4 2 4 4 4 0 (1) = true := by decide +kernel
theorem yk2444_0m : all4 2 4 4 4 0 (-1) = true := by decide +kernel
theorem yk2444_1z : all4 2 4 4 4 1 (0) = true := by decide +kernel
theorem yk2444_1p : all4 2 4 4 4 1 (1) = true := by decide +kernel
theorem yk2444_1m : all4 2 4 4 4 1 (-1) = true := by decide +kernel
theorem yk3331_0z : all4 3 3 3 1 0 (0) = true := by decide +kernel
theorem yk3331_0p : all4 3 3 3 1 0 (1) = true := by decide +kernel
theorem yk3331_0m : all4 3 3 3 1 0 (-1) = true := by decide +kernel
theorem yk3331_1z : all4 3 3 3 1 1 (0) = true := by decide +kernel
theorem yk3331_1p : all4 3 3 3 1 1 (1) = true := by decide +kernel
theorem yk3331_1m : all4 3 3 3 1 1 (-1) = true := by decide +kernel
theorem yk4124_0z : all4 4 1 2 4 0 (0) = true := by decide +kernel
theorem yk4124_0p : all4 4 1 2 4 0 (1) = true := by decide +kernel
theorem yk4124_0m : all4 4 1 2 4 0 (-1) = true := by decide +kernel
theorem yk4124_1z : all4 4 1 2 4 1 (0) = true := by decide +kernel
theorem yk4124_1p : all4 4 1 2 4 1 (1) = true := by decide +kernel
theorem yk4124_1m : all4 4 1 2 4 1 (-1) = true := by decide +kernel
theorem yk4221_0z : all4 4 2 2 1 0 (0) = true := by decide +kernel
theorem yk4221_0p : all4 4 2 2 1 0 (1) = true := by decide +kernel
theorem yk4221_0m : all4 4 2 2 1 0 (-1) = true := by decide +kernel
theorem yk4221_1z : all4 4 2 2 1 1 (0) = true := by decide +kernel
theorem yk4221_1p : all4 4 2 2 1 1 (1) = true := by decide +kernel
theorem yk4221_1m : all4 4 2 2 1 1 (-1) = true := by decide +kernel
theorem yk4412_0z : all4 4 4 1 2 0 (0) = true := by decide +kernel
theorem yk4412_0p : all4 4 4 1 2 0 (1) = true := by decide +kernel
theorem yk4412_0m : all4 4 4 1 2 0 (-1) = true := by decide +kernel
theorem yk4412_1z : all4 4 4 1 2 1 (0) = true := by decide +kernel
theorem yk4412_1p : all4 4 4 1 2 1 (1) = true := by decide +kernel
theorem yk4412_1m : all4 4 4 1 2 1 (-1) = true := by decide +kernel
theorem yk4444_0z : all4 4 4 4 4 0 (0) = true := by decide +kernel
theorem yk4444_0p : all4 4 4 4 4 0 (1) = true := by decide +kernel
theorem yk4444_0m : all4 4 4 4 4 0 (-1) = true := by decide +kernel
theorem yk4444_1z : all4 4 4 4 4 1 (0) = true := by decide +kernel
theorem yk4444_1p : all4 4 4 4 4 1 (1) = true := by decide +kernel
theorem yk4444_1m : all4 4 4 4 4 1 (-1) = true := by decide +kernel
end Bw
set_option Elab.async false
set_option linter.all false
set_option maxRecDepth 100000
set_option maxHeartbeats 0
namespace Bw
theorem yk1122_0z : all4 1 1 2 2 0 (0) = true := by decide +kernel
theorem yk1122_0p : all4 1 1 2 2 0 (1) = true := by decide +kernel
theorem yk1122_0m : all4 1 1 2 2 0 (-1) = true := by decide +kernel
theorem yk1122_1z : all4 1 1 2 2 1 (0) = true := by decide +kernel
theorem yk1122_1p : all4 1 1 2 2 1 (1) = true := by decide +kernel
theorem yk1122_1m : all4 1 1 2 2 1 (-1) = true := by decide +kernel
theorem yk1211_0z : all4 1 2 1 1 0 (0) = true := by decide +kernel
theorem yk1211_0p : all4 1 2 1 1 0 (1) = true := by decide +kernel
theorem yk1211_0m : all4 1 2 1 1 0 (-1) = true := by decide +kernel
theorem yk1211_1z : all4 1 2 1 1 1 (0) = true := by decide +kernel
theorem yk1211_1p : all4 1 2 1 1 1 (1) = true := by decide +kernel
theorem yk1211_1m : all4 1 2 1 1 1 (-1) = true := by decide +kernel
theorem yk1242_0z : all4 1 2 4 2 0 (0) = true := by decide +kernel
theorem yk1242_0p : all4 1 2 4 2 0 (1) = true := by decide +kernel
theorem yk1242_0m : all4 1 2 4 2 0 (-1) = true := by decide +kernel
theorem yk1242_1z : all4 1 2 4 2 1 (0) = true := by decide +kernel
theorem yk1242_1p : all4 1 2 4 2 1 (1) = true := by decide +kernel
theorem yk1242_1m : all4 1 2 4 2 1 (-1) = true := by decide +kernel
theorem yk1412_0z : all4 1 4 1 2 0 (0) = true := by decide +kernel
theorem yk1412_0p : all4 1 4 1 2 0 (1) = true := by decide +kernel
theorem yk1412_0m : all4 1 4 1 2 0 (-1) = true := by decide +kernel
theorem yk1412_1z : all4 1 4 1 2 1 (0) = true := by decide +kernel
theorem yk1412_1p : all4 1 4 1 2 1 (1) = true := by decide +kernel
theorem yk1412_1m : all4 1 4 1 2 1 (-1) = true := by decide +kernel
theorem yk1444_0z : all4 1 4 4 4 0 (0) = true := by decide +kernel
theorem yk1444_0p : all4 1 4 4 4 0 (1) = true := by decide +kernel
theorem yk1444_0m : all4 1 4 4 4 0 (-1) = true := by decide +kernel
theorem yk1444_1z : all4 1 4 4 4 1 (0) = true := by decide +kernel
theorem yk1444_1p : all4 1 4 4 4 1 (1) = true := by decide +kernel
theorem yk1444_1m : all4 1 4 4 4 1 (-1) = true := by decide +kernel
theorem yk2141_0z : all4 2 1 4 1 0 (0) = true := by decide +kernel
theorem yk2141_0p : all4 2 1 4 1 0 (1) = true := by decide +kernel
theorem yk2141_0m : all4 2 1 4 1 0 (-1) = true := by decide +kernel
theorem yk2141_1z : all4 2 1 4 1 1 (0) = true := by decide +kernel
theorem yk2141_1p : all4 2 1 4 1 1 (1) = true := by decide +kernel
theorem yk2141_1m : all4 2 1 4 1 1 (-1) = true := by decide +kernel
theorem yk2222_0z : all4 2 2 2 2 0 (0) = true := by decide +kernel
theorem yk2222_0p : all4 2 2 2 2 0 (1) = true := by decide +kernel
theorem yk2222_0m : all4 2 2 2 2 0 (-1) = true := by decide +kernel
theorem yk2222_1z : all4 2 2 2 2 1 (0) = true := by decide +kernel
theorem yk2222_1p : all4 2 2 2 2 1 (1) = true := by decide +kernel
theorem yk2222_1m : all4 2 2 2 2 1 (-1) = true := by decide +kernel
theorem yk2414_0z : all4 2 4 1 4 0 (0) = true := by decide +kernel
theorem yk2414_0p : all4 2 4 1 4 0 (1) = true := by decide +kernel
theorem yk2414_0m : all4 2 4 1 4 0 (-1) = true := by decide +kernel
theorem yk2414_1z : all4 2 4 1 4 1 (0) = true := by decide +kernel
theorem yk2414_1p : all4 2 4 1 4 1 (1) = true := by decide +kernel
theorem yk2414_1m : all4 2 4 1 4 1 (-1) = true := by decide +kernel
theorem yk3111_0z : all4 3 1 1 1 0 (0) = true := by decide +kernel
theorem yk3111_0p : all4 3 1 1 1 0 (1) = true := by decide +kernel
theorem yk3111_0m : all4 3 1 1 1 0 (-1) = true := by decide +kernel
theorem yk3111_1z : all4 3 1 1 1 1 (0) = true := by decide +kernel
theorem yk3111_1p : all4 3 1 1 1 1 (1) = true := by decide +kernel
theorem yk3111_1m : all4 3 1 1 1 1 (-1) = true := by decide +kernel
theorem yk3333_0z : all4 3 3 3 3 0 (0) = true := by decide +kernel
theorem yk3333_0p : all4 3 3 3 3 0 (1) = true := by decide +kernel
theorem yk3333_0m : all4 3 3 3 3 0 (-1) = true := by decide +kernel
theorem yk3333_1z : all4 3 3 3 3 1 (0) = true := by decide +kernel
theorem yk3333_1p : all4 3 3 3 3 1 (1) = true := by decide +kernel
theorem yk3333_1m : all4 3 3 3 3 1 (-1) = true := by decide +kernel
theorem yk4141_0z : all4 4 1 4 1 0 (0) = true := by decide +kernel
theorem yk4141_0p : all4 4 1 4 1 0 (1) = true := by decide +kernel
theorem yk4141_0m : all4 4 1 4 1 0 (-1) = true := by decide +kernel
theorem yk4141_1z : all4 4 1 4 1 1 (0) = true := by decide +kernel
theorem yk4141_1p : all4 4 1 4 1 1 (1) = true := by decide +kernel
theorem yk4141_1m : all4 4 1 4 1 1 (-1) = true := by decide +kernel
theorem yk4222_0z : all4 4 2 2 2 0 (0) = true := by decide +kernel
theorem yk4222_0p : all4 4 2 2 2 0 (1) = true := by decide +kernel
theorem yk4222_0m : all4 4 2 2 2 0 (-1) = true := by decide +kernel
theorem yk4222_1z : all4 4 2 2 2 1 (0) = true := by decide +kernel
theorem yk4222_1p : all4 4 2 2 2 1 (1) = true := by decide +kernel
theorem yk4222_1m : all4 4 2 2 2 1 (-1) = true := by decide +kernel
theorem yk4414_0z : all4 4 4 1 4 0 (0) = true := by decide +kernel
theorem yk4414_0p : all4 4 4 1 4 0 (1) = true := by decide +kernel
theorem yk4414_0m : all4 4 4 1 4 0 (-1) = true := by decide +kernel
theorem yk4414_1z : all4 4 4 1 4 1 (0) = true := by decide +kernel
theorem yk4414_1p : all4 4 4 1 4 1 (1) = true := by decide +kernel
theorem yk4414_1m : all4 4 4 1 4 1 (-1) = true := by decide +kernel
end Bw
set_option Elab.async false
set_option linter.all false
set_option maxRecDepth 100000
set_option maxHeartbeats 0
namespace Bw
theorem yk1124_0z : all4 1 1 2 4 0 (0) = true := by decide +kernel
theorem yk1124_0p : all4 1 1 2 4 0 (1) = true := by decide +kernel
theorem yk1124_0m : all4 1 1 2 4 0 (-1) = true := by decide +kernel
theorem yk1124_1z : all4 1 1 2 4 1 (0) = true := by decide +kernel
theorem yk1124_1p : all4 1 1 2 4 1 (1) = true := by decide +kernel
theorem yk1124_1m : all4 1 1 2 4 1 (-1) = true := by decide +kernel
theorem yk1212_0z : all4 1 2 1 2 0 (0) = true := by decide +kernel
theorem yk1212_0p : all4 1 2 1 2 0 (1) = true := by decide +kernel
theorem yk1212_0m : all4 1 2 1 2 0 (-1) = true := by decide +kernel
theorem yk1212_1z : all4 1 2 1 2 1 (0) = true := by decide +kernel
theorem yk1212_1p : all4 1 2 1 2 1 (1) = true := by decide +kernel
theorem yk1212_1m : all4 1 2 1 2 1 (-1) = true := by decide +kernel
theorem yk1244_0z : all4 1 2 4 4 0 (0) = true := by decide +kernel
theorem yk1244_0p : all4 1 2 4 4 0 (1) = true := by decide +kernel
theorem yk1244_0m : all4 1 2 4 4 0 (-1) = true := by decide +kernel
theorem yk1244_1z : all4 1 2 4 4 1 (0) = true := by decide +kernel
theorem yk1244_1p : all4 1 2 4 4 1 (1) = true := by decide +kernel
theorem yk1244_1m : all4 1 2 4 4 1 (-1) = true := by decide +kernel
theorem yk1414_0z : all4 1 4 1 4 0 (0) = true := by decide +kernel
theorem yk1414_0p : all4 1 4 1 4 0 (1) = true := by decide +kernel
theorem yk1414_0m : all4 1 4 1 4 0 (-1) = true := by decide +kernel
theorem yk1414_1z : all4 1 4 1 4 1 (0) = true := by decide +kernel
theorem yk1414_1p : all4 1 4 1 4 1 (1) = true := by decide +kernel
theorem yk1414_1m : all4 1 4 1 4 1 (-1) = true := by decide +kernel
theorem yk2111_0z : all4 2 1 1 1 0 (0) = true := by decide +kernel
theorem yk2111_0p : all4 2 1 1 1 0 (1) = true := by decide +kernel
theorem yk2111_0m : all4 2 1 1 1 0 (-1) = true := by decide +kernel
theorem yk2111_1z : all4 2 1 1 1 1 (0) = true := by decide +kernel
theorem yk2111_1p : all4 2 1 1 1 1 (1) = true := by decide +kernel
theorem yk2111_1m : all4 2 1 1 1 1 (-1) = true := by decide +kernel
theorem yk2142_0z : all4 2 1 4 2 0 (0) = true := by decide +kernel
theorem yk2142_0p : all4 2 1 4 2 0 (1) = true := by decide +kernel
theorem yk2142_0m : all4 2 1 4 2 0 (-1) = true := by decide +kernel
theorem yk2142_1z : all4 2 1 4 2 1 (0) = true := by decide +kernel
theorem yk2142_1p : all4 2 1 4 2 1 (1) = true := by decide +kernel
theorem yk2142_1m : all4 2 1 4 2 1 (-1) = true := by decide +kernel
theorem yk2224_0z : all4 2 2 2 4 0 (0) = true := by decide +kernel
theorem yk2224_0p : all4 2 2 2 4 0 (1) = true := by decide +kernel
theorem yk2224_0m : all4 2 2 2 4 0 (-1) = true := by decide +kernel
theorem yk2224_1z : all4 2 2 2 4 1 (0) = true := by decide +kernel
theorem yk2224_1p : all4 2 2 2 4 1 (1) = true := by decide +kernel
theorem yk2224_1m : all4 2 2 2 4 1 (-1) = true := by decide +kernel
theorem yk2421_0z : all4 2 4 2 1 0 (0) = true := by decide +kernel
theorem yk2421_0p : all4 2 4 2 1 0 (1) = true := by decide +kernel
theorem yk2421_0m : all4 2 4 2 1 0 (-1) = true := by decide +kernel
theorem yk2421_1z : all4 2 4 2 1 1 (0) = true := by decide +kernel
theorem yk2421_1p : all4 2 4 2 1 1 (1) = true := by decide +kernel
theorem yk2421_1m : all4 2 4 2 1 1 (-1) = true := by decide +kernel
theorem yk3113_0z : all4 3 1 1 3 0 (0) = true := by decide +kernel
theorem yk3113_0p : all4 3 1 1 3 0 (1) = true := by decide +kernel
theorem yk3113_0m : all4 3 1 1 3 0 (-1) = true := by decide +kernel
theorem yk3113_1z : all4 3 1 1 3 1 (0) = true := by decide +kernel
theorem yk3113_1p : all4 3 1 1 3 1 (1) = true := by decide +kernel
theorem yk3113_1m : all4 3 1 1 3 1 (-1) = true := by decide +kernel
theorem yk4111_0z : all4 4 1 1 1 0 (0) = true := by decide +kernel
theorem yk4111_0p : all4 4 1 1 1 0 (1) = true := by decide +kernel
theorem yk4111_0m : all4 4 1 1 1 0 (-1) = true := by decide +kernel
theorem yk4111_1z : all4 4 1 1 1 1 (0) = true := by decide +kernel
theorem yk4111_1p : all4 4 1 1 1 1 (1) = true := by decide +kernel
theorem yk4111_1m : all4 4 1 1 1 1 (-1) = true := by decide +kernel
theorem yk4142_0z : all4 4 1 4 2 0 (0) = true := by decide +kernel
theorem yk4142_0p : all4 4 1 4 2 0 (1) = true := by decide +kernel
theorem yk4142_0m : all4 4 1 4 2 0 (-1) = true := by decide +kernel
theorem yk4142_1z : all4 4 1 4 2 1 (0) = true := by decide +kernel
theorem yk4142_1p : all4 4 1 4 2 1 (1) = true := by decide +kernel
theorem yk4142_1m : all4 4 1 4 2 1 (-1) = true := by decide +kernel
theorem yk4224_0z : all4 4 2 2 4 0 (0) = true := by decide +kernel
theorem yk4224_0p : all4 4 2 2 4 0 (1) = true := by decide +kernel
theorem yk4224_0m : all4 4 2 2 4 0 (-1) = true := by decide +kernel
theorem yk4224_1z : all4 4 2 2 4 1 (0) = true := by decide +kernel
theorem yk4224_1p : all4 4 2 2 4 1 (1) = true := by decide +kernel
theorem yk4224_1m : all4 4 2 2 4 1 (-1) = true := by decide +kernel
theorem yk4421_0z : all4 4 4 2 1 0 (0) = true := by decide +kernel
theorem yk4421_0p : all4 4 4 2 1 0 (1) = true := by decide +kernel
theorem yk4421_0m : all4 4 4 2 1 0 (-1) = true := by decide +kernel
theorem yk4421_1z : all4 4 4 2 1 1 (0) = true := by decide +kernel
theorem yk4421_1p : all4 4 4 2 1 1 (1) = true := by decide +kernel
theorem yk4421_1m : all4 4 4 2 1 1 (-1) = true := by decide +kernel
end Bw
set_option Elab.async false
set_option linter.all false
set_option maxRecDepth 100000
set_option maxHeartbeats 0
namespace Bw
/-! ### fewer buds -/
def run3 (f : Nat) : Int → Int → Int → Int → Int → Int → Nat → Nat → Nat → Bool :=
  Nat.rec (motive := fun _ => Int → Int → Int → Int → Int → Int → Nat → Nat → Nat → Bool)
    (fun _ _ _ _ _ _ _ _ _ => true)
    (fun _ ih b01 b02 b10 b12 b20 b21 w0 w1 w2 =>
      (fun c12 c21 =>
        cond (fQ c12 && (fQ c21))
          ((fun s => cond (Nat.beq (Nat.mod s w0) 0)
              ((fun x => cond (Nat.ble g60 x) true (ih c12 (Int.neg b10) c21 (Int.neg b20) (Int.neg b01) (Int.neg b02) w1 w2 x)) (Nat.div s w0)) false)
            (Nat.add (sU b20 w2 (sU b10 w1 1)) (sV b20 w2 (sV b10 w1 1))))
          true)
        (gQ b12 b10 b02) (gQ b21 b20 b01)) f
theorem run3_succ (f : Nat) (b01 b02 b10 b12 b20 b21 : Int) (w0 w1 w2 : Nat) (h : run3 (f + 1) b01 b02 b10 b12 b20 b21 w0 w1 w2 = true)
    (fits : ∀ x ∈ ([b12 + gT b10 b02, b21 + gT b20 b01] : List Int), -50 ≤ x ∧ x ≤ 50) :
    let s := w1 ^ b10.toNat * w2 ^ b20.toNat + w1 ^ (-b10).toNat * w2 ^ (-b20).toNat
    w0 ∣ s ∧ (s / w0 < g60 → run3 f (b12 + gT b10 b02) (-b10) (b21 + gT b20 b01) (-b20) (-b01) (-b02) w1 w2 (s / w0) = true) := by
  have e : run3 (f + 1) b01 b02 b10 b12 b20 b21 w0 w1 w2 = cond (fQ (gQ b12 b10 b02) && (fQ (gQ b21 b20 b01)))
      (cond (Nat.beq (Nat.mod (Nat.add (sU b20 w2 (sU b10 w1 1)) (sV b20 w2 (sV b10 w1 1))) w0) 0)
        (cond (Nat.ble g60 (Nat.div (Nat.add (sU b20 w2 (sU b10 w1 1)) (sV b20 w2 (sV b10 w1 1))) w0)) true
          (run3 f (gQ b12 b10 b02) (Int.neg b10) (gQ b21 b20 b01) (Int.neg b20) (Int.neg b01) (Int.neg b02) w1 w2 (Nat.div (Nat.add (sU b20 w2 (sU b10 w1 1)) (sV b20 w2 (sV b10 w1 1))) w0))) false) true := rfl
  rw [e] at h
  simp only [gQ_eq, sU_eq, sV_eq, Nat.one_mul] at h
  simp only [List.mem_cons, List.not_mem_nil, or_false] at fits
  have g : ∀ x, (x = b12 + gT b10 b02 ∨ x = b21 + gT b20 b01) → fQ x = true := fun x hx => fQ_iff.mpr (fits x hx)
  rw [g _ (.inl rfl), g _ (.inr rfl)] at h
  intro s
  generalize hs : s = S
  have hS : Nat.add (w1 ^ b10.toNat * w2 ^ b20.toNat) (w1 ^ (-b10).toNat * w2 ^ (-b20).toNat) = S := hs
  rw [hS] at h
  have h : cond (Nat.beq (Nat.mod S w0) 0) (cond (Nat.ble g60 (Nat.div S w0)) true (run3 f (b12 + gT b10 b02) (-b10) (b21 + gT b20 b01) (-b20) (-b01) (-b02) w1 w2 (Nat.div S w0))) false = true := h
  cases hm : Nat.beq (Nat.mod S w0) 0 with
  | false => rw [hm] at h; cases h
  | true =>
    rw [hm] at h
    refine ⟨Nat.dvd_of_mod_eq_zero (Nat.eq_of_beq_eq_true hm), fun hl => ?_⟩
    have hb : Nat.ble g60 (Nat.div S w0) = false := by
      cases z : Nat.ble g60 (Nat.div S w0) with
      | false => rfl
      | true =>
        have z := Nat.le_of_ble_eq_true z
        have z : g60 ≤ S / w0 := z
        omega
    rw [hb] at h
    exact h
def at3 (f k : Nat) (B : Nat → Nat → Int) (w : Nat → Nat) : Bool := match k with
  | 0 => run3 f (B 0 1) (B 0 2) (B 1 0) (B 1 2) (B 2 0) (B 2 1) (w 0) (w 1) (w 2)
  | 1 => run3 f (B 1 2) (B 1 0) (B 2 1) (B 2 0) (B 0 1) (B 0 2) (w 1) (w 2) (w 0)
  | _ => run3 f (B 2 0) (B 2 1) (B 0 2) (B 0 1) (B 1 2) (B 1 0) (w 2) (w 0) (w 1)
theorem run3_ok : ∀ (f k : Nat) (B : Nat → Nat → Int) (w : Nat → Nat), k < 3 → at3 f k B w = true → Wh 3 f k B w
  | 0, _, _, _, _, _ => trivial
  | f + 1, k, B, w, hk, h => by
    refine fun hf => ?_
    match k, hk, h, hf with
    | 0, _, h, hf =>
      have R := run3_succ f (B 0 1) (B 0 2) (B 1 0) (B 1 2) (B 2 0) (B 2 1) (w 0) (w 1) (w 2) h (fun x hx => by
        simp only [List.mem_cons, List.not_mem_nil, or_false] at hx
        rcases hx with rfl | rfl
        · exact hf 1 2 (by decide) (by decide)
        · exact hf 2 1 (by decide) (by decide)
        )
      have es : sS 3 0 B w = w 1 ^ (B 1 0).toNat * w 2 ^ (B 2 0).toNat + w 1 ^ (-(B 1 0)).toNat * w 2 ^ (-(B 2 0)).toNat := by
        simp [sS, pr, Nat.mul_comm, Nat.mul_left_comm, Nat.mul_assoc]
      rw [es]
      refine ⟨R.1, fun hl => ?_⟩
      have R2 := R.2 hl
      exact run3_ok f 1 _ _ (by decide) R2
    | 1, _, h, hf =>
      have R := run3_succ f (B 1 2) (B 1 0) (B 2 1) (B 2 0) (B 0 1) (B 0 2) (w 1) (w 2) (w 0) h (fun x hx => by
        simp only [List.mem_cons, List.not_mem_nil, or_false] at hx
        rcases hx with rfl | rfl
        · exact hf 2 0 (by decide) (by decide)
        · exact hf 0 2 (by decide) (by decide)
        )
      have es : sS 3 1 B w = w 2 ^ (B 2 1).toNat * w 0 ^ (B 0 1).toNat + w 2 ^ (-(B 2 1)).toNat * w 0 ^ (-(B 0 1)).toNat := by
        simp [sS, pr, Nat.mul_comm, Nat.mul_left_comm, Nat.mul_assoc]
      rw [es]
      refine ⟨R.1, fun hl => ?_⟩
      have R2 := R.2 hl
      exact run3_ok f 2 _ _ (by decide) R2
    | 2, _, h, hf =>
      have R := run3_succ f (B 2 0) (B 2 1) (B 0 2) (B 0 1) (B 1 2) (B 1 0) (w 2) (w 0) (w 1) h (fun x hx => by
        simp only [List.mem_cons, List.not_mem_nil, or_false] at hx
        rcases hx with rfl | rfl
        · exact hf 0 1 (by decide) (by decide)
        · exact hf 1 0 (by decide) (by decide)
        )
      have es : sS 3 2 B w = w 0 ^ (B 0 2).toNat * w 1 ^ (B 1 2).toNat + w 0 ^ (-(B 0 2)).toNat * w 1 ^ (-(B 1 2)).toNat := by
        simp [sS, pr, Nat.mul_comm, Nat.mul_left_comm, Nat.mul_assoc]
      rw [es]
      refine ⟨R.1, fun hl => ?_⟩
      have R2 := R.2 hl
      exact run3_ok f 0 _ _ (by decide) R2
def run2 (f : Nat) : Int → Int → Nat → Nat → Bool :=
  Nat.rec (motive := fun _ => Int → Int → Nat → Nat → Bool)
    (fun _ _ _ _ => true)
    (fun _ ih b01 b10 w0 w1 =>
      cond (true)
          ((fun s => cond (Nat.beq (Nat.mod s w0) 0)
              ((fun x => cond (Nat.ble g60 x) true (ih (Int.neg b10) (Int.neg b01) w1 x)) (Nat.div s w0)) false)
            (Nat.add (sU b10 w1 1) (sV b10 w1 1)))
          true) f
theorem run2_succ (f : Nat) (b01 b10 : Int) (w0 w1 : Nat) (h : run2 (f + 1) b01 b10 w0 w1 = true)
    (fits : ∀ x ∈ ([] : List Int), -50 ≤ x ∧ x ≤ 50) :
    let s := w1 ^ b10.toNat + w1 ^ (-b10).toNat
    w0 ∣ s ∧ (s / w0 < g60 → run2 f (-b10) (-b01) w1 (s / w0) = true) := by
  have e : run2 (f + 1) b01 b10 w0 w1 = cond (true)
      (cond (Nat.beq (Nat.mod (Nat.add (sU b10 w1 1) (sV b10 w1 1)) w0) 0)
        (cond (Nat.ble g60 (Nat.div (Nat.add (sU b10 w1 1) (sV b10 w1 1)) w0)) true
          (run2 f (Int.neg b10) (Int.neg b01) w1 (Nat.div (Nat.add (sU b10 w1 1) (sV b10 w1 1)) w0))) false) true := rfl
  rw [e] at h
  simp only [gQ_eq, sU_eq, sV_eq, Nat.one_mul] at h
  intro s
  generalize hs : s = S
  have hS : Nat.add (w1 ^ b10.toNat) (w1 ^ (-b10).toNat) = S := hs
  rw [hS] at h
  have h : cond (Nat.beq (Nat.mod S w0) 0) (cond (Nat.ble g60 (Nat.div S w0)) true (run2 f (-b10) (-b01) w1 (Nat.div S w0))) false = true := h
  cases hm : Nat.beq (Nat.mod S w0) 0 with
  | false => rw [hm] at h; cases h
  | true =>
    rw [hm] at h
    refine ⟨Nat.dvd_of_mod_eq_zero (Nat.eq_of_beq_eq_true hm), fun hl => ?_⟩
    have hb : Nat.ble g60 (Nat.div S w0) = false := by
      cases z : Nat.ble g60 (Nat.div S w0) with
      | false => rfl
      | true =>
        have z := Nat.le_of_ble_eq_true z
        have z : g60 ≤ S / w0 := z
        omega
    rw [hb] at h
    exact h
def at2 (f k : Nat) (B : Nat → Nat → Int) (w : Nat → Nat) : Bool := match k with
  | 0 => run2 f (B 0 1) (B 1 0) (w 0) (w 1)
  | _ => run2 f (B 1 0) (B 0 1) (w 1) (w 0)
theorem run2_ok : ∀ (f k : Nat) (B : Nat → Nat → Int) (w : Nat → Nat), k < 2 → at2 f k B w = true → Wh 2 f k B w
  | 0, _, _, _, _, _ => trivial
  | f + 1, k, B, w, hk, h => by
    refine fun hf => ?_
    match k, hk, h, hf with
    | 0, _, h, hf =>
      have R := run2_succ f (B 0 1) (B 1 0) (w 0) (w 1) h (fun x hx => by
        simp only [List.mem_cons, List.not_mem_nil, or_false] at hx
        )
      have es : sS 2 0 B w = w 1 ^ (B 1 0).toNat + w 1 ^ (-(B 1 0)).toNat := by
        simp [sS, pr, Nat.mul_comm, Nat.mul_left_comm, Nat.mul_assoc]
      rw [es]
      refine ⟨R.1, fun hl => ?_⟩
      have R2 := R.2 hl
      exact run2_ok f 1 _ _ (by decide) R2
    | 1, _, h, hf =>
      have R := run2_succ f (B 1 0) (B 0 1) (w 1) (w 0) h (fun x hx => by
        simp only [List.mem_cons, List.not_mem_nil, or_false] at hx
        )
      have es : sS 2 1 B w = w 0 ^ (B 0 1).toNat + w 0 ^ (-(B 0 1)).toNat := by
        simp [sS, pr, Nat.mul_comm, Nat.mul_left_comm, Nat.mul_assoc]
      rw [es]
      refine ⟨R.1, fun hl => ?_⟩
      have R2 := R.2 hl
      exact run2_ok f 0 _ _ (by decide) R2
def run1 (f : Nat) : Nat → Bool :=
  Nat.rec (motive := fun _ => Nat → Bool)
    (fun _ => true)
    (fun _ ih  w0 =>
      cond (true)
          ((fun s => cond (Nat.beq (Nat.mod s w0) 0)
              ((fun x => cond (Nat.ble g60 x) true (ih   x)) (Nat.div s w0)) false)
            (Nat.add 1 1))
          true) f
theorem run1_succ (f : Nat)  (w0 : Nat) (h : run1 (f + 1)  w0 = true)
    (fits : ∀ x ∈ ([] : List Int), -50 ≤ x ∧ x ≤ 50) :
    let s := 1 + 1
    w0 ∣ s ∧ (s / w0 < g60 → run1 f   (s / w0) = true) := by
  have e : run1 (f + 1)  w0 = cond (true)
      (cond (Nat.beq (Nat.mod (Nat.add 1 1) w0) 0)
        (cond (Nat.ble g60 (Nat.div (Nat.add 1 1) w0)) true
          (run1 f   (Nat.div (Nat.add 1 1) w0))) false) true := rfl
  rw [e] at h
  intro s
  generalize hs : s = S
  have hS : Nat.add (1) (1) = S := hs
  rw [hS] at h
  have h : cond (Nat.beq (Nat.mod S w0) 0) (cond (Nat.ble g60 (Nat.div S w0)) true (run1 f   (Nat.div S w0))) false = true := h
  cases hm : Nat.beq (Nat.mod S w0) 0 with
  | false => rw [hm] at h; cases h
  | true =>
    rw [hm] at h
    refine ⟨Nat.dvd_of_mod_eq_zero (Nat.eq_of_beq_eq_true hm), fun hl => ?_⟩
    have hb : Nat.ble g60 (Nat.div S w0) = false := by
      cases z : Nat.ble g60 (Nat.div S w0) with
      | false => rfl
      | true =>
        have z := Nat.le_of_ble_eq_true z
        have z : g60 ≤ S / w0 := z
        omega
    rw [hb] at h
    exact h
def at1 (f k : Nat) (B : Nat → Nat → Int) (w : Nat → Nat) : Bool := match k with
  | _ => run1 f  (w 0)
theorem run1_ok : ∀ (f k : Nat) (B : Nat → Nat → Int) (w : Nat → Nat), k < 1 → at1 f k B w = true → Wh 1 f k B w
  | 0, _, _, _, _, _ => trivial
  | f + 1, k, B, w, hk, h => by
    refine fun hf => ?_
    match k, hk, h, hf with
    | 0, _, h, hf =>
      have R := run1_succ f  (w 0) h (fun x hx => by
        simp only [List.mem_cons, List.not_mem_nil, or_false] at hx
        )
      have es : sS 1 0 B w = 1 + 1 := by
        simp [sS, pr, Nat.mul_comm, Nat.mul_left_comm, Nat.mul_assoc]
      rw [es]
      refine ⟨R.1, fun hl => ?_⟩
      have R2 := R.2 hl
      exact run1_ok f 0 _ _ (by decide) R2
def chk3 (a b c : Nat) (t1 t2 t3 : Int) : Bool :=
  run3 18 (t1 * ↑(b / Nat.gcd a b)) (t2 * ↑(c / Nat.gcd a c)) (-(t1 * ↑(a / Nat.gcd a b))) (t3 * ↑(c / Nat.gcd b c)) (-(t2 * ↑(a / Nat.gcd a c))) (-(t3 * ↑(b / Nat.gcd b c))) 1 1 1
def chk2 (a b : Nat) (t1 : Int) : Bool := run2 12 (t1 * ↑(b / Nat.gcd a b)) (-(t1 * ↑(a / Nat.gcd a b))) 1 1
def l4 : List Nat := [1, 2, 4]
def l3 : List Nat := [1, 3]
def all3 (a b c : Nat) : Bool := e3 fun t1 => e3 fun t2 => e3 fun t3 => chk3 a b c t1 t2 t3
def all2 (a b : Nat) : Bool := e3 fun t1 => chk2 a b t1
theorem yj3a : (l4.all fun a => l4.all fun b => l4.all fun c => all3 a b c) = true := by decide +kernel
theorem yj3b : (l3.all fun a => l3.all fun b => l3.all fun c => all3 a b c) = true := by decide +kernel
theorem yj2a : (l4.all fun a => l4.all fun b => all2 a b) = true := by decide +kernel
theorem yj2b : (l3.all fun a => l3.all fun b => all2 a b) = true := by decide +kernel
theorem yj1 : run1 6 1 = true := by decide +kernel
end Bw
set_option Elab.async false
set_option linter.all false
set_option maxRecDepth 100000
set_option maxHeartbeats 0
namespace Bw
/-! ### a table and its negative -/
theorem gT_neg (x y : Int) : gT (-x) (-y) = -(gT x y) := by
  unfold gT
  by_cases h1 : 0 < x ∧ 0 < y
  · rw [if_pos h1, if_neg (by omega), if_pos (by omega), Int.neg_mul_neg]
  · rw [if_neg h1]
    by_cases h2 : x < 0 ∧ y < 0
    · rw [if_pos h2, if_pos (by omega), Int.neg_mul_neg]
      omega
    · rw [if_neg h2, if_neg (by omega), if_neg (by omega)]
      rfl
def negB (B : Nat → Nat → Int) : Nat → Nat → Int := fun i j => -(B i j)
theorem tE_neg (B : Nat → Nat → Int) (k : Nat) : tE (negB B) k = negB (tE B k) := by
  funext i j
  show (if i = k ∨ j = k then - -(B i j) else -(B i j) + gT (-(B i k)) (-(B k j))) = -(if i = k ∨ j = k then -(B i j) else B i j + gT (B i k) (B k j))
  by_cases h : i = k ∨ j = k
  · rw [if_pos h, if_pos h]
  · rw [if_neg h, if_neg h, gT_neg]
    omega
theorem sS_neg (n k : Nat) (B : Nat → Nat → Int) (w : Nat → Nat) : sS n k (negB B) w = sS n k B w := by
  unfold sS negB
  rw [Nat.add_comm]
  simp only [Int.neg_neg]
theorem Wh_neg {n : Nat} : ∀ {f k : Nat} {B : Nat → Nat → Int} {w : Nat → Nat}, Wh n f k B w → Wh n f k (negB B) w
  | 0, _, _, _, _ => trivial
  | f + 1, k, B, w, h => fun hf => by
    obtain ⟨h1, h2⟩ := h fun i j hi hj => by
      have := hf i j hi hj
      rw [tE_neg] at this
      have : -50 ≤ -(tE B k i j) ∧ -(tE B k i j) ≤ 50 := this
      omega
    rw [sS_neg, tE_neg]
    exact ⟨h1, fun hl => Wh_neg (h2 hl)⟩
/-- what is asked of ties is asked of the buds' alone -/
theorem tE_congr {n k : Nat} {B B' : Nat → Nat → Int} (hk : k < n) (h : ∀ i j, i < n → j < n → B i j = B' i j) : ∀ i j, i < n → j < n → tE B k i j = tE B' k i j := fun i j hi hj => by
  unfold tE
  rw [h i j hi hj, h i k hi hk, h k j hk hj]
theorem pr_congr {f g : Nat → Nat} : ∀ {n : Nat}, (∀ i, i < n → f i = g i) → pr f n = pr g n
  | 0, _ => rfl
  | n + 1, h => by
    show pr f n * f n = pr g n * g n
    rw [pr_congr fun i hi => h i (by omega), h n (by omega)]
theorem sS_congr {n k : Nat} {B B' : Nat → Nat → Int} {w w' : Nat → Nat} (hk : k < n) (h : ∀ i j, i < n → j < n → B i j = B' i j) (hw : ∀ i, i < n → w i = w' i) : sS n k B w = sS n k B' w' := by
  unfold sS
  rw [pr_congr (g := fun i => if i = k then 1 else w' i ^ (B' i k).toNat) fun i hi => by rw [h i k hi hk, hw i hi], pr_congr (f := fun i => if i = k then 1 else w i ^ (-(B i k)).toNat) (g := fun i => if i = k then 1 else w' i ^ (-(B' i k)).toNat) fun i hi => by rw [h i k hi hk, hw i hi]]
theorem Wh_congr {n : Nat} : ∀ {f k : Nat} {B B' : Nat → Nat → Int} {w w' : Nat → Nat}, k < n → (∀ i j, i < n → j < n → B i j = B' i j) → (∀ i, i < n → w i = w' i) → Wh n f k B w → Wh n f k B' w'
  | 0, _, _, _, _, _, _, _, _, _ => trivial
  | f + 1, k, B, B', w, w', hk, h, hw, H => fun hf => by
    have te := tE_congr hk h
    obtain ⟨h1, h2⟩ := H fun i j hi hj => by rw [te i j hi hj]; exact hf i j hi hj
    rw [← sS_congr hk h hw, ← hw k hk]
    refine ⟨h1, fun hl => Wh_congr (Nat.mod_lt _ (by omega)) te (fun i hi => ?_) (h2 hl)⟩
    unfold upW
    rw [hw i hi]
end Bw
set_option Elab.async false
set_option linter.all false
set_option maxRecDepth 100000
set_option maxHeartbeats 0
namespace Bw
/-! ### all drawn tables -/
theorem e3_all {f : Int → Bool} (h : e3 f = true) : ∀ t : Int, (t = 0 ∨ t = 1 ∨ t = -1) → f t = true := fun t ht => by
  unfold e3 at h
  rw [Bool.and_eq_true, Bool.and_eq_true] at h
  rcases ht with rfl | rfl | rfl
  · exact h.1
  · exact h.2.1
  · exact h.2.2
def Six (a b c d : Nat) : Prop := ∀ t1 t2 : Int, (t1 = 0 ∨ t1 = 1) → (t2 = 0 ∨ t2 = 1 ∨ t2 = -1) → all4 a b c d t1 t2 = true
theorem six_of {a b c d : Nat} (h : (all4 a b c d 0 (0) = true ∧ all4 a b c d 0 (1) = true ∧ all4 a b c d 0 (-1) = true) ∧ all4 a b c d 1 (0) = true ∧ all4 a b c d 1 (1) = true ∧ all4 a b c d 1 (-1) = true) : Six a b c d := fun t1 t2 h1 h2 => by
  rcases h1 with rfl | rfl <;> rcases h2 with rfl | rfl | rfl
  · exact h.1.1
  · exact h.1.2.1
  · exact h.1.2.2
  · exact h.2.1
  · exact h.2.2.1
  · exact h.2.2.2
theorem sixa_1_1 (c d : Nat) (hc : c = 1 ∨ c = 2 ∨ c = 4) (hd : d = 1 ∨ d = 2 ∨ d = 4) : Six 1 1 c d := by
  rcases hc with rfl | rfl | rfl <;> rcases hd with rfl | rfl | rfl
  · exact six_of ⟨⟨yk1111_0z, yk1111_0p, yk1111_0m⟩, yk1111_1z, yk1111_1p, yk1111_1m⟩
  · exact six_of ⟨⟨yk1112_0z, yk1112_0p, yk1112_0m⟩, yk1112_1z, yk1112_1p, yk1112_1m⟩
  · exact six_of ⟨⟨yk1114_0z, yk1114_0p, yk1114_0m⟩, yk1114_1z, yk1114_1p, yk1114_1m⟩
  · exact six_of ⟨⟨yk1121_0z, yk1121_0p, yk1121_0m⟩, yk1121_1z, yk1121_1p, yk1121_1m⟩
  · exact six_of ⟨⟨yk1122_0z, yk1122_0p, yk1122_0m⟩, yk1122_1z, yk1122_1p, yk1122_1m⟩
  · exact six_of ⟨⟨yk1124_0z, yk1124_0p, yk1124_0m⟩, yk1124_1z, yk1124_1p, yk1124_1m⟩
  · exact six_of ⟨⟨yk1141_0z, yk1141_0p, yk1141_0m⟩, yk1141_1z, yk1141_1p, yk1141_1m⟩
  · exact six_of ⟨⟨yk1142_0z, yk1142_0p, yk1142_0m⟩, yk1142_1z, yk1142_1p, yk1142_1m⟩
  · exact six_of ⟨⟨yk1144_0z, yk1144_0p, yk1144_0m⟩, yk1144_1z, yk1144_1p, yk1144_1m⟩
theorem sixa_1_2 (c d : Nat) (hc : c = 1 ∨ c = 2 ∨ c = 4) (hd : d = 1 ∨ d = 2 ∨ d = 4) : Six 1 2 c d := by
  rcases hc with rfl | rfl | rfl <;> rcases hd with rfl | rfl | rfl
  · exact six_of ⟨⟨yk1211_0z, yk1211_0p, yk1211_0m⟩, yk1211_1z, yk1211_1p, yk1211_1m⟩
  · exact six_of ⟨⟨yk1212_0z, yk1212_0p, yk1212_0m⟩, yk1212_1z, yk1212_1p, yk1212_1m⟩
  · exact six_of ⟨⟨yk1214_0z, yk1214_0p, yk1214_0m⟩, yk1214_1z, yk1214_1p, yk1214_1m⟩
  · exact six_of ⟨⟨yk1221_0z, yk1221_0p, yk1221_0m⟩, yk1221_1z, yk1221_1p, yk1221_1m⟩
  · exact six_of ⟨⟨yk1222_0z, yk1222_0p, yk1222_0m⟩, yk1222_1z, yk1222_1p, yk1222_1m⟩
  · exact six_of ⟨⟨yk1224_0z, yk1224_0p, yk1224_0m⟩, yk1224_1z, yk1224_1p, yk1224_1m⟩
  · exact six_of ⟨⟨yk1241_0z, yk1241_0p, yk1241_0m⟩, yk1241_1z, yk1241_1p, yk1241_1m⟩
  · exact six_of ⟨⟨yk1242_0z, yk1242_0p, yk1242_0m⟩, yk1242_1z, yk1242_1p, yk1242_1m⟩
  · exact six_of ⟨⟨yk1244_0z, yk1244_0p, yk1244_0m⟩, yk1244_1z, yk1244_1p, yk1244_1m⟩
theorem sixa_1_4 (c d : Nat) (hc : c = 1 ∨ c = 2 ∨ c = 4) (hd : d = 1 ∨ d = 2 ∨ d = 4) : Six 1 4 c d := by
  rcases hc with rfl | rfl | rfl <;> rcases hd with rfl | rfl | rfl
  · exact six_of ⟨⟨yk1411_0z, yk1411_0p, yk1411_0m⟩, yk1411_1z, yk1411_1p, yk1411_1m⟩
  · exact six_of ⟨⟨yk1412_0z, yk1412_0p, yk1412_0m⟩, yk1412_1z, yk1412_1p, yk1412_1m⟩
  · exact six_of ⟨⟨yk1414_0z, yk1414_0p, yk1414_0m⟩, yk1414_1z, yk1414_1p, yk1414_1m⟩
  · exact six_of ⟨⟨yk1421_0z, yk1421_0p, yk1421_0m⟩, yk1421_1z, yk1421_1p, yk1421_1m⟩
  · exact six_of ⟨⟨yk1422_0z, yk1422_0p, yk1422_0m⟩, yk1422_1z, yk1422_1p, yk1422_1m⟩
  · exact six_of ⟨⟨yk1424_0z, yk1424_0p, yk1424_0m⟩, yk1424_1z, yk1424_1p, yk1424_1m⟩
  · exact six_of ⟨⟨yk1441_0z, yk1441_0p, yk1441_0m⟩, yk1441_1z, yk1441_1p, yk1441_1m⟩
  · exact six_of ⟨⟨yk1442_0z, yk1442_0p, yk1442_0m⟩, yk1442_1z, yk1442_1p, yk1442_1m⟩
  · exact six_of ⟨⟨yk1444_0z, yk1444_0p, yk1444_0m⟩, yk1444_1z, yk1444_1p, yk1444_1m⟩
theorem sixa_2_1 (c d : Nat) (hc : c = 1 ∨ c = 2 ∨ c = 4) (hd : d = 1 ∨ d = 2 ∨ d = 4) : Six 2 1 c d := by
  rcases hc with rfl | rfl | rfl <;> rcases hd with rfl | rfl | rfl
  · exact six_of ⟨⟨yk2111_0z, yk2111_0p, yk2111_0m⟩, yk2111_1z, yk2111_1p, yk2111_1m⟩
  · exact six_of ⟨⟨yk2112_0z, yk2112_0p, yk2112_0m⟩, yk2112_1z, yk2112_1p, yk2112_1m⟩
  · exact six_of ⟨⟨yk2114_0z, yk2114_0p, yk2114_0m⟩, yk2114_1z, yk2114_1p, yk2114_1m⟩
  · exact six_of ⟨⟨yk2121_0z, yk2121_0p, yk2121_0m⟩, yk2121_1z, yk2121_1p, yk2121_1m⟩
  · exact six_of ⟨⟨yk2122_0z, yk2122_0p, yk2122_0m⟩, yk2122_1z, yk2122_1p, yk2122_1m⟩
  · exact six_of ⟨⟨yk2124_0z, yk2124_0p, yk2124_0m⟩, yk2124_1z, yk2124_1p, yk2124_1m⟩
  · exact six_of ⟨⟨yk2141_0z, yk2141_0p, yk2141_0m⟩, yk2141_1z, yk2141_1p, yk2141_1m⟩
  · exact six_of ⟨⟨yk2142_0z, yk2142_0p, yk2142_0m⟩, yk2142_1z, yk2142_1p, yk2142_1m⟩
  · exact six_of ⟨⟨yk2144_0z, yk2144_0p, yk2144_0m⟩, yk2144_1z, yk2144_1p, yk2144_1m⟩
theorem sixa_2_2 (c d : Nat) (hc : c = 1 ∨ c = 2 ∨ c = 4) (hd : d = 1 ∨ d = 2 ∨ d = 4) : Six 2 2 c d := by
  rcases hc with rfl | rfl | rfl <;> rcases hd with rfl | rfl | rfl
  · exact six_of ⟨⟨yk2211_0z, yk2211_0p, yk2211_0m⟩, yk2211_1z, yk2211_1p, yk2211_1m⟩
  · exact six_of ⟨⟨yk2212_0z, yk2212_0p, yk2212_0m⟩, yk2212_1z, yk2212_1p, yk2212_1m⟩
  · exact six_of ⟨⟨yk2214_0z, yk2214_0p, yk2214_0m⟩, yk2214_1z, yk2214_1p, yk2214_1m⟩
  · exact six_of ⟨⟨yk2221_0z, yk2221_0p, yk2221_0m⟩, yk2221_1z, yk2221_1p, yk2221_1m⟩
  · exact six_of ⟨⟨yk2222_0z, yk2222_0p, yk2222_0m⟩, yk2222_1z, yk2222_1p, yk2222_1m⟩
  · exact six_of ⟨⟨yk2224_0z, yk2224_0p, yk2224_0m⟩, yk2224_1z, yk2224_1p, yk2224_1m⟩
  · exact six_of ⟨⟨yk2241_0z, yk2241_0p, yk2241_0m⟩, yk2241_1z, yk2241_1p, yk2241_1m⟩
  · exact six_of ⟨⟨yk2242_0z, yk2242_0p, yk2242_0m⟩, yk2242_1z, yk2242_1p, yk2242_1m⟩
  · exact six_of ⟨⟨yk2244_0z, yk2244_0p, yk2244_0m⟩, yk2244_1z, yk2244_1p, yk2244_1m⟩
theorem sixa_2_4 (c d : Nat) (hc : c = 1 ∨ c = 2 ∨ c = 4) (hd : d = 1 ∨ d = 2 ∨ d = 4) : Six 2 4 c d := by
  rcases hc with rfl | rfl | rfl <;> rcases hd with rfl | rfl | rfl
  · exact six_of ⟨⟨yk2411_0z, yk2411_0p, yk2411_0m⟩, yk2411_1z, yk2411_1p, yk2411_1m⟩
  · exact six_of ⟨⟨yk2412_0z, yk2412_0p, yk2412_0m⟩, yk2412_1z, yk2412_1p, yk2412_1m⟩
  · exact six_of ⟨⟨yk2414_0z, yk2414_0p, yk2414_0m⟩, yk2414_1z, yk2414_1p, yk2414_1m⟩
  · exact six_of ⟨⟨yk2421_0z, yk2421_0p, yk2421_0m⟩, yk2421_1z, yk2421_1p, yk2421_1m⟩
  · exact six_of ⟨⟨yk2422_0z, yk2422_0p, yk2422_0m⟩, yk2422_1z, yk2422_1p, yk2422_1m⟩
  · exact six_of ⟨⟨yk2424_0z, yk2424_0p, yk2424_0m⟩, yk2424_1z, yk2424_1p, yk2424_1m⟩
  · exact six_of ⟨⟨yk2441_0z, yk2441_0p, yk2441_0m⟩, yk2441_1z, yk2441_1p, yk2441_1m⟩
  · exact six_of ⟨⟨yk2442_0z, yk2442_0p, yk2442_0m⟩, yk2442_1z, yk2442_1p, yk2442_1m⟩
  · exact six_of ⟨⟨yk2444_0z, yk2444_0p, yk2444_0m⟩, yk2444_1z, yk2444_1p, yk2444_1m⟩
theorem sixa_4_1 (c d : Nat) (hc : c = 1 ∨ c = 2 ∨ c = 4) (hd : d = 1 ∨ d = 2 ∨ d = 4) : Six 4 1 c d := by
  rcases hc with rfl | rfl | rfl <;> rcases hd with rfl | rfl | rfl
  · exact six_of ⟨⟨yk4111_0z, yk4111_0p, yk4111_0m⟩, yk4111_1z, yk4111_1p, yk4111_1m⟩
  · exact six_of ⟨⟨yk4112_0z, yk4112_0p, yk4112_0m⟩, yk4112_1z, yk4112_1p, yk4112_1m⟩
  · exact six_of ⟨⟨yk4114_0z, yk4114_0p, yk4114_0m⟩, yk4114_1z, yk4114_1p, yk4114_1m⟩
  · exact six_of ⟨⟨yk4121_0z, yk4121_0p, yk4121_0m⟩, yk4121_1z, yk4121_1p, yk4121_1m⟩
  · exact six_of ⟨⟨yk4122_0z, yk4122_0p, yk4122_0m⟩, yk4122_1z, yk4122_1p, yk4122_1m⟩
  · exact six_of ⟨⟨yk4124_0z, yk4124_0p, yk4124_0m⟩, yk4124_1z, yk4124_1p, yk4124_1m⟩
  · exact six_of ⟨⟨yk4141_0z, yk4141_0p, yk4141_0m⟩, yk4141_1z, yk4141_1p, yk4141_1m⟩
  · exact six_of ⟨⟨yk4142_0z, yk4142_0p, yk4142_0m⟩, yk4142_1z, yk4142_1p, yk4142_1m⟩
  · exact six_of ⟨⟨yk4144_0z, yk4144_0p, yk4144_0m⟩, yk4144_1z, yk4144_1p, yk4144_1m⟩
theorem sixa_4_2 (c d : Nat) (hc : c = 1 ∨ c = 2 ∨ c = 4) (hd : d = 1 ∨ d = 2 ∨ d = 4) : Six 4 2 c d := by
  rcases hc with rfl | rfl | rfl <;> rcases hd with rfl | rfl | rfl
  · exact six_of ⟨⟨yk4211_0z, yk4211_0p, yk4211_0m⟩, yk4211_1z, yk4211_1p, yk4211_1m⟩
  · exact six_of ⟨⟨yk4212_0z, yk4212_0p, yk4212_0m⟩, yk4212_1z, yk4212_1p, yk4212_1m⟩
  · exact six_of ⟨⟨yk4214_0z, yk4214_0p, yk4214_0m⟩, yk4214_1z, yk4214_1p, yk4214_1m⟩
  · exact six_of ⟨⟨yk4221_0z, yk4221_0p, yk4221_0m⟩, yk4221_1z, yk4221_1p, yk4221_1m⟩
  · exact six_of ⟨⟨yk4222_0z, yk4222_0p, yk4222_0m⟩, yk4222_1z, yk4222_1p, yk4222_1m⟩
  · exact six_of ⟨⟨yk4224_0z, yk4224_0p, yk4224_0m⟩, yk4224_1z, yk4224_1p, yk4224_1m⟩
  · exact six_of ⟨⟨yk4241_0z, yk4241_0p, yk4241_0m⟩, yk4241_1z, yk4241_1p, yk4241_1m⟩
  · exact six_of ⟨⟨yk4242_0z, yk4242_0p, yk4242_0m⟩, yk4242_1z, yk4242_1p, yk4242_1m⟩
  · exact six_of ⟨⟨yk4244_0z, yk4244_0p, yk4244_0m⟩, yk4244_1z, yk4244_1p, yk4244_1m⟩
theorem sixa_4_4 (c d : Nat) (hc : c = 1 ∨ c = 2 ∨ c = 4) (hd : d = 1 ∨ d = 2 ∨ d = 4) : Six 4 4 c d := by
  rcases hc with rfl | rfl | rfl <;> rcases hd with rfl | rfl | rfl
  · exact six_of ⟨⟨yk4411_0z, yk4411_0p, yk4411_0m⟩, yk4411_1z, yk4411_1p, yk4411_1m⟩
  · exact six_of ⟨⟨yk4412_0z, yk4412_0p, yk4412_0m⟩, yk4412_1z, yk4412_1p, yk4412_1m⟩
  · exact six_of ⟨⟨yk4414_0z, yk4414_0p, yk4414_0m⟩, yk4414_1z, yk4414_1p, yk4414_1m⟩
  · exact six_of ⟨⟨yk4421_0z, yk4421_0p, yk4421_0m⟩, yk4421_1z, yk4421_1p, yk4421_1m⟩
  · exact six_of ⟨⟨yk4422_0z, yk4422_0p, yk4422_0m⟩, yk4422_1z, yk4422_1p, yk4422_1m⟩
  · exact six_of ⟨⟨yk4424_0z, yk4424_0p, yk4424_0m⟩, yk4424_1z, yk4424_1p, yk4424_1m⟩
  · exact six_of ⟨⟨yk4441_0z, yk4441_0p, yk4441_0m⟩, yk4441_1z, yk4441_1p, yk4441_1m⟩
  · exact six_of ⟨⟨yk4442_0z, yk4442_0p, yk4442_0m⟩, yk4442_1z, yk4442_1p, yk4442_1m⟩
  · exact six_of ⟨⟨yk4444_0z, yk4444_0p, yk4444_0m⟩, yk4444_1z, yk4444_1p, yk4444_1m⟩
theorem sixb_1_1 (c d : Nat) (hc : c = 1 ∨ c = 3) (hd : d = 1 ∨ d = 3) : Six 1 1 c d := by
  rcases hc with rfl | rfl <;> rcases hd with rfl | rfl
  · exact six_of ⟨⟨yk1111_0z, yk1111_0p, yk1111_0m⟩, yk1111_1z, yk1111_1p, yk1111_1m⟩
  · exact six_of ⟨⟨yk1113_0z, yk1113_0p, yk1113_0m⟩, yk1113_1z, yk1113_1p, yk1113_1m⟩
  · exact six_of ⟨⟨yk1131_0z, yk1131_0p, yk1131_0m⟩, yk1131_1z, yk1131_1p, yk1131_1m⟩
  · exact six_of ⟨⟨yk1133_0z, yk1133_0p, yk1133_0m⟩, yk1133_1z, yk1133_1p, yk1133_1m⟩
theorem sixb_1_3 (c d : Nat) (hc : c = 1 ∨ c = 3) (hd : d = 1 ∨ d = 3) : Six 1 3 c d := by
  rcases hc with rfl | rfl <;> rcases hd with rfl | rfl
  · exact six_of ⟨⟨yk1311_0z, yk1311_0p, yk1311_0m⟩, yk1311_1z, yk1311_1p, yk1311_1m⟩
  · exact six_of ⟨⟨yk1313_0z, yk1313_0p, yk1313_0m⟩, yk1313_1z, yk1313_1p, yk1313_1m⟩
  · exact six_of ⟨⟨yk1331_0z, yk1331_0p, yk1331_0m⟩, yk1331_1z, yk1331_1p, yk1331_1m⟩
  · exact six_of ⟨⟨yk1333_0z, yk1333_0p, yk1333_0m⟩, yk1333_1z, yk1333_1p, yk1333_1m⟩
theorem sixb_3_1 (c d : Nat) (hc : c = 1 ∨ c = 3) (hd : d = 1 ∨ d = 3) : Six 3 1 c d := by
  rcases hc with rfl | rfl <;> rcases hd with rfl | rfl
  · exact six_of ⟨⟨yk3111_0z, yk3111_0p, yk3111_0m⟩, yk3111_1z, yk3111_1p, yk3111_1m⟩
  · exact six_of ⟨⟨yk3113_0z, yk3113_0p, yk3113_0m⟩, yk3113_1z, yk3113_1p, yk3113_1m⟩
  · exact six_of ⟨⟨yk3131_0z, yk3131_0p, yk3131_0m⟩, yk3131_1z, yk3131_1p, yk3131_1m⟩
  · exact six_of ⟨⟨yk3133_0z, yk3133_0p, yk3133_0m⟩, yk3133_1z, yk3133_1p, yk3133_1m⟩
theorem sixb_3_3 (c d : Nat) (hc : c = 1 ∨ c = 3) (hd : d = 1 ∨ d = 3) : Six 3 3 c d := by
  rcases hc with rfl | rfl <;> rcases hd with rfl | rfl
  · exact six_of ⟨⟨yk3311_0z, yk3311_0p, yk3311_0m⟩, yk3311_1z, yk3311_1p, yk3311_1m⟩
  · exact six_of ⟨⟨yk3313_0z, yk3313_0p, yk3313_0m⟩, yk3313_1z, yk3313_1p, yk3313_1m⟩
  · exact six_of ⟨⟨yk3331_0z, yk3331_0p, yk3331_0m⟩, yk3331_1z, yk3331_1p, yk3331_1m⟩
  · exact six_of ⟨⟨yk3333_0z, yk3333_0p, yk3333_0m⟩, yk3333_1z, yk3333_1p, yk3333_1m⟩
theorem sixa (a b c d : Nat) (ha : a = 1 ∨ a = 2 ∨ a = 4) (hb : b = 1 ∨ b = 2 ∨ b = 4) (hc : c = 1 ∨ c = 2 ∨ c = 4) (hd : d = 1 ∨ d = 2 ∨ d = 4) : Six a b c d := by
  rcases ha with rfl | rfl | rfl <;> rcases hb with rfl | rfl | rfl
  · exact sixa_1_1 c d hc hd
  · exact sixa_1_2 c d hc hd
  · exact sixa_1_4 c d hc hd
  · exact sixa_2_1 c d hc hd
  · exact sixa_2_2 c d hc hd
  · exact sixa_2_4 c d hc hd
  · exact sixa_4_1 c d hc hd
  · exact sixa_4_2 c d hc hd
  · exact sixa_4_4 c d hc hd
theorem sixb (a b c d : Nat) (ha : a = 1 ∨ a = 3) (hb : b = 1 ∨ b = 3) (hc : c = 1 ∨ c = 3) (hd : d = 1 ∨ d = 3) : Six a b c d := by
  rcases ha with rfl | rfl <;> rcases hb with rfl | rfl
  · exact sixb_1_1 c d hc hd
  · exact sixb_1_3 c d hc hd
  · exact sixb_3_1 c d hc hd
  · exact sixb_3_3 c d hc hd
/-- the ties that are drawn: the loads ls, the signs t -/
def tieF (ls : Nat → Nat) (t : Nat → Nat → Int) (i j : Nat) : Int := if i < j then t i j * ↑(ls j / Nat.gcd (ls i) (ls j)) else if j < i then -(t j i * ↑(ls j / Nat.gcd (ls j) (ls i))) else 0
def Sgn (x : Int) : Prop := x = 0 ∨ x = 1 ∨ x = -1
def L124 (x : Nat) : Prop := x = 1 ∨ x = 2 ∨ x = 4
def L13 (x : Nat) : Prop := x = 1 ∨ x = 3
def Lds (n : Nat) (ls : Nat → Nat) : Prop := (∀ i, i < n → L124 (ls i)) ∨ ∀ i, i < n → L13 (ls i)
theorem tieF_neg (ls : Nat → Nat) (t : Nat → Nat → Int) : tieF ls (fun i j => -(t i j)) = negB (tieF ls t) := by
  funext i j
  show (if i < j then -(t i j) * ↑(ls j / Nat.gcd (ls i) (ls j)) else if j < i then -(-(t j i) * ↑(ls j / Nat.gcd (ls j) (ls i))) else 0) = -(if i < j then t i j * ↑(ls j / Nat.gcd (ls i) (ls j)) else if j < i then -(t j i * ↑(ls j / Nat.gcd (ls j) (ls i))) else (0 : Int))
  by_cases h : i < j
  · rw [if_pos h, if_pos h, Int.neg_mul]
  · rw [if_neg h, if_neg h]
    by_cases k : j < i
    · rw [if_pos k, if_pos k, Int.neg_mul]
    · rw [if_neg k, if_neg k]
      rfl
theorem six_lds {ls : Nat → Nat} (h : Lds 4 ls) : Six (ls 0) (ls 1) (ls 2) (ls 3) := by
  rcases h with h | h
  · exact sixa _ _ _ _ (h 0 (by decide)) (h 1 (by decide)) (h 2 (by decide)) (h 3 (by decide))
  · exact sixb _ _ _ _ (h 0 (by decide)) (h 1 (by decide)) (h 2 (by decide)) (h 3 (by decide))
theorem wh4_pos {ls : Nat → Nat} {t : Nat → Nat → Int} (h : Lds 4 ls) (ht : ∀ i j, Sgn (t i j)) (h1 : t 0 1 = 0 ∨ t 0 1 = 1) : Wh 4 24 0 (tieF ls t) fun _ => 1 := by
  refine run4_ok 24 0 _ _ (by decide) ?_
  have s := six_lds h (t 0 1) (t 0 2) h1 (ht 0 2)
  have s1 := e3_all s (t 0 3) (ht 0 3)
  have s2 := e3_all s1 (t 1 2) (ht 1 2)
  have s3 := e3_all s2 (t 1 3) (ht 1 3)
  exact e3_all s3 (t 2 3) (ht 2 3)
theorem wh4 {ls : Nat → Nat} {t : Nat → Nat → Int} (h : Lds 4 ls) (ht : ∀ i j, Sgn (t i j)) : Wh 4 24 0 (tieF ls t) fun _ => 1 := by
  rcases ht 0 1 with z | z | z
  · exact wh4_pos h ht (.inl z)
  · exact wh4_pos h ht (.inr z)
  · have k := wh4_pos (t := fun i j => -(t i j)) h (fun i j => by
      have := ht i j
      unfold Sgn at this ⊢
      omega) (.inr (by show -(t 0 1) = 1; omega))
    have k2 := Wh_neg k
    rw [← tieF_neg] at k2
    simp only [Int.neg_neg] at k2
    exact k2
theorem all_mem {l : List Nat} {f : Nat → Bool} (h : l.all f = true) {x : Nat} (hx : x ∈ l) : f x = true := List.all_eq_true.mp h x hx
theorem m124 {x : Nat} (h : L124 x) : x ∈ l4 := by
  unfold L124 at h
  unfold l4
  simp only [List.mem_cons, List.not_mem_nil, or_false]
  exact h
theorem m13 {x : Nat} (h : L13 x) : x ∈ l3 := by
  unfold L13 at h
  unfold l3
  simp only [List.mem_cons, List.not_mem_nil, or_false]
  exact h
theorem wh3 {ls : Nat → Nat} {t : Nat → Nat → Int} (h : Lds 3 ls) (ht : ∀ i j, Sgn (t i j)) : Wh 3 18 0 (tieF ls t) fun _ => 1 := by
  refine run3_ok 18 0 _ _ (by decide) ?_
  have s : all3 (ls 0) (ls 1) (ls 2) = true := by
    rcases h with h | h
    · exact all_mem (all_mem (all_mem yj3a (m124 (h 0 (by decide)))) (m124 (h 1 (by decide)))) (m124 (h 2 (by decide)))
    · exact all_mem (all_mem (all_mem yj3b (m13 (h 0 (by decide)))) (m13 (h 1 (by decide)))) (m13 (h 2 (by decide)))
  exact e3_all (e3_all (e3_all s (t 0 1) (ht 0 1)) (t 0 2) (ht 0 2)) (t 1 2) (ht 1 2)
theorem wh2 {ls : Nat → Nat} {t : Nat → Nat → Int} (h : Lds 2 ls) (ht : ∀ i j, Sgn (t i j)) : Wh 2 12 0 (tieF ls t) fun _ => 1 := by
  refine run2_ok 12 0 _ _ (by decide) ?_
  have s : all2 (ls 0) (ls 1) = true := by
    rcases h with h | h
    · exact all_mem (all_mem yj2a (m124 (h 0 (by decide)))) (m124 (h 1 (by decide)))
    · exact all_mem (all_mem yj2b (m13 (h 0 (by decide)))) (m13 (h 1 (by decide)))
  exact e3_all s (t 0 1) (ht 0 1)
theorem wh1 {ls : Nat → Nat} {t : Nat → Nat → Int} : Wh 1 6 0 (tieF ls t) fun _ => 1 := run1_ok 6 0 _ _ (by decide) yj1
theorem wh_all {n : Nat} {ls : Nat → Nat} {t : Nat → Nat → Int} (n1 : 1 ≤ n) (n4 : n ≤ 4) (h : Lds n ls) (ht : ∀ i j, Sgn (t i j)) : Wh n (6 * n) 0 (tieF ls t) fun _ => 1 := by
  match n, n1, n4, h with
  | 1, _, _, _ => exact wh1
  | 2, _, _, h => exact wh2 h ht
  | 3, _, _, h => exact wh3 h ht
  | 4, _, _, h => exact wh4 h ht
end Bw
set_option Elab.async false
set_option linter.all false
set_option maxRecDepth 100000
set_option maxHeartbeats 4000000
namespace Bw
open PySem PySem.Spec PyProof.Rows L2
theorem half_turn (x y : Int) : ((if x < 0 then -x else x) * y + x * (if y < 0 then -y else y)) / 2 = if 0 < x ∧ 0 < y then x * y else if x < 0 ∧ y < 0 then -(x * y) else 0 := by
  by_cases hx : x < 0
  · rw [if_pos hx]
    by_cases hy : y < 0
    · rw [if_pos hy, if_neg (by omega), if_pos ⟨hx, hy⟩, Int.neg_mul, Int.mul_neg]
      omega
    · rw [if_neg hy, if_neg (by omega), if_neg (by omega), Int.neg_mul]
      omega
  · rw [if_neg hx]
    by_cases hy : y < 0
    · rw [if_pos hy, if_neg (by omega), if_neg (by omega), Int.mul_neg]
      omega
    · rw [if_neg hy]
      by_cases h0 : 0 < x ∧ 0 < y
      · rw [if_pos h0]
        omega
      · rw [if_neg h0, if_neg (by omega)]
        have : x * y = 0 := by
          by_cases h1 : x = 0
          · rw [h1, Int.zero_mul]
          · have h2 : y = 0 := by omega
            rw [h2, Int.mul_zero]
        omega
section
variable {P : Program} {w : World} {K : PySem.W.Frag} {mg : Str → Option Value} {base : Heap}
abbrev s_law_turn : Stmt := topS 47
abbrev n_law_turn : List Str := ["_law_ties", "_law_place", "_law_found", "_law_i", "_law_row", "_law_j", "_law_tie", "_law_one", "_law_other"]
theorem sc_law_turn : FnScope n_law_turn ["_law_ties", "_law_place"] (defScope s_law_turn) := ⟨rfl, rfl, rfl, by decide +kernel, rfl, by decide +kernel, by decide +kernel⟩
def spLTurn : Sp := fun vs H Q _ => ∃ (a : Addr) (rows : List (List Int)) (n k : Nat), vs = [.ref a, .int k] ∧ TabAt H a rows ∧ WdOk rows n ∧ k < n ∧ ∀ (b : Addr) (H' : Hp), Same H H' → TabAt H' b (turnT rows n k) → Q (.ref b) H'
theorem ok_lturn {f : Addr} {fd : FuncData} (F : Fun K "_law_turn" "_law_turn" s_law_turn f fd) (T : Tx mg) : FnOk P w K mg base CX0 1 f fd ["_law_ties", "_law_place"] spLTurn := by
  refine F.ok sc_law_turn (fun vs H Q E h => ?_) (fun cdv A outer s H vs Q E hr h => ?_)
  · obtain ⟨a, rows, n, k, rfl, _⟩ := h
    rfl
  · obtain ⟨a, rows, n, k, rfl, hT, O, hk, q⟩ := h
    refine ⟨_, (pss_cons (ps_set (i := 2) sc_law_turn.nd rfl (.inl rfl) (pe_lst pa_nil))
  (pss_cons (ps_for PassesOwn.never rfl (pi_range1 (by rfl) T.range (pa_cons (pe_callB (c_len (K := K)) (by rfl) T.len PySem.boot_len (pa_cons (pv 0) pa_nil)) pa_nil)) (pg_name (i := 3) sc_law_turn.nd rfl (.inl rfl))
    (pss_cons (ps_set (i := 4) sc_law_turn.nd rfl (.inl rfl) (pe_lst pa_nil))
    (pss_cons (ps_for PassesOwn.never rfl (pi_range1 (by rfl) T.range (pa_cons (pe_callB (c_len (K := K)) (by rfl) T.len PySem.boot_len (pa_cons (pe_ix (i_tup (K := K)) (pv 0) pe_int (fun _ _ => rfl)) pa_nil)) pa_nil)) (pg_name (i := 5) sc_law_turn.nd rfl (.inl rfl))
      (pss_cons (ps_set (i := 6) sc_law_turn.nd rfl (.inl rfl) (pe_ix (i_tup (K := K)) (pe_ix (i_tup (K := K)) (pv 0) (pv 3) (fun _ _ => rfl)) (pv 5) (fun _ _ => rfl)))
      (C8.pss_cut (ps_if (PW.pt (pw_or (pt_cmpR op_eq (pv 3) (pv 1) (nomark _)) (pw_or1 (pt_cmpR op_eq (pv 5) (pv 1) (nomark _)))))
        (pss_one (ps_set (i := 6) sc_law_turn.nd rfl (.inl rfl) (pe_op op_sub pe_int (pv 6))))
        (pss_cons (ps_par (i := 7) (j := 8) (by rfl) sc_law_turn.nd rfl rfl (by decide) rfl rfl (pa_cons (pe_ix (i_tup (K := K)) (pe_ix (i_tup (K := K)) (pv 0) (pv 3) (fun _ _ => rfl)) (pv 1) (fun _ _ => rfl)) (pa_cons (pe_ix (i_tup (K := K)) (pe_ix (i_tup (K := K)) (pv 0) (pv 1) (fun _ _ => rfl)) (pv 5) (fun _ _ => rfl)) pa_nil)) (by rfl))
        (pss_one (ps_set (i := 6) sc_law_turn.nd rfl (.inl rfl) (pe_op op_add (pv 6) (pe_op op_fdiv (pe_op op_add (pe_op op_mul (pe_callB call_abs (by rfl) T.abs (by decide +kernel) (pa_cons (pv 7) pa_nil)) (pv 8)) (pe_op op_mul (pv 7) (pe_callB call_abs (by rfl) T.abs (by decide +kernel) (pa_cons (pv 8) pa_nil)))) pe_int))))))
      (pss_one (ps_expr (pe_bm PySem.F.plainAttrs_list PySem.F.slot_list_append PySem.F.type_list_append mt_append (pv 4) (pa_cons (pv 6) pa_nil)))))))
    (pss_one (ps_expr (pe_bm PySem.F.plainAttrs_list PySem.F.slot_list_append PySem.F.type_list_append mt_append (pv 2) (pa_cons (pe_callTy (c_tup (K := K)) (by rfl) T.tuple (by decide +kernel) (pa_cons (pv 4) pa_nil)) pa_nil)))))))
  (pss_one (ps_ret (pe_callTy (c_tup (K := K)) (by rfl) T.tuple (by decide +kernel) (pa_cons (pv 2) pa_nil)))))), ?_⟩
    have h1 := O.n1
    have h4 := O.n4
    have hl := O.len
    have hl8 := O.len8
    have hkr : k < rows.length := by omega
    obtain ⟨as, ha, hR⟩ := hT.refs
    have las : as.length = rows.length := hR.1
    refine ⟨Nat.zero_le _, fun D eD => ?_⟩
    refine ⟨.ref a, rfl, a, _, rfl, .inr (SqT.of (same_upd eD _ _ ha)), _, rfl, by rw [List.length_map]; omega, by rw [List.length_map]; omega, ?_⟩
    rw [List.length_map, las]
    refine for_range (fun i σ H' => ∃ (y3 y4 y5 y6 y7 y8 : Option V), σ = [some (.ref a), some (.int k), some (.ref D), y3, y4, y5, y6, y7, y8] ∧ Acc H H' D (fun i => matRow n (turnE (ent rows) k i)) i)
      ⟨none, none, none, none, none, none, rfl, Acc.zero⟩ ?_ ?_
    · rintro i σ H3 hi ⟨y3, y4, y5, y6, y7, y8, rfl, hA⟩
      have hi : i < rows.length := hi
      have e0 : (0 : Int) + (i : Int) = (i : Int) := by omega
      rw [e0]
      have s3 : Same H H3 := fun b o e => hA.stay eD e
      refine ⟨Nat.zero_le _, fun D2 eD2 => ?_⟩
      obtain ⟨as0, b0, f1, f2, f3⟩ := (hT.same s3).row (i := 0) (by omega)
      have sD2 := same_upd (o := .lst []) eD2
      refine ⟨.ref a, rfl, a, _, 0, .ref b0, rfl, rfl, SqT.of (sD2 _ _ f1), atI_nat (j := 0) f2, b0, _, rfl, .inr (SqT.of (sD2 _ _ f3)), _, rfl, by rw [List.length_map, row_len O.wide (by omega)]; omega, by rw [List.length_map, row_len O.wide (by omega)]; omega, ?_⟩
      rw [List.length_map, row_len O.wide (by omega)]
      refine for_range (fun j σ H' => ∃ (y5 y6 y7 y8 : Option V), σ = [some (.ref a), some (.int k), some (.ref D), some (.int i), some (.ref D2), y5, y6, y7, y8] ∧ AccI H3 H' D2 (fun j => turnE (ent rows) k i j) j)
        ⟨_, _, _, _, rfl, AccI.zero⟩ ?_ ?_
      · rintro j σ H4 hj ⟨y5, y6, y7, y8, rfl, hI⟩
        have hj : j < n := hj
        have e1 : (0 : Int) + (j : Int) = (j : Int) := by omega
        rw [e1]
        have s4 : Same H H4 := fun b o e => hI.stay eD2 (s3 _ _ e)
        obtain ⟨as1, b, g1, g2, g3⟩ := (hT.same s4).row hi
        obtain ⟨as2, c, k1, k2, k3⟩ := (hT.same s4).row hkr
        have eas : as2.map V.ref = as1.map V.ref := HO.tup.inj (Option.some.inj (k1.symm.trans g1))
        rw [eas] at k2
        have x1 := ent_get O.wide hi hj
        have x2 := ent_get O.wide hi hk
        have x3 := ent_get O.wide hkr hj
        have b2 := O.bd hi hk
        have b3 := O.bd hkr hj
        refine ⟨.ref a, rfl, .int i, rfl, a, _, _, .ref b, rfl, rfl, SqT.of g1, atI_nat g2, .int j, rfl, b, _, _, .int (ent rows i j), rfl, rfl, SqT.of g3, atI_nat x1, ?_⟩
        refine ⟨fun σ H5 => ∃ (y7 y8 : Option V) (t : Int), σ = [some (.ref a), some (.int k), some (.ref D), some (.int i), some (.ref D2), some (.int j), some (.int t), y7, y8] ∧ H5 = H4 ∧ t = turnE (ent rows) k i j, ?_, ?_⟩
        · have yes : i = k ∨ j = k → (0 : Int) - ent rows i j = turnE (ent rows) k i j := fun h => by
            unfold turnE
            rw [if_pos h]
            omega
          refine ⟨.int i, rfl, .int k, rfl, rfl, _, rfl, ite2 (fun e => iteT ?_) (fun e => ?_)⟩
          · have e := V.int.inj (of_decide_eq_true e)
            exact ⟨.int (ent rows i j), rfl, _, _, rfl, rfl, _, _, _, rfl, rfl, yes (.inl (by omega))⟩
          · refine ⟨.int j, rfl, .int k, rfl, rfl, _, rfl, ite2 (fun e => ?_) (fun e2 => ?_)⟩
            · have e := V.int.inj (of_decide_eq_true e)
              exact ⟨.int (ent rows i j), rfl, _, _, rfl, rfl, _, _, _, rfl, rfl, yes (.inr (by omega))⟩
            · have hn : ¬ (i = k ∨ j = k) := fun z => by
                rcases z with z | z
                · exact e (decide_eq_true (by rw [z]))
                · exact e2 (decide_eq_true (by rw [z]))
              refine ⟨.ref a, rfl, .int i, rfl, a, _, _, .ref b, rfl, rfl, SqT.of g1, atI_nat g2, .int k, rfl, b, _, _, .int (ent rows i k), rfl, rfl, SqT.of g3, atI_nat x2, ?_⟩
              refine ⟨.ref a, rfl, .int k, rfl, a, _, _, .ref c, rfl, rfl, SqT.of g1, atI_nat k2, .int j, rfl, c, _, _, .int (ent rows k j), rfl, rfl, SqT.of k3, atI_nat x3, _, _, rfl, ?_⟩
              refine ⟨.int (ent rows i j), rfl, .int (ent rows i k), rfl, _, rfl, .int (ent rows k j), rfl, _, _, rfl, rfl, .inr ⟨by omega, by omega⟩, .int (ent rows i k), rfl, .int (ent rows k j), rfl, _, rfl, _, _, rfl, rfl, .inl ⟨by omega, by omega⟩, _, _, rfl, rfl, _, _, rfl, rfl, ⟨by decide, by decide⟩, _, _, rfl, rfl, _, _, _, rfl, rfl, ?_⟩
              rw [half_turn]
              unfold turnE
              rw [if_neg hn]
              split
              · rfl
              · split
                · omega
                · omega
        · rintro σ H5 ⟨y7, y8, t, rfl, rfl, rfl⟩
          obtain ⟨acc, e5, l5, hI5⟩ := hI.next (y := turnE (ent rows) k i j) (.refl _) rfl (by omega)
          exact ⟨.ref D2, rfl, .inl ⟨rfl, _, SqL.of e5⟩, .int _, rfl, D2, _, _, rfl, rfl, e5, l5, _, _, _, _, rfl, hI5⟩
      · rintro σ H4 ⟨y5, y6, y7, y8, rfl, hI⟩
        rw [Int.toNat_natCast] at hI
        obtain ⟨ts, _, _, eD3, _⟩ := id hA
        refine ⟨.ref D, rfl, .inl ⟨rfl, _, SqL.of (hI.stay eD2 eD3)⟩, .ref D2, rfl, D2, _, rfl, .inl ⟨SqL.of hI.1, fun p hp => ?_⟩⟩
        obtain ⟨acc, e5, l5, hA5⟩ := hA.next (p := p) (H2 := upd H4 p (.tup ((matRow n fun j => turnE (ent rows) k i j).map V.int))) (fun b o e => same_upd hp _ _ (hI.stay eD2 e)) upd_same (by omega)
        exact ⟨D, _, _, rfl, rfl, e5, l5, _, _, _, _, _, _, rfl, hA5⟩
    · rintro σ H3 ⟨y3, y4, y5, y6, y7, y8, rfl, hA⟩
      rw [Int.toNat_natCast] at hA
      obtain ⟨ts, eD3, hR3⟩ := hA.get
      have s3 : Same H H3 := fun b o e => hA.stay eD e
      refine ⟨.ref D, rfl, D, _, rfl, .inl ⟨SqL.of eD3, fun p hp => ?_⟩⟩
      have sp := same_upd (o := .tup (ts.map V.ref)) hp
      exact q p _ (s3.trans sp) ((hR3.same sp).tab upd_same)
/-! ### the widest tie -/
abbrev s_law_wide_ties : Stmt := topS 48
abbrev n_law_wide_ties : List Str := ["_law_ties", "_law_row", "_law_tie"]
theorem sc_law_wide_ties : FnScope n_law_wide_ties ["_law_ties"] (defScope s_law_wide_ties) := ⟨rfl, rfl, rfl, by decide +kernel, rfl, by decide +kernel, by decide +kernel⟩
def spWideT : Sp := fun vs H Q _ => ∃ (a : Addr) (rows : List (List Int)) (n : Nat), vs = [.ref a] ∧ TabAt H a rows ∧ 1 ≤ n ∧ n ≤ 4 ∧ 1 ≤ rows.length ∧ rows.length ≤ 8 ∧ (∀ r ∈ rows, r.length = n) ∧ ∀ (m : Int) (H' : Hp), Same H H' → (m ≤ 50 ↔ bigR rows = false) → Q (.int m) H'
def absI (t : Int) : Int := if t < 0 then -t else t
theorem ok_wideT {f : Addr} {fd : FuncData} (F : Fun K "_law_wide_ties" "_law_wide_ties" s_law_wide_ties f fd) (T : Tx mg) : FnOk P w K mg base CX0 1 f fd ["_law_ties"] spWideT := by
  refine F.ok sc_law_wide_ties (fun vs H Q E h => ?_) (fun cdv A outer s H vs Q E hr h => ?_)
  · obtain ⟨a, rows, n, rfl, _⟩ := h
    rfl
  · obtain ⟨a, rows, n, rfl, hT, n1, n4, r1, r8, hw, q⟩ := h
    refine ⟨_, (pss_one (ps_ret (pe_callB (c_max (K := K) rfl) (by rfl) T.max (by decide +kernel) (pa_cons (pe_lc (own := [("_law_row", 1)]) (by rfl) sc_law_wide_ties.nd (p_tup (K := K) (pv 0)) (blkOk_by (own := [("_law_row", 1)]) (N := n_law_wide_ties) (sc := defScope s_law_wide_ties) (by decide +kernel)) (fun _ _ _ _ _ => (pg_name (i := 1) sc_law_wide_ties.nd rfl (.inl rfl))) (fun _ _ _ _ _ => pts_nil) (fun _ _ _ _ _ => (pe_callB (c_max (K := K) rfl) (by rfl) T.max (by decide +kernel) (pa_cons (pe_lc (own := [("_law_tie", 2)]) (by rfl) sc_law_wide_ties.nd (p_tup (K := K) (pv 1)) (blkOk_by (own := [("_law_tie", 2)]) (N := n_law_wide_ties) (sc := { kind := .function, names := [(".0", .local), ("_law_row", .local), ("max", .globalImplicit)], isGenerator := false, isCoroutine := false }) (by decide +kernel)) (fun _ _ _ _ _ => (pg_name (i := 2) sc_law_wide_ties.nd rfl (.inl rfl))) (fun _ _ _ _ _ => pts_nil) (fun _ _ _ _ _ => (pe_callB call_abs (by rfl) T.abs (by decide +kernel) (pa_cons (pv 2) pa_nil)))) pa_nil)))) pa_nil)))), ?_⟩
    obtain ⟨as, ha, hR⟩ := hT.refs
    refine ⟨.ref a, rfl, a, rfl, ⟨_, SqT.of ha⟩, fun D eD => ?_⟩
    refine lc_tup (K := K) (a := a) (xs := as.map V.ref) (fun i H' => ∃ ms : List Int, H' D = some (.lst (ms.map V.int)) ∧ ms.length = i ∧ ((∀ m ∈ ms, m ≤ 50) ↔ bigR (rows.take i) = false) ∧ Same H H') ⟨[], upd_same, rfl, by simp [bigR], same_upd eD⟩ (fun i H' _ ⟨_, _, _, _, s⟩ => SqT.of (s _ _ ha)) ?_ ?_
    · rintro i v H1 hv ⟨ms, e1, l1, hm1, s1⟩
      rw [List.getElem?_map] at hv
      obtain ⟨t, et, rfl⟩ := Option.map_eq_some_iff.mp hv
      have hi : i < rows.length := by
        have := (List.getElem?_eq_some_iff.mp et).1
        rw [hR.1] at this
        exact this
      obtain ⟨b, eb, hb⟩ := hR.2 i _ (List.getElem?_eq_getElem hi)
      rw [et] at eb
      cases eb
      have er : rows[i]? = some rows[i] := List.getElem?_eq_getElem hi
      have lr := hw _ (List.getElem_mem hi)
      generalize rows[i] = r at hb er lr
      have hb1 := s1 _ _ hb
      refine ⟨rfl, .ref t, rfl, t, rfl, ⟨_, SqT.of hb1⟩, fun D2 eD2 => ?_⟩
      refine lc_tup (K := K) (a := t) (xs := r.map V.int) (fun j H' => H' D2 = some (.lst (((r.take j).map absI).map V.int)) ∧ Same H1 H') ⟨upd_same, same_upd eD2⟩ (fun j H' _ ⟨_, s⟩ => SqT.of (s _ _ hb1)) ?_ ?_
      · rintro j v H2 hv ⟨e2, s2⟩
        obtain ⟨x, ex, rfl⟩ := int_at hv
        have hj := (List.getElem?_eq_some_iff.mp ex).1
        refine ⟨rfl, .int x, rfl, x, rfl, _, e2, by rw [List.length_map, List.length_map, List.length_take]; exact small1000 (by omega), ?_, Same.updN s2 eD2⟩
        rw [upd_same, List.take_succ, ex, List.map_append, List.map_append]
        rfl
      · rintro H2 ⟨e2, s2⟩
        rw [List.length_map, List.take_length] at e2
        refine ⟨D2, _, rfl, SqL.of e2, by rw [List.length_map]; omega, fun m hm hmx => ?_⟩
        refine ⟨_, s2 _ _ e1, by rw [List.length_map]; exact small1000 (by omega), ms ++ [m], ?_, by rw [List.length_append, l1]; rfl, ?_, Same.updN (s1.trans s2) eD⟩
        · rw [upd_same, List.map_append]
          rfl
        · rw [bigR_take er, Bool.or_eq_false_iff, ← hm1]
          have hr : r.any bigT = false ↔ m ≤ 50 := by
            rw [List.any_eq_false]
            constructor
            · intro h
              obtain ⟨x, hx, rfl⟩ := List.mem_map.mp hm
              have hb : bigT x = false := by
                cases e : bigT x with
                | false => rfl
                | true => exact absurd e (h x hx)
              have := (bigT_iff x).mp hb
              unfold absI
              split <;> omega
            · intro h x hx z
              have h2 := hmx (absI x) (List.mem_map_of_mem hx)
              unfold absI at h2
              have : bigT x = false := (bigT_iff x).mpr (by split at h2 <;> omega)
              rw [this] at z
              cases z
          rw [hr]
          constructor
          · intro h
            exact ⟨fun y hy => h y (List.mem_append_left _ hy), h m (List.mem_append_right _ (List.mem_singleton.mpr rfl))⟩
          · rintro ⟨ha, hb⟩ y hy
            rcases List.mem_append.mp hy with hy | hy
            · exact ha y hy
            · rw [List.mem_singleton.mp hy]
              exact hb
    · rintro H1 ⟨ms, e1, l1, hm1, s1⟩
      rw [List.length_map, hR.1] at l1 hm1
      rw [List.take_length] at hm1
      refine ⟨D, ms, rfl, SqL.of e1, by omega, fun m hm hmx => ?_⟩
      refine q m H1 s1 ?_
      rw [← hm1]
      exact ⟨fun h y hy => Int.le_trans (hmx y hy) h, fun h => h m hm⟩
end
end Bw
set_option Elab.async false
set_option linter.all false
set_option maxRecDepth 100000
namespace Bw
open PySem PySem.Spec PyProof.Rows L2
/-! ### name *= e, name //= e of great ints -/
section
variable {X : Cx}
theorem iop_mulW : OpR X (inplaceOp .Mult) (rI CMulW fun i j => .int (i * j)) := opI fun _ _ _ _ _ _ _ hc q => imul_int q hc.ok
theorem iop_fdivW : OpR X (inplaceOp .FloorDiv) (rI CDivW fun i j => .int (i / j)) := opI fun i j _ _ _ _ _ hc q => by
  have h1 : (0 : Int) < j := hc.1
  exact ifloordiv_int (by omega) (by rw [Int.fdiv_eq_ediv_of_nonneg i (by omega)]; exact q) (.inl (PyProof.noPylong_of_log2 hc.2))
theorem ip_mulW : PIp X .Mult (rI CMulW fun i j => .int (i * j)) := fun pins s σ H x y v u Q I a b q => iop_mulW pins s σ H x y v u Q I a b q
theorem ip_fdivW : PIp X .FloorDiv (rI CDivW fun i j => .int (i / j)) := fun pins s σ H x y v u Q I a b q => iop_fdivW pins s σ H x y v u Q I a b q
end
end Bw
set_option Elab.async false
set_option linter.all false
set_option maxRecDepth 100000
set_option maxHeartbeats 4000000
namespace Bw
open PySem PySem.Spec PyProof.Rows L2
theorem abs_nat (i : Int) : (if i < 0 then -i else i) = (i.natAbs : Int) := by
  split <;> omega
/-- in lowest terms -/
structure Low (t u t' u' : Int) : Prop where
  eq : t' * u = t * u'
  pos : 0 < u'
  cop : Nat.gcd t'.natAbs u'.natAbs = 1
theorem cop_root {t u r N : Nat} (h : Nat.gcd (Nat.gcd r t) u = 1) (d : u ∣ r ^ N) : Nat.gcd t u = 1 := by
  have h1 : Nat.gcd t u ∣ r ^ N := Nat.dvd_trans (Nat.gcd_dvd_right t u) d
  have h2 : Nat.Coprime (Nat.gcd t u) r := by
    have e : Nat.gcd (Nat.gcd t u) r = Nat.gcd (Nat.gcd r t) u := by rw [Nat.gcd_comm (Nat.gcd t u) r, Nat.gcd_assoc]
    exact e.trans h
  exact Nat.Coprime.eq_one_of_dvd (Nat.Coprime.pow_right N h2) h1
theorem low_uniq {t u a b c d : Int} (u0 : u ≠ 0) (h : Low t u a b) (k : Low t u c d) : a = c ∧ b = d := by
  have e : a * d = c * b := by
    have h1 := h.eq
    have k1 := k.eq
    have : (a * d) * u = (c * b) * u := by
      calc (a * d) * u = (a * u) * d := by rw [Int.mul_right_comm]
        _ = t * b * d := by rw [h1]
        _ = t * d * b := by rw [Int.mul_right_comm]
        _ = (c * u) * b := by rw [k1]
        _ = (c * b) * u := by rw [Int.mul_right_comm]
    exact Int.eq_of_mul_eq_mul_right u0 this
  have hb := h.pos
  have hd := k.pos
  have en : a.natAbs * d.natAbs = c.natAbs * b.natAbs := by rw [← Int.natAbs_mul, ← Int.natAbs_mul, e]
  have h1 : b.natAbs ∣ d.natAbs := Nat.Coprime.dvd_of_dvd_mul_left (show Nat.Coprime b.natAbs a.natAbs by rw [Nat.coprime_comm]; exact h.cop) (by rw [en]; exact Nat.dvd_mul_left ..)
  have h2 : d.natAbs ∣ b.natAbs := Nat.Coprime.dvd_of_dvd_mul_left (show Nat.Coprime d.natAbs c.natAbs by rw [Nat.coprime_comm]; exact k.cop) (by rw [← en]; exact Nat.dvd_mul_left ..)
  have h3 := Nat.dvd_antisymm h1 h2
  have bd : b = d := by omega
  refine ⟨?_, bd⟩
  rw [bd] at e
  exact Int.eq_of_mul_eq_mul_right (by omega) e
section
variable {P : Program} {w : World} {K : PySem.W.Frag} {mg : Str → Option Value} {base : Heap}
abbrev s_common : Stmt := topS 10
abbrev n_common : List Str := ["one", "other"]
theorem sc_common : FnScope n_common ["one", "other"] (defScope s_common) := ⟨rfl, rfl, rfl, by decide +kernel, rfl, by decide +kernel, by decide +kernel⟩
def spCom : Sp := fun vs H Q _ => ∃ (a b : Int), vs = [.int a, .int b] ∧ Q (.int (Nat.gcd a.natAbs b.natAbs : Nat)) H
theorem ok_common {f : Addr} {fd : FuncData} {k : Nat} (F : Fun K "common" "common" s_common f fd) (T : Tx mg) : FnOk P w K mg base CX0 (k + 1) f fd ["one", "other"] spCom := by
  refine F.ok sc_common (fun vs H Q E h => ?_) (fun cdv A outer s H vs Q E hr h => ?_)
  · obtain ⟨a, b, rfl, _⟩ := h
    rfl
  · obtain ⟨a, b, rfl, q⟩ := h
    refine ⟨_, (pss_cons (ps_set (i := 0) sc_common.nd rfl (.inl rfl) (pe_callB call_abs (by rfl) T.abs (by decide +kernel) (pa_cons (pv 0) pa_nil)))
  (pss_cons (ps_set (i := 1) sc_common.nd rfl (.inl rfl) (pe_callB call_abs (by rfl) T.abs (by decide +kernel) (pa_cons (pv 1) pa_nil)))
  (pss_cons (ps_while PassesOwn.never (pt_cmpR op_ne (pv 1) pe_int (nomark _))
    (pss_one (ps_par (i := 0) (j := 1) (by rfl) sc_common.nd rfl rfl (by decide) rfl rfl (pa_cons (pv 1) (pa_cons (pe_op op_mod (pv 0) (pv 1)) pa_nil)) (by rfl))))
  (pss_one (ps_ret (pv 0)))))), ?_⟩
    refine ⟨_, rfl, _, rfl, ?_⟩
    rw [abs_nat]
    refine ⟨_, rfl, _, rfl, ?_⟩
    rw [abs_nat]
    generalize a.natAbs = a at q
    generalize b.natAbs = b at q
    refine while_by (fun σ H' => ∃ x y : Nat, σ = [some (.int x), some (.int y)] ∧ Nat.gcd x y = Nat.gcd a b ∧ H' = H) (fun σ _ => match σ with | [_, some (.int y)] => y.toNat | _ => 0) ⟨a, b, rfl, rfl, rfl⟩ ?_ ?_
    · rintro σ H' ⟨x, y, rfl, hg, rfl⟩
      refine ⟨.int y, rfl, rfl, _, rfl, ?_⟩
      by_cases hy : y = 0
      · subst hy
        refine iteF ⟨_, rfl, ?_⟩
        rw [Nat.gcd_zero_right] at hg
        rw [hg]
        exact q
      · rw [decide_eq_false (fun z => hy (by injection z with z; omega))]
        refine iteT ⟨_, rfl, _, rfl, _, rfl, _, _, rfl, rfl, (by show (0 : Int) < (y : Int); omega), _, _, rfl, ?_, ?_⟩
        · refine ⟨y, x % y, rfl, ?_, rfl⟩
          rw [← hg, Nat.gcd_comm y (x % y), ← Nat.gcd_rec y x, Nat.gcd_comm]
        · show ((x : Int) % (y : Int)).toNat < ((y : Int)).toNat
          have h1 := Int.emod_lt_of_pos (x : Int) (show (0 : Int) < (y : Int) by omega)
          have h2 := Int.emod_nonneg (x : Int) (show (y : Int) ≠ 0 by omega)
          omega
    · intro σ H' Q Q' mono h
      obtain ⟨v, e, h1, b', h2, h3⟩ := h
      exact ⟨v, e, h1, b', h2, mono _ _ h3⟩
/-! ### powers -/
abbrev s_power_of : Stmt := topS 11
abbrev n_power_of : List Str := ["base", "many", "result"]
theorem sc_power_of : FnScope n_power_of ["base", "many"] (defScope s_power_of) := ⟨rfl, rfl, rfl, by decide +kernel, rfl, by decide +kernel, by decide +kernel⟩
def spPow : Sp := fun vs H Q _ => ∃ (b : Int) (m : Nat), vs = [.int b, .int m] ∧ b.natAbs < 2 ^ 200 ∧ m ≤ 50 ∧ Q (.int (b ^ m)) H
theorem pow_lt {b : Int} {e : Nat} (h : b.natAbs < 2 ^ 200) (k : e ≤ 50) : (b ^ e).natAbs < 2 ^ 10001 := by
  rw [Int.natAbs_pow]
  have h1 : b.natAbs ^ e ≤ (2 ^ 200) ^ e := Nat.pow_le_pow_left (Nat.le_of_lt h) e
  have h2 : ((2 : Nat) ^ 200) ^ e ≤ (2 ^ 200) ^ 50 := Nat.pow_le_pow_right (Nat.pow_pos (by decide)) k
  have h3 : ((2 : Nat) ^ 200) ^ 50 = 2 ^ 10000 := (Nat.pow_mul 2 200 50).symm
  have h4 : (2 : Nat) ^ 10000 < 2 ^ 10001 := Nat.pow_lt_pow_right (by decide) (by decide)
  exact Nat.lt_of_le_of_lt (Nat.le_trans h1 (h3 ▸ h2)) h4
theorem ok_power {f : Addr} {fd : FuncData} (F : Fun K "power_of" "power_of" s_power_of f fd) (T : Tx mg) : FnOk P w K mg base CX0 1 f fd ["base", "many"] spPow := by
  refine F.ok sc_power_of (fun vs H Q E h => ?_) (fun cdv A outer s H vs Q E hr h => ?_)
  · obtain ⟨b, m, rfl, _⟩ := h
    rfl
  · obtain ⟨b, m, rfl, hb, hm, q⟩ := h
    refine ⟨_, (pss_cons (ps_set (i := 2) sc_power_of.nd rfl (.inl rfl) pe_int)
  (pss_cons (ps_while PassesOwn.never (pt_cmpR op_gt (pv 1) pe_int (nomark _))
    (pss_cons (ps_if (pt_cmpR op_eq (pe_op op_mod (pv 1) pe_int) pe_int (nomark _))
      (pss_one (ps_aug (i := 2) sc_power_of.nd rfl (.inl rfl) (pv 0) ip_mulW))
      pss_nil)
    (pss_cons (ps_aug (i := 1) sc_power_of.nd rfl (.inl rfl) pe_int ip_fdivW)
    (pss_one (ps_if (pt_cmpR op_gt (pv 1) pe_int (nomark _))
      (pss_one (ps_aug (i := 0) sc_power_of.nd rfl (.inl rfl) (pv 0) ip_mulW))
      pss_nil)))))
  (pss_one (ps_ret (pv 2))))), ?_⟩
    refine while_by (fun σ H' => ∃ e n r : Nat, σ = [some (.int (b ^ e)), some (.int n), some (.int (b ^ r))] ∧ r + n * e = m ∧ 1 ≤ e ∧ H' = H) (fun σ _ => match σ with | [_, some (.int y), _] => y.toNat | _ => 0) ⟨1, m, 0, by rw [Int.pow_one, Int.pow_zero]; rfl, by omega, by decide, rfl⟩ ?_ ?_
    · rintro σ H' ⟨e, n, r, rfl, hs, he, rfl⟩
      refine ⟨.int n, rfl, _, _, rfl, rfl, _, rfl, ite2 (fun z => ?_) (fun z => ?_)⟩
      · have n0 : 0 < n := by
          have := of_decide_eq_true z
          omega
        have en : e ≤ n * e := Nat.le_mul_of_pos_left e n0
        have hdiv : (r + (n % 2) * e) + (n / 2) * (2 * e) = m := by
          rw [← hs]
          have : n * e = (n % 2) * e + (n / 2) * (2 * e) := by
            have h1 : n = n % 2 + 2 * (n / 2) := (Nat.mod_add_div n 2).symm
            calc n * e = (n % 2 + 2 * (n / 2)) * e := by rw [← h1]
              _ = (n % 2) * e + (n / 2) * (2 * e) := by rw [Nat.add_mul, Nat.mul_comm 2 (n / 2), Nat.mul_assoc]
          omega
        have half : (n : Int) / 2 = ((n / 2 : Nat) : Int) := rfl
        have cdiv : CDivW (n : Int) 2 := ⟨by decide, by decide⟩
        have le : n / 2 < n := Nat.div_lt_self n0 (by decide)
        have sq : 0 < n / 2 → CMulW (b ^ e) (b ^ e) ∧ b ^ e * b ^ e = b ^ (2 * e) := fun h => by
          have h2 : 2 * e ≤ (n / 2) * (2 * e) := Nat.le_mul_of_pos_left _ h
          have h3 := pow_lt (e := e) hb (by omega)
          exact ⟨wide_mul h3 h3 (by decide) (by decide) (by decide), by rw [← Int.pow_add]; congr 1; omega⟩
        refine ⟨.int n, rfl, _, _, rfl, rfl, by show (0 : Int) < 2; decide, rfl, _, rfl, ite2 (fun z1 => ?_) (fun z1 => ?_)⟩
        · have n1 : n % 2 = 1 := by
            have := V.int.inj (of_decide_eq_true z1)
            omega
          rw [n1, Nat.one_mul] at hdiv
          have h3 := pow_lt (e := e) hb (by omega)
          have h4 := pow_lt (e := r) hb (by omega)
          refine ⟨_, rfl, _, rfl, _, _, rfl, rfl, wide_mul h4 h3 (by decide) (by decide) (by decide), ?_⟩
          refine ⟨_, rfl, _, _, rfl, rfl, cdiv, ?_⟩
          dsimp only
          rw [half, ← Int.pow_add]
          refine ⟨_, rfl, _, _, rfl, rfl, _, rfl, ite2 (fun z2 => ?_) (fun z2 => ?_)⟩
          · have h0 : 0 < n / 2 := by
              have := of_decide_eq_true z2
              omega
            refine ⟨_, rfl, _, rfl, _, _, rfl, rfl, (sq h0).1, ?_⟩
            dsimp only
            rw [(sq h0).2]
            exact ⟨⟨2 * e, n / 2, r + e, rfl, hdiv, by omega, rfl⟩, le⟩
          · have h0 : n / 2 = 0 := Classical.byContradiction fun h => z2 (decide_eq_true (by omega))
            rw [h0] at hdiv
            refine ⟨⟨e, n / 2, r + e, rfl, ?_, he, rfl⟩, le⟩
            rw [h0]
            omega
        · have n1 : n % 2 = 0 := Classical.byContradiction fun h => z1 (decide_eq_true (congrArg V.int (by omega)))
          rw [n1, Nat.zero_mul, Nat.add_zero] at hdiv
          refine ⟨_, rfl, _, _, rfl, rfl, cdiv, ?_⟩
          dsimp only
          rw [half]
          refine ⟨_, rfl, _, _, rfl, rfl, _, rfl, ite2 (fun z2 => ?_) (fun z2 => ?_)⟩
          · have h0 : 0 < n / 2 := by
              have := of_decide_eq_true z2
              omega
            refine ⟨_, rfl, _, rfl, _, _, rfl, rfl, (sq h0).1, ?_⟩
            dsimp only
            rw [(sq h0).2]
            exact ⟨⟨2 * e, n / 2, r, rfl, hdiv, by omega, rfl⟩, le⟩
          · have h0 : n / 2 = 0 := Classical.byContradiction fun h => z2 (decide_eq_true (by omega))
            rw [h0] at hdiv
            refine ⟨⟨e, n / 2, r, rfl, ?_, he, rfl⟩, le⟩
            rw [h0]
            omega
      · have n0 : n = 0 := Classical.byContradiction fun h => z (decide_eq_true (by omega))
        subst n0
        refine ⟨_, rfl, ?_⟩
        have : r = m := by omega
        rw [this]
        exact q
    · rintro σ H' Q1 Q2 hq ⟨v, e, a1, a2, e1, e2, k, t, q1⟩
      exact ⟨v, e, a1, a2, e1, e2, k, t, hq _ _ q1⟩
/-! ### lowest terms -/
abbrev s_lowest_terms : Stmt := topS 12
abbrev n_lowest_terms : List Str := ["top", "under", "root", "shared"]
theorem sc_lowest_terms : FnScope n_lowest_terms ["top", "under", "root"] (defScope s_lowest_terms) := ⟨rfl, rfl, rfl, by decide +kernel, rfl, by decide +kernel, by decide +kernel⟩
def spLow : Sp := fun vs H Q _ => ∃ (t u r : Int) (N : Nat), vs = [.int t, .int u, .int r] ∧ u ≠ 0 ∧ r ≠ 0 ∧ r.natAbs < 2 ^ 1000 ∧ u.natAbs ∣ r.natAbs ^ N ∧ ∀ (p : Addr) (H' : Hp) (t' u' : Int), Same H H' → H p = none → H' p = some (.tup [.int t', .int u']) → Low t u t' u' → Q (.ref p) H'
theorem ok_lowest {f : Addr} {fd : FuncData} (F : Fun K "lowest_terms" "lowest_terms" s_lowest_terms f fd) (T : Tx mg) (c_common : Cal P w K mg base CX0 1 "common" ["one", "other"] spCom) : FnOk P w K mg base CX0 2 f fd ["top", "under", "root"] spLow := by
  refine F.ok sc_lowest_terms (fun vs H Q E h => ?_) (fun cdv A outer s H vs Q E hr h => ?_)
  · obtain ⟨t, u, r, N, rfl, _⟩ := h
    rfl
  · obtain ⟨t, u, r, N, rfl, u0, r0, rb, hN, q⟩ := h
    refine ⟨_, (pss_cons (ps_if (pt_cmpR op_eq (pv 0) pe_int (nomark _))
    (pss_one (ps_ret (pe_tup (pa_cons pe_int (pa_cons pe_int pa_nil)))))
    pss_nil)
  (pss_cons (ps_set (i := 3) sc_lowest_terms.nd rfl (.inl rfl) (pe_cal c_common hr (by rfl) (pa_cons (pe_cal c_common hr (by rfl) (pa_cons (pv 2) (pa_cons (pv 0) pa_nil))) (pa_cons (pv 1) pa_nil))))
  (pss_cons (ps_while PassesOwn.never (pt_cmpR op_ne (pv 3) pe_int (nomark _))
    (pss_cons (ps_aug (i := 0) sc_lowest_terms.nd rfl (.inl rfl) (pv 3) ip_fdivW)
    (pss_cons (ps_aug (i := 1) sc_lowest_terms.nd rfl (.inl rfl) (pv 3) ip_fdivW)
    (pss_one (ps_set (i := 3) sc_lowest_terms.nd rfl (.inl rfl) (pe_cal c_common hr (by rfl) (pa_cons (pe_cal c_common hr (by rfl) (pa_cons (pv 2) (pa_cons (pv 0) pa_nil))) (pa_cons (pv 1) pa_nil))))))))
  (pss_cons (ps_if (pt_cmpR op_lt (pv 1) pe_int (nomark _))
    (pss_one (ps_ret (pe_tup (pa_cons (pe_un un_neg (pv 0)) (pa_cons (pe_un un_neg (pv 1)) pa_nil)))))
    pss_nil)
  (pss_one (ps_ret (pe_tup (pa_cons (pv 0) (pa_cons (pv 1) pa_nil))))))))), ?_⟩
    refine ⟨.int t, rfl, rfl, _, rfl, ite2 (fun z => ?_) (fun z => ?_)⟩
    · have t0 : t = 0 := V.int.inj (of_decide_eq_true z)
      subst t0
      refine ⟨by show 2 ≤ sizeLine; decide, fun p ep => ?_⟩
      exact q p _ 0 1 (same_upd ep) ep upd_same ⟨by omega, by decide, by decide⟩
    have t0 : t ≠ 0 := fun h => z (decide_eq_true (congrArg V.int h))
    have gg : ∀ x y : Int, (((Nat.gcd r.natAbs x.natAbs : Nat) : Int)).natAbs = Nat.gcd r.natAbs x.natAbs := fun x y => rfl
    refine ⟨.int r, rfl, .int t, rfl, _, _, rfl, .int u, rfl, _, _, rfl, ?_⟩
    refine while_by (fun σ H' => ∃ x y : Int, σ = [some (.int x), some (.int y), some (.int r), some (.int (Nat.gcd (Nat.gcd r.natAbs x.natAbs) y.natAbs : Nat))] ∧ x * u = t * y ∧ x ≠ 0 ∧ y ≠ 0 ∧ y.natAbs ∣ r.natAbs ^ N ∧ H' = H) (fun σ _ => match σ with | [some (.int x), _, _, _] => x.natAbs | _ => 0) ⟨t, u, rfl, rfl, t0, u0, hN, rfl⟩ ?_ ?_
    · rintro σ H' ⟨x, y, rfl, hc, x0, y0, hd, rfl⟩
      generalize eg : Nat.gcd (Nat.gcd r.natAbs x.natAbs) y.natAbs = g
      have gx : g ∣ x.natAbs := by
        rw [← eg]
        exact Nat.dvd_trans (Nat.gcd_dvd_left ..) (Nat.gcd_dvd_right ..)
      have gy : g ∣ y.natAbs := by
        rw [← eg]
        exact Nat.gcd_dvd_right ..
      have gr : g ∣ r.natAbs := by
        rw [← eg]
        exact Nat.dvd_trans (Nat.gcd_dvd_left ..) (Nat.gcd_dvd_left ..)
      have g0 : 0 < g := Nat.pos_of_dvd_of_pos gx (by omega)
      refine ⟨.int g, rfl, rfl, _, rfl, ?_⟩
      by_cases g1 : g = 1
      · subst g1
        refine iteF ?_
        have cop : Nat.gcd x.natAbs y.natAbs = 1 := cop_root eg hd
        refine ⟨.int y, rfl, _, _, rfl, rfl, _, rfl, ite2 (fun z => ?_) (fun z => ?_)⟩
        · have z := of_decide_eq_true z
          refine ⟨.int x, rfl, _, rfl, .int y, rfl, _, rfl, by show 2 ≤ sizeLine; decide, fun p ep => ?_⟩
          refine q p _ (-x) (-y) (same_upd ep) ep upd_same ⟨?_, by omega, by rw [Int.natAbs_neg, Int.natAbs_neg]; exact cop⟩
          rw [Int.neg_mul, Int.mul_neg, hc]
        · have z : ¬ y < 0 := fun h => z (decide_eq_true h)
          refine ⟨.int x, rfl, .int y, rfl, by show 2 ≤ sizeLine; decide, fun p ep => ?_⟩
          exact q p _ x y (same_upd ep) ep upd_same ⟨hc, by omega, cop⟩
      · rw [decide_eq_false (fun z : V.int (g : Int) = V.int 1 => g1 (by injection z with z; omega))]
        have cd : ∀ i : Int, CDivW i (g : Int) := fun i => wide_div (by omega) (Nat.lt_of_le_of_lt (Nat.le_of_dvd (by omega) gr) rb) (by decide) (by decide)
        obtain ⟨x', ex⟩ : (g : Int) ∣ x := Int.ofNat_dvd_left.mpr gx
        obtain ⟨y', ey⟩ : (g : Int) ∣ y := Int.ofNat_dvd_left.mpr gy
        have dx : x / (g : Int) = x' := by rw [ex]; exact Int.mul_ediv_cancel_left _ (by omega)
        have dy : y / (g : Int) = y' := by rw [ey]; exact Int.mul_ediv_cancel_left _ (by omega)
        refine iteT ⟨_, rfl, _, rfl, _, _, rfl, rfl, cd _, ?_⟩
        refine ⟨_, rfl, _, rfl, _, _, rfl, rfl, cd _, ?_⟩
        dsimp only
        rw [dx, dy]
        refine ⟨.int r, rfl, .int x', rfl, _, _, rfl, .int y', rfl, _, _, rfl, ?_⟩
        have x'0 : x' ≠ 0 := fun h => x0 (by rw [ex, h, Int.mul_zero])
        have y'0 : y' ≠ 0 := fun h => y0 (by rw [ey, h, Int.mul_zero])
        refine ⟨⟨x', y', rfl, ?_, x'0, y'0, ?_, rfl⟩, ?_⟩
        · have : (g : Int) * (x' * u) = (g : Int) * (t * y') := by
            rw [← Int.mul_assoc, ← ex, hc, ey, Int.mul_left_comm]
          exact Int.eq_of_mul_eq_mul_left (by omega) this
        · refine Nat.dvd_trans ?_ hd
          rw [ey, Int.natAbs_mul]
          exact Nat.dvd_mul_left ..
        · show x'.natAbs < x.natAbs
          rw [ex, Int.natAbs_mul]
          have : 0 < x'.natAbs := by omega
          have g2 : 2 ≤ g := by omega
          show x'.natAbs < g * x'.natAbs
          exact Nat.lt_of_lt_of_le (by omega) (Nat.mul_le_mul_right _ g2)
    · rintro σ H' Q1 Q2 hq ⟨v, e, e2, k, t, q1⟩
      exact ⟨v, e, e2, k, t, hq _ _ q1⟩
end
end Bw
set_option Elab.async false
set_option linter.all false
set_option maxRecDepth 100000
set_option maxHeartbeats 4000000
namespace Bw
open PySem PySem.Spec PyProof.Rows L2
/-! ### worths that stay whole, pure -/
def sM (m k : Nat) (B : Nat → Nat → Int) (w : Nat → Nat) : Nat := pr (fun i => w i ^ (B i k).toNat) m + pr (fun i => w i ^ (-(B i k)).toNat) m
theorem pr_more {f g : Nat → Nat} {n : Nat} (h : ∀ i, i < n → f i = g i) : ∀ {m : Nat}, n ≤ m → (∀ i, n ≤ i → f i = 1) → pr f m = pr g n
  | 0, hn, _ => by
    have : n = 0 := by omega
    subst this
    rfl
  | m + 1, hn, h1 => by
    by_cases e : n = m + 1
    · subst e
      exact pr_congr h
    · show pr f m * f m = _
      rw [h1 m (by omega), Nat.mul_one]
      exact pr_more h (by omega) h1
theorem sM_sS {n m k : Nat} {B : Nat → Nat → Int} {w : Nat → Nat} (hn : n ≤ m) (hk : k < n) (h0 : B k k = 0) (h1 : ∀ i, n ≤ i → w i = 1) : sM m k B w = sS n k B w := by
  unfold sM sS
  rw [pr_more (n := n) (m := m) (f := fun i => w i ^ (B i k).toNat) (g := fun i => if i = k then 1 else w i ^ (B i k).toNat) (fun i hi => by
      split
      · next e => rw [e, h0]; rfl
      · rfl) hn fun i hi => by rw [h1 i hi, Nat.one_pow],
    pr_more (n := n) (m := m) (f := fun i => w i ^ (-(B i k)).toNat) (g := fun i => if i = k then 1 else w i ^ (-(B i k)).toNat) (fun i hi => by
      split
      · next e => rw [e, h0]; rfl
      · rfl) hn fun i hi => by rw [h1 i hi, Nat.one_pow]]
theorem pr_pos {f : Nat → Nat} : ∀ {m : Nat}, (∀ i, i < m → 0 < f i) → 0 < pr f m
  | 0, _ => Nat.one_pos
  | m + 1, h => Nat.mul_pos (pr_pos fun i hi => h i (by omega)) (h m (by omega))
theorem pr_lt {f : Nat → Nat} {b : Nat} : ∀ {m : Nat}, (∀ i, i < m → f i < 2 ^ b) → pr f m < 2 ^ (b * m + 1)
  | 0, _ => by show 1 < 2 ^ (b * 0 + 1); rw [Nat.mul_zero]; decide
  | m + 1, h => by
    show pr f m * f m < _
    have h1 := pr_lt fun i hi => h i (Nat.lt_succ_of_lt hi)
    have h2 := h m (by omega)
    have e : b * (m + 1) + 1 = (b * m + 1) + b := by rw [Nat.mul_succ]; omega
    rw [e, Nat.pow_add]
    exact Nat.mul_lt_mul'' h1 h2
theorem g60_lt : g60 < 2 ^ 200 := by decide +kernel
theorem wp_lt {w : Nat} {t : Int} (h : w < g60) (t1 : -50 ≤ t) (t2 : t ≤ 50) : w ^ t.toNat < 2 ^ 10001 := by
  have := pow_lt (b := (w : Int)) (e := t.toNat) (by have := g60_lt; show w < 2 ^ 200; omega) (by omega)
  rw [Int.natAbs_pow] at this
  exact this
theorem pr_wlt {w : Nat → Nat} {c : Nat → Int} {m : Nat} (m8 : m ≤ 8) (h : ∀ i, w i < g60) (hc : ∀ i, i < m → -50 ≤ c i ∧ c i ≤ 50) {i : Nat} (hi : i ≤ m) : pr (fun i => w i ^ (c i).toNat) i < 2 ^ 90000 :=
  Nat.lt_of_lt_of_le (pr_lt (b := 10001) fun j hj => wp_lt (h j) (hc j (by omega)).1 (hc j (by omega)).2) (Nat.pow_le_pow_right (by decide) (by omega))
theorem sM_pos {m k : Nat} {B : Nat → Nat → Int} {w : Nat → Nat} (h : ∀ i, 0 < w i) : 0 < sM m k B w := Nat.add_pos_left (pr_pos fun i _ => Nat.pow_pos (h i)) _
theorem turnE_tE (B : Nat → Nat → Int) (k i j : Nat) : turnE B k i j = tE B k i j := by
  unfold turnE tE gT
  split
  · rfl
  · split
    · rfl
    · split
      · omega
      · omega
structure StB (n m : Nat) (rows : List (List Int)) (w : Nat → Nat) : Prop where
  tab : TabOk rows n
  len : rows.length = m
  pos : ∀ i, 0 < w i
  lt : ∀ i, w i < g60
structure StOk (n m f k : Nat) (rows : List (List Int)) (w : Nat → Nat) : Prop where
  b : StB n m rows w
  one : ∀ i, n ≤ i → w i = 1
  wh : Wh n f k (ent rows) w
theorem diag0 {rows : List (List Int)} {n k : Nat} (O : TabOk rows n) (hk : k < n) : ent rows k k = 0 := by
  obtain ⟨d, d0, dv⟩ := O.even
  have h1 := dv k k hk hk
  have h2 : d k * ent rows k k = 0 := by omega
  rcases Int.mul_eq_zero.mp h2 with h | h
  · have := d0 k hk
    omega
  · exact h
def stepF (n m : Nat) (s : List (List Int) × (Nat → Nat)) (k : Nat) : Option (List (List Int) × (Nat → Nat)) :=
  if fitB s.1 n k = true ∧ sM m k (ent s.1) s.2 / s.2 k < g60 then some (turnT s.1 n k, upW s.2 k (sM m k (ent s.1) s.2 / s.2 k)) else none
theorem StOk.dvd {n m f k : Nat} {rows : List (List Int)} {w : Nat → Nat} (h : StOk n m (f + 1) k rows w) (hk : k < n) (hf : fits rows n k) : w k ∣ sM m k (ent rows) w ∧ (sM m k (ent rows) w / w k < g60 → StOk n m f ((k + 1) % n) (turnT rows n k) (upW w k (sM m k (ent rows) w / w k))) := by
  have hl := h.b.tab.len
  have e := sM_sS (m := m) (B := ent rows) (w := w) (by have := h.b.len; omega) hk (diag0 h.b.tab hk) h.one
  rw [e]
  have te : ∀ i j, i < n → j < n → tE (ent rows) k i j = ent (turnT rows n k) i j := fun i j hi hj => by rw [turnT_ent (by omega) hj, turnE_tE]
  obtain ⟨h1, h2⟩ := h.wh fun i j hi hj => by
    rw [te i j hi hj]
    exact (h.b.tab.wd.turn hf).bd (by rw [turnT_len]; omega) hj
  refine ⟨h1, fun hlt => ⟨⟨h.b.tab.turn hk hf, by rw [turnT_len]; exact h.b.len, fun i => ?_, fun i => ?_⟩, fun i hi => ?_, Wh_congr (Nat.mod_lt _ (by omega)) te (fun _ _ => rfl) (h2 hlt)⟩⟩
  · unfold upW
    split
    · have p := sM_pos (m := m) (k := k) (B := ent rows) h.b.pos
      rw [e] at p
      exact Nat.div_pos (Nat.le_of_dvd p h1) (h.b.pos k)
    · exact h.b.pos i
  · unfold upW
    split
    · exact hlt
    · exact h.b.lt i
  · unfold upW
    rw [if_neg (by omega)]
    exact h.one i hi
def seqF (n m : Nat) (s : List (List Int) × (Nat → Nat)) : Nat → Option (List (List Int) × (Nat → Nat))
  | 0 => some s
  | j + 1 => (seqF n m s j).bind fun t => stepF n m t (j % n)
theorem seq_none {n m : Nat} {s : List (List Int) × (Nat → Nat)} {j : Nat} (h : seqF n m s j = none) : ∀ d, seqF n m s (j + d) = none
  | 0 => h
  | d + 1 => by
    show (seqF n m s (j + d)).bind _ = none
    rw [seq_none h d]
    rfl
theorem seq_none_le {n m : Nat} {s : List (List Int) × (Nat → Nat)} {j i : Nat} (h : seqF n m s j = none) (l : j ≤ i) : seqF n m s i = none := by
  have := seq_none h (i - j)
  rw [show j + (i - j) = i by omega] at this
  exact this
theorem seq_some_le {n m : Nat} {s t : List (List Int) × (Nat → Nat)} {j i : Nat} (h : seqF n m s i = some t) (l : j ≤ i) : ∃ u, seqF n m s j = some u := by
  cases e : seqF n m s j with
  | some u => exact ⟨u, rfl⟩
  | none =>
    rw [seq_none_le e l] at h
    cases h
theorem step_ok {n m f k : Nat} {s t : List (List Int) × (Nat → Nat)} (h : StOk n m (f + 1) k s.1 s.2) (hk : k < n) (e : stepF n m s k = some t) : StOk n m f ((k + 1) % n) t.1 t.2 := by
  unfold stepF at e
  split at e
  · next c =>
    have e := Option.some.inj e
    subst e
    exact (h.dvd hk (fitB_iff.mp c.1)).2 c.2
  · cases e
theorem seq_ok {n m F : Nat} {s : List (List Int) × (Nat → Nat)} (n1 : 1 ≤ n) (h : StOk n m F 0 s.1 s.2) : ∀ {j : Nat} {t : List (List Int) × (Nat → Nat)}, j ≤ F → seqF n m s j = some t → StOk n m (F - j) (j % n) t.1 t.2
  | 0, t, _, e => by
    have e := Option.some.inj e
    subst e
    rw [Nat.zero_mod]
    exact h
  | j + 1, t, hj, e => by
    cases eu : seqF n m s j with
    | none =>
      rw [seq_none_le eu (Nat.le_succ j)] at e
      cases e
    | some u =>
      have ih := seq_ok n1 h (by omega) eu
      have e2 : stepF n m u (j % n) = some t := by
        have : (seqF n m s j).bind (fun t => stepF n m t (j % n)) = some t := e
        rw [eu] at this
        exact this
      have hF : F - j = (F - (j + 1)) + 1 := by omega
      rw [hF] at ih
      have := step_ok ih (Nat.mod_lt _ (by omega)) e2
      rw [Nat.mod_add_mod] at this
      exact this
theorem seq_next {n m : Nat} {s t : List (List Int) × (Nat → Nat)} {j : Nat} (h : seqF n m s j = some t) : seqF n m s (j + 1) = stepF n m t (j % n) := by
  show (seqF n m s j).bind _ = _
  rw [h]
  rfl
theorem at_mod {n i p : Nat} (hp : p < n) : (i * n + p) % n = p := by
  rw [Nat.add_comm, Nat.add_mul_mod_self_right, Nat.mod_eq_of_lt hp]
end Bw
set_option Elab.async false
set_option linter.all false
set_option maxRecDepth 100000
set_option maxHeartbeats 4000000
namespace Bw
open PySem PySem.Spec PyProof.Rows L2
theorem op_fdivNW {X : Cx} : OpR X (binaryOp .FloorDiv) (rI (fun _ j => j ≠ 0 ∧ j.natAbs.log2 < 9000) fun i j => .int (i.fdiv j)) := opI fun _ _ _ _ _ _ _ hc q => floordiv_int hc.1 q (.inl (PyProof.noPylong_of_log2 hc.2))
theorem gcd_fmod (x y : Int) : Nat.gcd y.natAbs (x.fmod y).natAbs = Nat.gcd x.natAbs y.natAbs := by
  have e := Int.mul_fdiv_add_fmod x y
  apply Nat.dvd_antisymm
  · have h1 : ((Nat.gcd y.natAbs (x.fmod y).natAbs : Nat) : Int) ∣ y := Int.ofNat_dvd_left.mpr (Nat.gcd_dvd_left ..)
    have h2 : ((Nat.gcd y.natAbs (x.fmod y).natAbs : Nat) : Int) ∣ x.fmod y := Int.ofNat_dvd_left.mpr (Nat.gcd_dvd_right ..)
    have h3 : ((Nat.gcd y.natAbs (x.fmod y).natAbs : Nat) : Int) ∣ x := by
      have h4 := Int.dvd_add (Int.dvd_trans h1 (Int.dvd_mul_right y (x.fdiv y))) h2
      rw [e] at h4
      exact h4
    exact Nat.dvd_gcd (Int.ofNat_dvd_left.mp h3) (Nat.gcd_dvd_left ..)
  · have h1 : ((Nat.gcd x.natAbs y.natAbs : Nat) : Int) ∣ x := Int.ofNat_dvd_left.mpr (Nat.gcd_dvd_left ..)
    have h2 : ((Nat.gcd x.natAbs y.natAbs : Nat) : Int) ∣ y := Int.ofNat_dvd_left.mpr (Nat.gcd_dvd_right ..)
    have h3 : ((Nat.gcd x.natAbs y.natAbs : Nat) : Int) ∣ x.fmod y := by
      have e2 : x.fmod y = x - y * x.fdiv y := by omega
      rw [e2]
      exact Int.dvd_sub h1 (Int.dvd_trans h2 (Int.dvd_mul_right ..))
    exact Nat.dvd_gcd (Nat.gcd_dvd_right ..) (Int.ofNat_dvd_left.mp h3)
theorem fmod_lt {x y : Int} (h : y ≠ 0) : (x.fmod y).natAbs < y.natAbs := by
  have h1 := Int.emod_nonneg x h
  have h2 := Int.emod_lt x h
  rw [Int.fmod_eq_emod]
  split
  · omega
  · next c =>
    have c1 : ¬ 0 ≤ y := fun z => c (.inl z)
    have c2 : x % y ≠ 0 := fun z => c (.inr (Int.dvd_of_emod_eq_zero z))
    omega
theorem Low.le {t u t' u' : Int} (u0 : u ≠ 0) (h : Low t u t' u') : t'.natAbs ≤ t.natAbs ∧ u'.natAbs ≤ u.natAbs := by
  have e : t'.natAbs * u.natAbs = t.natAbs * u'.natAbs := by rw [← Int.natAbs_mul, ← Int.natAbs_mul, h.eq]
  have hp := h.pos
  have h2 : u'.natAbs ∣ u.natAbs := Nat.Coprime.dvd_of_dvd_mul_left (show Nat.Coprime u'.natAbs t'.natAbs by rw [Nat.coprime_comm]; exact h.cop) (by rw [e]; exact Nat.dvd_mul_left ..)
  have l2 := Nat.le_of_dvd (by omega) h2
  refine ⟨?_, l2⟩
  by_cases z : t = 0
  · subst z
    have : t'.natAbs * u.natAbs = 0 := by rw [e]; exact Nat.zero_mul _
    rcases Nat.mul_eq_zero.mp this with h | h
    · omega
    · omega
  · have h1 : t'.natAbs ∣ t.natAbs := Nat.Coprime.dvd_of_dvd_mul_right (show Nat.Coprime t'.natAbs u'.natAbs from h.cop) (by rw [← e]; exact Nat.dvd_mul_right ..)
    exact Nat.le_of_dvd (by omega) h1
/-- a part at a place -/
def PartAt (H : Hp) (a : Addr) (t u : Int) : Prop := H a = some (.tup [.int t, .int u])
section
variable {P : Program} {w : World} {K : PySem.W.Frag} {mg : Str → Option Value} {base : Heap}
abbrev s_law_gcd : Stmt := topS 42
abbrev n_law_gcd : List Str := ["_law_one", "_law_other"]
theorem sc_law_gcd : FnScope n_law_gcd ["_law_one", "_law_other"] (defScope s_law_gcd) := ⟨rfl, rfl, rfl, by decide +kernel, rfl, by decide +kernel, by decide +kernel⟩
theorem ok_lgcd {f : Addr} {fd : FuncData} {k : Nat} (F : Fun K "_law_gcd" "_law_gcd" s_law_gcd f fd) (T : Tx mg) : FnOk P w K mg base CX0 (k + 1) f fd ["_law_one", "_law_other"] spCom := by
  refine F.ok sc_law_gcd (fun vs H Q E h => ?_) (fun cdv A outer s H vs Q E hr h => ?_)
  · obtain ⟨a, b, rfl, _⟩ := h
    rfl
  · obtain ⟨a, b, rfl, q⟩ := h
    refine ⟨_, (pss_cons (ps_while PassesOwn.never (pt_truth (pv 1) (by intro _; rfl))
    (pss_one (ps_par (i := 0) (j := 1) (by rfl) sc_law_gcd.nd rfl rfl (by decide) rfl rfl (pa_cons (pv 1) (pa_cons (pe_op op_modN (pv 0) (pv 1)) pa_nil)) (by rfl))))
  (pss_one (ps_ret (pe_callB call_abs (by rfl) T.abs (by decide +kernel) (pa_cons (pv 0) pa_nil))))), ?_⟩
    refine while_by (fun σ H' => ∃ x y : Int, σ = [some (.int x), some (.int y)] ∧ Nat.gcd x.natAbs y.natAbs = Nat.gcd a.natAbs b.natAbs ∧ H' = H) (fun σ _ => match σ with | [_, some (.int y)] => y.natAbs | _ => 0) ⟨a, b, rfl, rfl, rfl⟩ ?_ ?_
    · rintro σ H' ⟨x, y, rfl, hg, rfl⟩
      refine ⟨.int y, rfl, (y != 0), rfl, ?_⟩
      by_cases hy : y = 0
      · subst hy
        refine iteF ⟨_, rfl, _, rfl, ?_⟩
        rw [abs_nat]
        rw [show ((0 : Int)).natAbs = 0 from rfl, Nat.gcd_zero_right] at hg
        rw [hg]
        exact q
      · have e : (y != 0) = true := by simp [hy]
        rw [e]
        refine iteT ⟨_, rfl, _, rfl, _, rfl, _, _, rfl, rfl, hy, _, _, rfl, ?_, ?_⟩
        · exact ⟨y, x.fmod y, rfl, (gcd_fmod x y).trans hg, rfl⟩
        · exact fmod_lt hy
    · rintro σ H' Q1 Q2 hq ⟨v, e, b', h1, h2⟩
      exact ⟨v, e, b', h1, hq _ _ h2⟩
abbrev s_law_low : Stmt := topS 43
abbrev n_law_low : List Str := ["_law_top", "_law_under", "_law_by"]
theorem sc_law_low : FnScope n_law_low ["_law_top", "_law_under"] (defScope s_law_low) := ⟨rfl, rfl, rfl, by decide +kernel, rfl, by decide +kernel, by decide +kernel⟩
def spLLow : Sp := fun vs H Q _ => ∃ (t u : Int), vs = [.int t, .int u] ∧ u ≠ 0 ∧ u.natAbs < 2 ^ 8000 ∧ ∀ (p : Addr) (H' : Hp) (t' u' : Int), Same H H' → H p = none → PartAt H' p t' u' → Low t u t' u' → Q (.ref p) H'
theorem low_of {t u by' : Int} {g : Nat} (u0 : u ≠ 0) (eg : Nat.gcd t.natAbs u.natAbs = g) (hb : by' = (g : Int) ∧ 0 < u ∨ by' = -(g : Int) ∧ u < 0) : by' ≠ 0 ∧ Low t u (t.fdiv by') (u.fdiv by') := by
  have gu : g ∣ u.natAbs := eg ▸ Nat.gcd_dvd_right ..
  have gt : g ∣ t.natAbs := eg ▸ Nat.gcd_dvd_left ..
  have g0 : 0 < g := Nat.pos_of_dvd_of_pos gu (by omega)
  have b0 : by' ≠ 0 := by omega
  have bn : by'.natAbs = g := by omega
  obtain ⟨x, ex⟩ : by' ∣ t := Int.natAbs_dvd_natAbs.mp (by rw [bn]; exact gt)
  obtain ⟨y, ey⟩ : by' ∣ u := Int.natAbs_dvd_natAbs.mp (by rw [bn]; exact gu)
  have dx : t.fdiv by' = x := by rw [ex, Int.mul_comm]; exact Int.mul_fdiv_cancel _ b0
  have dy : u.fdiv by' = y := by rw [ey, Int.mul_comm]; exact Int.mul_fdiv_cancel _ b0
  rw [dx, dy]
  refine ⟨b0, ?_, ?_, ?_⟩
  · rw [ex, ey, Int.mul_left_comm, Int.mul_assoc]
  · rcases hb with ⟨h1, h2⟩ | ⟨h1, h2⟩
    · have hb0 : 0 < by' := by omega
      rw [ey] at h2
      exact Int.pos_of_mul_pos_left (by rw [Int.mul_comm]; exact h2) (by omega)
    · have hb0 : by' < 0 := by omega
      rw [ey] at h2
      refine Classical.byContradiction fun z => ?_
      have := Int.mul_nonneg_of_nonpos_of_nonpos (show by' ≤ 0 by omega) (show y ≤ 0 by omega)
      omega
  · rw [ex, ey, Int.natAbs_mul, Int.natAbs_mul, bn, Nat.gcd_mul_left] at eg
    have e2 : g * Nat.gcd x.natAbs y.natAbs = g * 1 := by rw [eg, Nat.mul_one]
    exact Nat.eq_of_mul_eq_mul_left g0 e2
theorem ok_llow {f : Addr} {fd : FuncData} (F : Fun K "_law_low" "_law_low" s_law_low f fd) (T : Tx mg) (c_law_gcd : Cal P w K mg base CX0 1 "_law_gcd" ["_law_one", "_law_other"] spCom) : FnOk P w K mg base CX0 2 f fd ["_law_top", "_law_under"] spLLow := by
  refine F.ok sc_law_low (fun vs H Q E h => ?_) (fun cdv A outer s H vs Q E hr h => ?_)
  · obtain ⟨t, u, rfl, _⟩ := h
    rfl
  · obtain ⟨t, u, rfl, u0, ub, q⟩ := h
    refine ⟨_, (pss_cons (ps_set (i := 2) sc_law_low.nd rfl (.inl rfl) (pe_cal c_law_gcd hr (by rfl) (pa_cons (pv 0) (pa_cons (pv 1) pa_nil))))
  (pss_cons (ps_if (pt_cmpR op_lt (pv 1) pe_int (nomark _))
    (pss_one (ps_set (i := 2) sc_law_low.nd rfl (.inl rfl) (pe_op op_sub pe_int (pv 2))))
    pss_nil)
  (pss_one (ps_ret (pe_tup (pa_cons (pe_op op_fdivNW (pv 0) (pv 2)) (pa_cons (pe_op op_fdivNW (pv 1) (pv 2)) pa_nil))))))), ?_⟩
    refine ⟨.int t, rfl, .int u, rfl, _, _, rfl, ?_⟩
    generalize eg : Nat.gcd t.natAbs u.natAbs = g
    have gl : g ≤ u.natAbs := Nat.le_of_dvd (by omega) (eg ▸ Nat.gcd_dvd_right ..)
    have lg : ∀ b : Int, b.natAbs = g → b.natAbs.log2 < 9000 := fun b h => by
      rw [h]
      exact Nat.lt_of_lt_of_le (PySem.Flt.log2_lt_of (by decide) (Nat.lt_of_le_of_lt gl ub)) (by decide)
    refine ⟨.int u, rfl, _, _, rfl, rfl, _, rfl, ite2 (fun z => ?_) (fun z => ?_)⟩
    · have z := of_decide_eq_true z
      have e0 : (0 : Int) - (g : Int) = -(g : Int) := by omega
      refine ⟨_, rfl, _, _, rfl, rfl, ?_⟩
      dsimp only
      rw [e0]
      obtain ⟨b0, L⟩ := low_of u0 eg (.inr ⟨rfl, z⟩)
      have hl := lg (-(g : Int)) (by omega)
      refine ⟨_, rfl, _, rfl, _, _, rfl, rfl, ⟨b0, hl⟩, _, rfl, _, rfl, _, _, rfl, rfl, ⟨b0, hl⟩, by show 2 ≤ sizeLine; decide, fun p ep => ?_⟩
      exact q p _ _ _ (same_upd ep) ep upd_same L
    · have z : ¬ u < 0 := fun h => z (decide_eq_true h)
      obtain ⟨b0, L⟩ := low_of u0 eg (.inl ⟨rfl, by omega⟩)
      have hl := lg (g : Int) rfl
      refine ⟨_, rfl, _, rfl, _, _, rfl, rfl, ⟨b0, hl⟩, _, rfl, _, rfl, _, _, rfl, rfl, ⟨b0, hl⟩, by show 2 ≤ sizeLine; decide, fun p ep => ?_⟩
      exact q p _ _ _ (same_upd ep) ep upd_same L
theorem PartAt.sq {H : Hp} {a : Addr} {t u : Int} (h : PartAt H a t u) : SqT K H a [.int t, .int u] := SqT.of h
end
end Bw
set_option Elab.async false
set_option linter.all false
set_option maxRecDepth 100000
set_option maxHeartbeats 4000000
namespace Bw
open PySem PySem.Spec PyProof.Rows L2
/-! ### lists of whole worths -/
def WsAt (H : Hp) (L : Addr) (m : Nat) (w : Nat → Nat) : Prop := ∃ rs : List Addr, H L = some (.lst (rs.map V.ref)) ∧ rs.length = m ∧ ∀ (j : Nat) (r : Addr), rs[j]? = some r → PartAt H r (w j : Nat) 1
theorem WsAt.same {H H' : Hp} {L : Addr} {m : Nat} {w : Nat → Nat} (s : Same H H') (h : WsAt H L m w) : WsAt H' L m w := by
  obtain ⟨rs, h1, h2, h3⟩ := h
  exact ⟨rs, s _ _ h1, h2, fun j r e => s _ _ (h3 j r e)⟩
theorem ref_at {rs : List Addr} {j : Nat} {v : V} (h : (rs.map V.ref)[j]? = some v) : ∃ r, rs[j]? = some r ∧ v = .ref r := by
  rw [List.getElem?_map] at h
  obtain ⟨r, e, rfl⟩ := Option.map_eq_some_iff.mp h
  exact ⟨r, e, rfl⟩
theorem WsAt.at {H : Hp} {L : Addr} {m : Nat} {w : Nat → Nat} (h : WsAt H L m w) {k : Nat} (hk : k < m) : ∃ (rs : List Addr) (r : Addr), H L = some (.lst (rs.map V.ref)) ∧ (rs.map V.ref)[k]? = some (.ref r) ∧ PartAt H r (w k : Nat) 1 := by
  obtain ⟨rs, h1, h2, h3⟩ := h
  have e : rs[k]? = some rs[k] := List.getElem?_eq_getElem (by omega)
  exact ⟨rs, rs[k], h1, by rw [List.getElem?_map, e]; rfl, h3 k _ e⟩
theorem splice {H : Hp} {rs : List Addr} {m k : Nat} {w : Nat → Nat} {x : Nat} {p c : Addr} (hl : rs.length = m) (hk : k < m) (h : ∀ (j : Nat) (r : Addr), rs[j]? = some r → PartAt H r (w j : Nat) 1) (hp : PartAt H p (x : Nat) 1) (hc : H c = some (.lst ((rs.map V.ref).take k ++ [V.ref p] ++ (rs.map V.ref).drop (k + 1)))) : WsAt H c m (upW w k x) := by
  refine ⟨rs.take k ++ [p] ++ rs.drop (k + 1), ?_, ?_, fun j r e => ?_⟩
  · rw [hc, List.map_append, List.map_append, List.map_take, List.map_drop]
    rfl
  · rw [List.length_append, List.length_append, List.length_take, List.length_drop, List.length_singleton]
    omega
  · unfold upW
    rw [List.append_assoc, List.getElem?_append] at e
    split at e
    · next c1 =>
      rw [List.length_take] at c1
      rw [List.getElem?_take, if_pos (by omega)] at e
      rw [if_neg (by omega)]
      exact h j r e
    · next c1 =>
      rw [List.length_take] at c1 e
      by_cases ej : j = k
      · subst ej
        rw [if_pos rfl]
        rw [show j - min j rs.length = 0 by omega] at e
        have : p = r := Option.some.inj e
        subst this
        exact hp
      · rw [if_neg ej]
        rw [show j - min k rs.length = (j - k - 1) + 1 by omega, List.singleton_append, List.getElem?_cons_succ, List.getElem?_drop, show k + 1 + (j - k - 1) = j by omega] at e
        exact h j r e
theorem low_one (t : Int) : Low t 1 t 1 := ⟨rfl, by decide, Nat.gcd_one_right _⟩
theorem low_div {t x : Nat} (hx : 0 < x) (h : x ∣ t) : Low (t : Int) (x : Int) ((t / x : Nat) : Int) 1 := by
  obtain ⟨y, rfl⟩ := h
  rw [Nat.mul_div_cancel_left _ hx]
  refine ⟨?_, by decide, Nat.gcd_one_right _⟩
  rw [Int.natCast_mul, Int.mul_one, Int.mul_comm]
section
variable {P : Program} {w : World} {K : PySem.W.Frag} {mg : Str → Option Value} {base : Heap}
abbrev s_side_worth : Stmt := topS 32
abbrev n_side_worth : List Str := ["worths", "column", "top", "under", "worth", "tie"]
theorem sc_side_worth : FnScope n_side_worth ["worths", "column"] (defScope s_side_worth) := ⟨rfl, rfl, rfl, by decide +kernel, rfl, by decide +kernel, by decide +kernel⟩
def spSide : Sp := fun vs H Q _ => ∃ (L c : Addr) (m : Nat) (w : Nat → Nat) (col : Nat → Int), vs = [.ref L, .ref c] ∧ WsAt H L m w ∧ H c = some (.lst ((matRow m col).map V.int)) ∧ m ≤ 8 ∧ (∀ i, w i < g60) ∧ (∀ i, i < m → -50 ≤ col i ∧ col i ≤ 50) ∧
  ∀ (p : Addr) (H' : Hp), Same H H' → PartAt H' p (pr (fun i => w i ^ (col i).toNat) m : Nat) 1 → Q (.ref p) H'
theorem ok_side {f : Addr} {fd : FuncData} (F : Fun K "side_worth" "side_worth" s_side_worth f fd) (T : Tx mg) (c_power_of : Cal P w K mg base CX0 1 "power_of" ["base", "many"] spPow) : FnOk P w K mg base CX0 2 f fd ["worths", "column"] spSide := by
  refine F.ok sc_side_worth (fun vs H Q E h => ?_) (fun cdv A outer s H vs Q E hr h => ?_)
  · obtain ⟨L, c, m, w, col, rfl, _⟩ := h
    rfl
  · obtain ⟨L, c, m, w, col, rfl, hL, hc, m8, hw, hcl, q⟩ := h
    refine ⟨_, (pss_cons (ps_set (i := 2) sc_side_worth.nd rfl (.inl rfl) pe_int)
  (pss_cons (ps_set (i := 3) sc_side_worth.nd rfl (.inl rfl) pe_int)
  (pss_cons (ps_for PassesOwn.never rfl (p_zipA (K := K) (by rfl) T.zip (pa_cons (pv 0) (pa_cons (pv 1) pa_nil))) (g_tup (K := K) (n := 2) rfl (pgs_cons (pg_name (i := 4) sc_side_worth.nd rfl (.inl rfl)) (pgs_cons (pg_name (i := 5) sc_side_worth.nd rfl (.inl rfl)) pgs_nil)))
    (pss_one (ps_if (pt_cmpR op_gt (pv 5) pe_int (nomark _))
      (pss_cons (ps_aug (i := 2) sc_side_worth.nd rfl (.inl rfl) (pe_cal c_power_of hr (by rfl) (pa_cons (pe_ix (i_tup (K := K)) (pv 4) pe_int (fun _ _ => rfl)) (pa_cons (pv 5) pa_nil))) ip_mulW)
      (pss_one (ps_aug (i := 3) sc_side_worth.nd rfl (.inl rfl) (pe_cal c_power_of hr (by rfl) (pa_cons (pe_ix (i_tup (K := K)) (pv 4) pe_int (fun _ _ => rfl)) (pa_cons (pv 5) pa_nil))) ip_mulW)))
      pss_nil)))
  (pss_one (ps_ret (pe_tup (pa_cons (pv 2) (pa_cons (pv 3) pa_nil)))))))), ?_⟩
    obtain ⟨rs, h1, h2, h3⟩ := hL
    refine ⟨.ref L, rfl, .ref c, rfl, L, c, _, _, rfl, .inl ⟨SqL.of h1, SqL.of hc, RZ.for_zipL (by rw [List.length_map, List.length_map, matRow_len, h2]) (fun i σ H' => ∃ y4 y5 : Option V, σ = [some (.ref L), some (.ref c), some (.int (pr (fun i => w i ^ (col i).toNat) i : Nat)), some (.int 1), y4, y5] ∧ Same H H') ⟨none, none, rfl, .refl _⟩ (fun i σ H' ⟨_, _, _, s⟩ => ⟨SqL.of (s _ _ h1), SqL.of (s _ _ hc)⟩) ?_ ?_⟩⟩
    · rintro i x y Tt σ H1 hx hy ⟨y4, y5, rfl, s1⟩ nT
      obtain ⟨r, er, rfl⟩ := ref_at hx
      obtain ⟨t, et, rfl⟩ := int_at hy
      have hi : i < m := by
        have := (List.getElem?_eq_some_iff.mp er).1
        omega
      have ht : t = col i := by
        rw [matRow_get hi] at et
        exact (Option.some.inj et).symm
      have hb := hcl i hi
      rw [← ht] at hb
      have sT := s1.trans (same_upd (o := .tup [V.ref r, .int t]) nT)
      have hr3 := sT _ _ (h3 i r er)
      refine ⟨Tt, _, rfl, SqT.of upd_same, rfl, _, _, rfl, _, _, rfl, rfl, ?_⟩
      refine ⟨.int t, rfl, _, _, rfl, rfl, _, rfl, ite2 (fun z => ?_) (fun z => ?_)⟩
      · have z : t > 0 := of_decide_eq_true z
        obtain ⟨e, rfl⟩ : ∃ e : Nat, t = (e : Int) := ⟨t.toNat, by omega⟩
        have e50 : e ≤ 50 := by omega
        have hwl : ((w i : Nat) : Int).natAbs < 2 ^ 200 := Nat.lt_trans (hw i) g60_lt
        have a1 : ((pr (fun i => w i ^ (col i).toNat) i : Nat) : Int).natAbs < 2 ^ 90000 := pr_wlt m8 hw hcl (Nat.le_of_lt hi)
        refine ⟨_, rfl, .ref r, rfl, r, _, 0, .int (w i : Nat), rfl, rfl, SqT.of hr3, rfl, .int (e : Int), rfl, (w i : Nat), e, rfl, hwl, e50, _, _, rfl, rfl, wide_mul a1 (pow_lt hwl e50) (by decide) (by decide) (by decide), ?_⟩
        refine ⟨_, rfl, .ref r, rfl, r, _, 1, .int 1, rfl, rfl, SqT.of hr3, rfl, .int (e : Int), rfl, 1, e, rfl, by decide, e50, _, _, rfl, rfl, wide_mul (a := 1) (show (1 : Int).natAbs < 2 ^ 1 by decide) (pow_lt (by decide) e50) (by decide) (by decide) (by decide), ?_⟩
        refine ⟨some (.ref r), some (.int (e : Int)), ?_, sT⟩
        have ep : ((pr (fun i => w i ^ (col i).toNat) i : Nat) : Int) * ((w i : Nat) : Int) ^ e = ((pr (fun i => w i ^ (col i).toNat) (i + 1) : Nat) : Int) := by
          show _ = ((pr (fun i => w i ^ (col i).toNat) i * w i ^ (col i).toNat : Nat) : Int)
          rw [← ht, Int.toNat_natCast, Int.natCast_mul, Int.natCast_pow]
        rw [← ep, Int.one_pow]
        rfl
      · have z : ¬ t > 0 := fun h => z (decide_eq_true h)
        refine ⟨some (.ref r), some (.int t), ?_, sT⟩
        have ep : pr (fun i => w i ^ (col i).toNat) (i + 1) = pr (fun i => w i ^ (col i).toNat) i := by
          show pr (fun i => w i ^ (col i).toNat) i * w i ^ (col i).toNat = _
          rw [← ht, show t.toNat = 0 by omega, Nat.pow_zero, Nat.mul_one]
        rw [ep]
        rfl
    · rintro σ H1 ⟨y4, y5, rfl, s1⟩
      rw [List.length_map, h2]
      refine ⟨_, rfl, _, rfl, by show 2 ≤ sizeLine; decide, fun p ep => ?_⟩
      exact q p _ (s1.trans (same_upd ep)) upd_same
abbrev s_check_bud : Stmt := topS 22
abbrev n_check_bud : List Str := ["table", "place"]
theorem sc_check_bud : FnScope n_check_bud ["table", "place"] (defScope s_check_bud) := ⟨rfl, rfl, rfl, by decide +kernel, rfl, by decide +kernel, by decide +kernel⟩
theorem pe_nev {X : Cx} {e : Expr} : PE X e (fun _ _ _ => False) := ⟨fun _ _ _ _ _ _ h => h.elim⟩
def spCkGood : Sp := fun vs H Q _ => ∃ (a : Addr) (rows : List (List Int)) (n k : Nat), vs = [.ref a, .int k] ∧ TabAt H a rows ∧ 0 < rows.length ∧ (∀ r ∈ rows, r.length = n) ∧ k < n ∧ Q .non H
theorem ok_ckbud {f : Addr} {fd : FuncData} (F : Fun K "check_bud" "check_bud" s_check_bud f fd) (T : Tx mg)
    (c_is_number : Cal P w K mg base CX0 1 "is_number" ["thing"] spIsNum) (c_bud_count : Cal P w K mg base CX0 1 "bud_count" ["table"] spBuds) : FnOk P w K mg base CX0 2 f fd ["table", "place"] spCkGood := by
  refine F.ok sc_check_bud (fun vs H Q E h => ?_) (fun cdv A outer s H vs Q E hr h => ?_)
  · obtain ⟨a, rows, n, k, rfl, _⟩ := h
    rfl
  · obtain ⟨a, rows, n, k, rfl, hT, h0, hw, hk, q⟩ := h
    refine ⟨_, (pss_one (ps_if (PW.pt (pw_or (pt_not (pt_val (pe_cal c_is_number hr (by rfl) (pa_cons (pv 1) pa_nil)))) (pw_or1 (pt_not (pt_chain op_le op_lt pe_int (pv 1) (pe_cal c_bud_count hr (by rfl) (pa_cons (pv 0) pa_nil)))))))
    pss_never
    pss_nil)), ?_⟩
    refine ⟨.int k, rfl, (k : Int), rfl, true, rfl, iteF ?_⟩
    refine ⟨.int k, rfl, _, _, rfl, rfl, _, rfl, ite2 (fun h1 => ?_) (fun h1 => ?_)⟩
    · refine ⟨.ref a, rfl, a, rows, n, rfl, hT, h0, hw, _, _, rfl, rfl, _, rfl, ite2 (fun h2 => ?_) (fun h2 => ?_)⟩
      · rw [decide_eq_true (show ((k : Nat) : Int) < (n : Int) by omega)] at h2
        exact absurd h2 (by decide)
      · exact q
    · exact absurd (decide_eq_true (show (0 : Int) ≤ (k : Int) by omega)) h1
end
end Bw
set_option Elab.async false
set_option linter.all false
set_option maxRecDepth 100000
set_option maxHeartbeats 4000000
namespace Bw
open PySem PySem.Spec PyProof.Rows L2
section
variable {P : Program} {w : World} {K : PySem.W.Frag} {mg : Str → Option Value} {base : Heap}
/-! ### the law's own parts -/
abbrev s_law_add : Stmt := topS 44
abbrev n_law_add : List Str := ["_law_one", "_law_other"]
theorem sc_law_add : FnScope n_law_add ["_law_one", "_law_other"] (defScope s_law_add) := ⟨rfl, rfl, rfl, by decide +kernel, rfl, by decide +kernel, by decide +kernel⟩
def spLAdd : Sp := fun vs H Q _ => ∃ (a b : Addr) (t x : Nat), vs = [.ref a, .ref b] ∧ H a = some (.lst [.int t, .int 1]) ∧ H b = some (.lst [.int x, .int 1]) ∧ t < 2 ^ 90000 ∧ x < 2 ^ 90000 ∧
  ∀ (p : Addr) (H' : Hp), Same H H' → PartAt H' p ((t + x : Nat) : Int) 1 → Q (.ref p) H'
theorem ok_ladd {f : Addr} {fd : FuncData} (F : Fun K "_law_add" "_law_add" s_law_add f fd) (T : Tx mg) (c_law_low : Cal P w K mg base CX0 2 "_law_low" ["_law_top", "_law_under"] spLLow) : FnOk P w K mg base CX0 3 f fd ["_law_one", "_law_other"] spLAdd := by
  refine F.ok sc_law_add (fun vs H Q E h => ?_) (fun cdv A outer s H vs Q E hr h => ?_)
  · obtain ⟨a, b, t, x, rfl, _⟩ := h
    rfl
  · obtain ⟨a, b, t, x, rfl, hA, hB, bt, bx, q⟩ := h
    refine ⟨_, (pss_one (ps_ret (pe_cal c_law_low hr (by rfl) (pa_cons (pe_op op_add (pe_op op_mulW (pe_ix (i_list (K := K)) (pv 0) pe_int (fun _ _ => rfl)) (pe_ix (i_list (K := K)) (pv 1) pe_int (fun _ _ => rfl))) (pe_op op_mulW (pe_ix (i_list (K := K)) (pv 1) pe_int (fun _ _ => rfl)) (pe_ix (i_list (K := K)) (pv 0) pe_int (fun _ _ => rfl)))) (pa_cons (pe_op op_mulW (pe_ix (i_list (K := K)) (pv 0) pe_int (fun _ _ => rfl)) (pe_ix (i_list (K := K)) (pv 1) pe_int (fun _ _ => rfl))) pa_nil))))), ?_⟩
    have one1 : (1 : Int).natAbs < 2 ^ 1 := by decide
    have at' : ((t : Nat) : Int).natAbs < 2 ^ 90000 := bt
    have ax' : ((x : Nat) : Int).natAbs < 2 ^ 90000 := bx
    refine ⟨.ref a, rfl, a, _, 0, .int t, rfl, rfl, SqL.of hA, rfl, .ref b, rfl, b, _, 1, .int 1, rfl, rfl, SqL.of hB, rfl, _, _, rfl, rfl, wide_mul at' one1 (by decide) (by decide) (by decide), ?_⟩
    refine ⟨.ref b, rfl, b, _, 0, .int x, rfl, rfl, SqL.of hB, rfl, .ref a, rfl, a, _, 1, .int 1, rfl, rfl, SqL.of hA, rfl, _, _, rfl, rfl, wide_mul ax' one1 (by decide) (by decide) (by decide), _, _, rfl, rfl, ?_⟩
    refine ⟨.ref a, rfl, a, _, 1, .int 1, rfl, rfl, SqL.of hA, rfl, .ref b, rfl, b, _, 1, .int 1, rfl, rfl, SqL.of hB, rfl, _, _, rfl, rfl, wide_mul one1 one1 (by decide) (by decide) (by decide), ?_⟩
    refine ⟨_, _, rfl, by decide, by decide, fun p H' t' u' s _ hp L => ?_⟩
    rw [Int.mul_one, Int.mul_one, ← Int.natCast_add] at L
    obtain ⟨rfl, rfl⟩ := low_uniq (by decide) L (low_one _)
    exact q p H' s hp
abbrev s_law_div : Stmt := topS 45
abbrev n_law_div : List Str := ["_law_one", "_law_other"]
theorem sc_law_div : FnScope n_law_div ["_law_one", "_law_other"] (defScope s_law_div) := ⟨rfl, rfl, rfl, by decide +kernel, rfl, by decide +kernel, by decide +kernel⟩
def spLDiv : Sp := fun vs H Q _ => ∃ (a b : Addr) (t x : Nat), vs = [.ref a, .ref b] ∧ PartAt H a (t : Nat) 1 ∧ PartAt H b (x : Nat) 1 ∧ t < 2 ^ 90001 ∧ x < 2 ^ 200 ∧ 0 < x ∧ x ∣ t ∧
  ∀ (p : Addr) (H' : Hp), Same H H' → PartAt H' p ((t / x : Nat) : Int) 1 → Q (.ref p) H'
theorem ok_ldiv {f : Addr} {fd : FuncData} (F : Fun K "_law_div" "_law_div" s_law_div f fd) (T : Tx mg) (c_law_low : Cal P w K mg base CX0 2 "_law_low" ["_law_top", "_law_under"] spLLow) : FnOk P w K mg base CX0 3 f fd ["_law_one", "_law_other"] spLDiv := by
  refine F.ok sc_law_div (fun vs H Q E h => ?_) (fun cdv A outer s H vs Q E hr h => ?_)
  · obtain ⟨a, b, t, x, rfl, _⟩ := h
    rfl
  · obtain ⟨a, b, t, x, rfl, hA, hB, bt, bx, x0, xt, q⟩ := h
    refine ⟨_, (pss_one (ps_ret (pe_cal c_law_low hr (by rfl) (pa_cons (pe_op op_mulW (pe_ix (i_tup (K := K)) (pv 0) pe_int (fun _ _ => rfl)) (pe_ix (i_tup (K := K)) (pv 1) pe_int (fun _ _ => rfl))) (pa_cons (pe_op op_mulW (pe_ix (i_tup (K := K)) (pv 0) pe_int (fun _ _ => rfl)) (pe_ix (i_tup (K := K)) (pv 1) pe_int (fun _ _ => rfl))) pa_nil))))), ?_⟩
    have one1 : (1 : Int).natAbs < 2 ^ 1 := by decide
    have at' : ((t : Nat) : Int).natAbs < 2 ^ 90001 := bt
    have ax' : ((x : Nat) : Int).natAbs < 2 ^ 200 := bx
    refine ⟨.ref a, rfl, a, _, 0, .int t, rfl, rfl, hA.sq, rfl, .ref b, rfl, b, _, 1, .int 1, rfl, rfl, hB.sq, rfl, _, _, rfl, rfl, wide_mul at' one1 (by decide) (by decide) (by decide), ?_⟩
    refine ⟨.ref a, rfl, a, _, 1, .int 1, rfl, rfl, hA.sq, rfl, .ref b, rfl, b, _, 0, .int x, rfl, rfl, hB.sq, rfl, _, _, rfl, rfl, wide_mul one1 ax' (by decide) (by decide) (by decide), ?_⟩
    dsimp only
    rw [Int.mul_one, Int.one_mul]
    refine ⟨_, _, rfl, by omega, Nat.lt_of_lt_of_le ax' (Nat.pow_le_pow_right (by decide) (by decide)), fun p H' t' u' s _ hp L => ?_⟩
    obtain ⟨rfl, rfl⟩ := low_uniq (by omega) L (low_div x0 xt)
    exact q p H' s hp
abbrev s_law_pow : Stmt := topS 46
abbrev n_law_pow : List Str := ["_law_one", "_law_many", "_law_top", "_law_under", "_law_turn_here"]
theorem sc_law_pow : FnScope n_law_pow ["_law_one", "_law_many"] (defScope s_law_pow) := ⟨rfl, rfl, rfl, by decide +kernel, rfl, by decide +kernel, by decide +kernel⟩
def spLPow : Sp := fun vs H Q _ => ∃ (a : Addr) (t m : Nat), vs = [.ref a, .int m] ∧ PartAt H a (t : Nat) 1 ∧ t < 2 ^ 200 ∧ m ≤ 50 ∧
  ∀ (p : Addr) (H' : Hp), Same H H' → PartAt H' p ((t ^ m : Nat) : Int) 1 → Q (.ref p) H'
theorem ok_lpow {f : Addr} {fd : FuncData} (F : Fun K "_law_pow" "_law_pow" s_law_pow f fd) (T : Tx mg) : FnOk P w K mg base CX0 3 f fd ["_law_one", "_law_many"] spLPow := by
  refine F.ok sc_law_pow (fun vs H Q E h => ?_) (fun cdv A outer s H vs Q E hr h => ?_)
  · obtain ⟨a, t, m, rfl, _⟩ := h
    rfl
  · obtain ⟨a, t, m, rfl, hA, bt, bm, q⟩ := h
    refine ⟨_, (pss_cons (ps_asg (pe_tup (pa_cons pe_int (pa_cons pe_int pa_nil))) (g_tup (K := K) (n := 2) rfl (pgs_cons (pg_name (i := 2) sc_law_pow.nd rfl (.inl rfl)) (pgs_cons (pg_name (i := 3) sc_law_pow.nd rfl (.inl rfl)) pgs_nil))))
  (pss_cons (ps_for PassesOwn.never rfl (pi_range1 (by rfl) T.range (pa_cons (pe_callB call_abs (by rfl) T.abs (by decide +kernel) (pa_cons (pv 1) pa_nil)) pa_nil)) (pg_name (i := 4) sc_law_pow.nd rfl (.inl rfl))
    (pss_one (ps_par (i := 2) (j := 3) (by rfl) sc_law_pow.nd rfl rfl (by decide) rfl rfl (pa_cons (pe_op op_mulW (pv 2) (pe_ix (i_tup (K := K)) (pv 0) pe_int (fun _ _ => rfl))) (pa_cons (pe_op op_mulW (pv 3) (pe_ix (i_tup (K := K)) (pv 0) pe_int (fun _ _ => rfl))) pa_nil)) (by rfl))))
  (pss_one (ps_ret (pe_ifExp (pt_cmpR op_ge (pv 1) pe_int (nomark _)) (pe_tup (pa_cons (pv 2) (pa_cons (pv 3) pa_nil))) pe_nev))))), ?_⟩
    refine ⟨by show 2 ≤ sizeLine; decide, fun w0 ew => ?_⟩
    refine ⟨w0, _, rfl, SqT.of upd_same, rfl, _, _, rfl, _, _, rfl, rfl, ?_⟩
    have sw := same_upd (o := .tup [V.int 1, .int 1]) ew
    replace hA := sw _ _ hA
    refine ⟨.int m, rfl, m, rfl, ?_⟩
    rw [abs_nat]
    refine ⟨m, rfl, by omega, by omega, ?_⟩
    have one1 : (1 : Int).natAbs < 2 ^ 1 := by decide
    have at' : ((t : Nat) : Int).natAbs < 2 ^ 200 := bt
    refine for_range (fun i σ H' => ∃ y4 : Option V, σ = [some (.ref a), some (.int m), some (.int ((t : Int) ^ i)), some (.int 1), y4] ∧ H' = upd H w0 (.tup [V.int 1, .int 1])) ⟨_, by rw [Int.pow_zero]; rfl, rfl⟩ ?_ ?_
    · rintro i σ H1 hi ⟨y4, rfl, rfl⟩
      have hi : i < m := hi
      refine ⟨_, rfl, .ref a, rfl, a, _, 0, .int t, rfl, rfl, PartAt.sq hA, rfl, _, _, rfl, rfl, wide_mul (pow_lt (e := i) at' (by omega)) at' (by decide) (by decide) (by decide), ?_⟩
      refine ⟨_, rfl, .ref a, rfl, a, _, 1, .int 1, rfl, rfl, PartAt.sq hA, rfl, _, _, rfl, rfl, wide_mul one1 one1 (by decide) (by decide) (by decide), _, _, rfl, ?_⟩
      exact ⟨some (.int ((0 : Int) + i)), by rw [Int.pow_succ]; rfl, rfl⟩
    · rintro σ H1 ⟨y4, rfl, rfl⟩
      refine ⟨.int m, rfl, _, _, rfl, rfl, _, rfl, ite2 (fun _ => ?_) (fun z => ?_)⟩
      · refine ⟨_, rfl, _, rfl, by show 2 ≤ sizeLine; decide, fun p ep => ?_⟩
        refine q p _ (sw.trans (same_upd ep)) ?_
        show _ = some (HO.tup [.int ((t ^ m : Nat) : Int), .int 1])
        rw [Int.natCast_pow]
        exact upd_same
      · exact absurd (decide_eq_true (show (0 : Int) ≤ (m : Int) by omega)) z
abbrev s_law_both : Stmt := topS 49
abbrev n_law_both : List Str := ["_law_ties", "_law_worths", "_law_place", "_law_above", "_law_below", "_law_i", "_law_tie", "_law_more", "_law_k"]
theorem sc_law_both : FnScope n_law_both ["_law_ties", "_law_worths", "_law_place"] (defScope s_law_both) := ⟨rfl, rfl, rfl, by decide +kernel, rfl, by decide +kernel, by decide +kernel⟩
def spBoth : Sp := fun vs H Q _ => ∃ (a L : Addr) (rows : List (List Int)) (n m k : Nat) (w : Nat → Nat), vs = [.ref a, .ref L, .int k] ∧ TabAt H a rows ∧ StB n m rows w ∧ k < n ∧ WsAt H L m w ∧
  ∀ (p : Addr) (H' : Hp), Same H H' → PartAt H' p (sM m k (ent rows) w : Nat) 1 → Q (.ref p) H'
theorem pow_side {w : Nat} {t : Int} : w ^ t.natAbs = w ^ t.toNat * w ^ (-t).toNat := by
  rw [← Nat.pow_add]
  congr 1
  omega
theorem ok_both {f : Addr} {fd : FuncData} (F : Fun K "_law_both" "_law_both" s_law_both f fd) (T : Tx mg) (c_law_pow : Cal P w K mg base CX0 3 "_law_pow" ["_law_one", "_law_many"] spLPow) (c_law_add : Cal P w K mg base CX0 3 "_law_add" ["_law_one", "_law_other"] spLAdd) : FnOk P w K mg base CX0 4 f fd ["_law_ties", "_law_worths", "_law_place"] spBoth := by
  refine F.ok sc_law_both (fun vs H Q E h => ?_) (fun cdv A outer s H vs Q E hr h => ?_)
  · obtain ⟨a, L, rows, n, m, k, w, rfl, _⟩ := h
    rfl
  · obtain ⟨a, L, rows, n, m, k, w, rfl, hT, B, hk, hL, q⟩ := h
    refine ⟨_, (pss_cons (ps_par (i := 3) (j := 4) (by rfl) sc_law_both.nd rfl rfl (by decide) rfl rfl (pa_cons (pe_lst (pa_cons pe_int (pa_cons pe_int pa_nil))) (pa_cons (pe_lst (pa_cons pe_int (pa_cons pe_int pa_nil))) pa_nil)) (by rfl))
  (pss_cons (ps_for PassesOwn.never rfl (pi_range1 (by rfl) T.range (pa_cons (pe_callB (c_len (K := K)) (by rfl) T.len PySem.boot_len (pa_cons (pv 0) pa_nil)) pa_nil)) (pg_name (i := 5) sc_law_both.nd rfl (.inl rfl))
    (pss_cons (ps_set (i := 6) sc_law_both.nd rfl (.inl rfl) (pe_ix (i_tup (K := K)) (pe_ix (i_tup (K := K)) (pv 0) (pv 5) (fun _ _ => rfl)) (pv 2) (fun _ _ => rfl)))
    (pss_cons (ps_set (i := 7) sc_law_both.nd rfl (.inl rfl) (pe_cal c_law_pow hr (by rfl) (pa_cons (pe_ix (i_list (K := K)) (pv 1) (pv 5) (fun _ _ => rfl)) (pa_cons (pe_callB call_abs (by rfl) T.abs (by decide +kernel) (pa_cons (pv 6) pa_nil)) pa_nil))))
    (pss_one (ps_for PassesOwn.never rfl (pi_range1 (by rfl) T.range (pa_cons pe_int pa_nil)) (pg_name (i := 8) sc_law_both.nd rfl (.inl rfl))
      (C8.pss_cut (ps_if (pt_cmpR op_gt (pv 6) pe_int (nomark _))
        (pss_one (ps_asg (pe_op op_mulW (pe_ix (i_list (K := K)) (pv 3) (pv 8) (fun _ _ => rfl)) (pe_ix (i_tup (K := K)) (pv 7) (pv 8) (fun _ _ => rfl))) (pg_sub (pv 3) (pv 8) set_list)))
        pss_nil)
      (pss_one (ps_if (pt_cmpR op_lt (pv 6) pe_int (nomark _))
        (pss_one (ps_asg (pe_op op_mulW (pe_ix (i_list (K := K)) (pv 4) (pv 8) (fun _ _ => rfl)) (pe_ix (i_tup (K := K)) (pv 7) (pv 8) (fun _ _ => rfl))) (pg_sub (pv 4) (pv 8) set_list)))
        pss_nil))))))))
  (pss_one (ps_ret (pe_cal c_law_add hr (by rfl) (pa_cons (pv 3) (pa_cons (pv 4) pa_nil))))))), ?_⟩
    have n1 := B.tab.n1
    have n4 := B.tab.n4
    have hl := B.tab.len
    have hl4 := B.tab.len4
    have hlm := B.len
    have m8 : m ≤ 8 := by omega
    have one1 : (1 : Int).natAbs < 2 ^ 1 := by decide
    have bd : ∀ i, i < m → -50 ≤ ent rows i k ∧ ent rows i k ≤ 50 := fun i hi => B.tab.wd.bd (by omega) hk
    have bdn : ∀ i, i < m → -50 ≤ -(ent rows i k) ∧ -(ent rows i k) ≤ 50 := fun i hi => by have := bd i hi; omega
    obtain ⟨as, ha, hR⟩ := hT.refs
    have las : as.length = m := by rw [hR.1, hlm]
    refine ⟨by show 2 ≤ sizeLine; decide, fun U eU => ⟨by show 2 ≤ sizeLine; decide, fun D eD => ⟨_, _, rfl, ?_⟩⟩⟩
    have sU := same_upd (o := .lst [V.int 1, .int 1]) eU
    have sD := same_upd (o := .lst [V.int 1, .int 1]) eD
    have nUD : U ≠ D := ne_of_none upd_same eD
    have D0 : H D = none := sU.free eD
    have ks : ∀ b o, H b = some o → b ≠ U ∧ b ≠ D := fun b o e => ⟨ne_of_none e eU, ne_of_none e D0⟩
    refine ⟨.ref a, rfl, a, _, rfl, .inr (SqT.of (sD _ _ (sU _ _ ha))), ?_⟩
    rw [List.length_map, las]
    refine ⟨m, rfl, by omega, by omega, ?_⟩
    refine for_range (fun i σ H' => ∃ y5 y6 y7 y8 : Option V, σ = [some (.ref a), some (.ref L), some (.int k), some (.ref U), some (.ref D), y5, y6, y7, y8] ∧ Same H H' ∧ H' U = some (.lst [.int (pr (fun i => w i ^ (ent rows i k).toNat) i : Nat), .int 1]) ∧ H' D = some (.lst [.int (pr (fun i => w i ^ (-(ent rows i k)).toNat) i : Nat), .int 1])) ⟨none, none, none, none, rfl, sU.trans sD, (sD _ _ upd_same), upd_same⟩ ?_ ?_
    · rintro i σ H1 hi ⟨y5, y6, y7, y8, rfl, s1, hU, hD⟩
      have hi : i < m := hi
      have e0 : (0 : Int) + (i : Int) = (i : Int) := by omega
      rw [e0]
      obtain ⟨as', b, t1, t2, t3⟩ := (hT.same s1).row (i := i) (by omega)
      obtain ⟨rs, r, g1, g2, g3⟩ := (hL.same s1).at hi
      refine ⟨.ref a, rfl, .int (i : Int), rfl, a, _, _, .ref b, rfl, rfl, SqT.of t1, atI_nat t2, .int k, rfl, b, _, _, .int (ent rows i k), rfl, rfl, SqT.of t3, atI_nat (ent_get B.tab.wide (by omega) hk), ?_⟩
      have hb := bd i hi
      refine ⟨.ref L, rfl, .int (i : Int), rfl, L, _, _, .ref r, rfl, rfl, SqL.of g1, atI_nat g2, .int (ent rows i k), rfl, _, rfl, ?_⟩
      rw [abs_nat]
      have hbn := bdn i hi
      have a1 : pr (fun i => w i ^ (ent rows i k).toNat) i < 2 ^ 90000 := pr_wlt m8 B.lt bd (Nat.le_of_lt hi)
      have a2 : pr (fun i => w i ^ (-(ent rows i k)).toNat) i < 2 ^ 90000 := pr_wlt (c := fun i => -(ent rows i k)) m8 B.lt bdn (Nat.le_of_lt hi)
      have eA : pr (fun i => w i ^ (ent rows i k).toNat) (i + 1) = pr (fun i => w i ^ (ent rows i k).toNat) i * w i ^ (ent rows i k).toNat := rfl
      have eB : pr (fun i => w i ^ (-(ent rows i k)).toNat) (i + 1) = pr (fun i => w i ^ (-(ent rows i k)).toNat) i * w i ^ (-(ent rows i k)).toNat := rfl
      rw [eA, eB]
      have hw0 : w i < 2 ^ 200 := Nat.lt_trans (B.lt i) g60_lt
      generalize pr (fun i => w i ^ (ent rows i k).toNat) i = pa at hU a1 ⊢
      generalize pr (fun i => w i ^ (-(ent rows i k)).toNat) i = pb at hD a2 ⊢
      generalize ent rows i k = t at hb hbn ⊢
      refine ⟨r, w i, t.natAbs, rfl, g3, hw0, by omega, fun p H2 s2 hp => ?_⟩
      have hU2 := s2 _ _ hU
      have hD2 := s2 _ _ hD
      have npU : p ≠ U := ne_of hp hU2 (by intro z; cases z)
      have npD : p ≠ D := ne_of hp hD2 (by intro z; cases z)
      have s02 := s1.trans s2
      have at1 : ((pa : Nat) : Int).natAbs < 2 ^ 90000 := a1
      have at2 : ((pb : Nat) : Int).natAbs < 2 ^ 90000 := a2
      have pl : ((w i ^ t.natAbs : Nat) : Int).natAbs < 2 ^ 10001 := by
        have := pow_lt (b := (w i : Int)) (e := t.natAbs) hw0 (by omega)
        rw [Int.natAbs_pow] at this
        exact this
      refine ⟨2, rfl, by decide, by decide, ?_⟩
      refine for_range (fun j σ H' => ∃ y8 : Option V, σ = [some (.ref a), some (.ref L), some (.int k), some (.ref U), some (.ref D), some (.int (i : Int)), some (.int t), some (.ref p), y8] ∧ Same H H' ∧ PartAt H' p (w i ^ t.natAbs : Nat) 1 ∧ H' U = some (.lst [.int (if 0 < j ∧ t > 0 then ((pa * w i ^ t.natAbs : Nat) : Int) else (pa : Int)), .int 1]) ∧ H' D = some (.lst [.int (if 0 < j ∧ t < 0 then ((pb * w i ^ t.natAbs : Nat) : Int) else (pb : Int)), .int 1])) ⟨_, rfl, s02, hp, hU2, hD2⟩ ?_ ?_
      · rintro j σ H3 hj ⟨y8, rfl, s3, hp3, hU3, hD3⟩
        have e0 : (0 : Int) + (j : Int) = (j : Int) := by omega
        rw [e0]
        refine ⟨fun σ H' => σ = [some (.ref a), some (.ref L), some (.int k), some (.ref U), some (.ref D), some (.int (i : Int)), some (.int t), some (.ref p), some (.int (j : Int))] ∧ Same H H' ∧ PartAt H' p (w i ^ t.natAbs : Nat) 1 ∧ H' U = some (.lst [.int (if t > 0 then ((pa * w i ^ t.natAbs : Nat) : Int) else (pa : Int)), .int 1]) ∧ H' D = some (.lst [.int (if 0 < j ∧ t < 0 then ((pb * w i ^ t.natAbs : Nat) : Int) else (pb : Int)), .int 1]), ?_, ?_⟩
        · refine ⟨.int t, rfl, _, _, rfl, rfl, _, rfl, ite2 (fun z => ?_) (fun z => ?_)⟩
          · have z : t > 0 := of_decide_eq_true z
            rw [if_pos z]
            have hj2 : j = 0 ∨ j = 1 := by omega
            rcases hj2 with rfl | rfl
            · rw [if_neg (fun h => absurd h.1 (by decide))] at hU3
              refine ⟨.ref U, rfl, .int 0, rfl, U, _, 0, .int (pa : Nat), rfl, rfl, SqL.of hU3, rfl, .ref p, rfl, .int 0, rfl, p, _, 0, .int (w i ^ t.natAbs : Nat), rfl, rfl, SqT.of hp3, rfl, _, _, rfl, rfl, wide_mul at1 pl (by decide) (by decide) (by decide), ?_⟩
              refine ⟨.ref U, rfl, .int 0, rfl, U, _, 0, 0, rfl, rfl, hU3, rfl, ?_⟩
              refine ⟨rfl, fun b o e => by rw [upd_ne (ks b o e).1]; exact s3 _ _ e, (upd_ne npU).trans hp3, ?_, (upd_ne (Ne.symm nUD)).trans hD3⟩
              rw [upd_same, Int.natCast_mul]
              rfl
            · rw [if_pos ⟨by decide, z⟩] at hU3
              refine ⟨.ref U, rfl, .int 1, rfl, U, _, 1, .int 1, rfl, rfl, SqL.of hU3, rfl, .ref p, rfl, .int 1, rfl, p, _, 1, .int 1, rfl, rfl, SqT.of hp3, rfl, _, _, rfl, rfl, wide_mul one1 one1 (by decide) (by decide) (by decide), ?_⟩
              refine ⟨.ref U, rfl, .int 1, rfl, U, _, 1, 1, rfl, rfl, hU3, rfl, ?_⟩
              refine ⟨rfl, fun b o e => by rw [upd_ne (ks b o e).1]; exact s3 _ _ e, (upd_ne npU).trans hp3, ?_, (upd_ne (Ne.symm nUD)).trans hD3⟩
              rw [upd_same]
              rfl
          · have z : ¬ t > 0 := fun h => z (decide_eq_true h)
            rw [if_neg (fun h => z h.2)] at hU3
            rw [if_neg z]
            exact ⟨rfl, s3, hp3, hU3, hD3⟩
        · rintro σ H4 ⟨rfl, s4, hp4, hU4, hD4⟩
          have eU1 : ∀ x y : Int, (if 0 < j + 1 ∧ t > 0 then x else y) = if t > 0 then x else y := fun x y => by
            by_cases h : t > 0
            · rw [if_pos h, if_pos ⟨by omega, h⟩]
            · rw [if_neg h, if_neg (fun z => h z.2)]
          have eD1 : ∀ x y : Int, (if 0 < j + 1 ∧ t < 0 then x else y) = if t < 0 then x else y := fun x y => by
            by_cases h : t < 0
            · rw [if_pos h, if_pos ⟨by omega, h⟩]
            · rw [if_neg h, if_neg (fun z => h z.2)]
          refine ⟨.int t, rfl, _, _, rfl, rfl, _, rfl, ite2 (fun z => ?_) (fun z => ?_)⟩
          · have z : t < 0 := of_decide_eq_true z
            have hj2 : j = 0 ∨ j = 1 := by omega
            rcases hj2 with rfl | rfl
            · rw [if_neg (fun h => absurd h.1 (by decide))] at hD4
              refine ⟨.ref D, rfl, .int 0, rfl, D, _, 0, .int (pb : Nat), rfl, rfl, SqL.of hD4, rfl, .ref p, rfl, .int 0, rfl, p, _, 0, .int (w i ^ t.natAbs : Nat), rfl, rfl, SqT.of hp4, rfl, _, _, rfl, rfl, wide_mul at2 pl (by decide) (by decide) (by decide), ?_⟩
              refine ⟨.ref D, rfl, .int 0, rfl, D, _, 0, 0, rfl, rfl, hD4, rfl, ?_⟩
              refine ⟨_, rfl, fun b o e => by rw [upd_ne (ks b o e).2]; exact s4 _ _ e, (upd_ne npD).trans hp4, ?_, ?_⟩
              · rw [eU1]
                exact (upd_ne nUD).trans hU4
              · rw [eD1, if_pos z, upd_same, Int.natCast_mul]
                rfl
            · rw [if_pos ⟨by decide, z⟩] at hD4
              refine ⟨.ref D, rfl, .int 1, rfl, D, _, 1, .int 1, rfl, rfl, SqL.of hD4, rfl, .ref p, rfl, .int 1, rfl, p, _, 1, .int 1, rfl, rfl, SqT.of hp4, rfl, _, _, rfl, rfl, wide_mul one1 one1 (by decide) (by decide) (by decide), ?_⟩
              refine ⟨.ref D, rfl, .int 1, rfl, D, _, 1, 1, rfl, rfl, hD4, rfl, ?_⟩
              refine ⟨_, rfl, fun b o e => by rw [upd_ne (ks b o e).2]; exact s4 _ _ e, (upd_ne npD).trans hp4, ?_, ?_⟩
              · rw [eU1]
                exact (upd_ne nUD).trans hU4
              · rw [eD1, if_pos z, upd_same]
                rfl
          · have z : ¬ t < 0 := fun h => z (decide_eq_true h)
            rw [if_neg (fun h => z h.2)] at hD4
            refine ⟨_, rfl, s4, hp4, ?_, ?_⟩
            · rw [eU1]
              exact hU4
            · rw [eD1, if_neg z]
              exact hD4
      · rintro σ H3 ⟨y8, rfl, s3, hp3, hU3, hD3⟩
        refine ⟨_, _, _, _, rfl, s3, ?_, ?_⟩
        · rw [hU3]
          by_cases h : t > 0
          · rw [if_pos ⟨by decide, h⟩, show t.natAbs = t.toNat by omega]
          · rw [if_neg (fun z => h z.2), show t.toNat = 0 by omega, Nat.pow_zero, Nat.mul_one]
        · rw [hD3]
          by_cases h : t < 0
          · rw [if_pos ⟨by decide, h⟩, show t.natAbs = (-t).toNat by omega]
          · rw [if_neg (fun z => h z.2), show (-t).toNat = 0 by omega, Nat.pow_zero, Nat.mul_one]
    · rintro σ H1 ⟨y5, y6, y7, y8, rfl, s1, hU, hD⟩
      have a1 : pr (fun i => w i ^ (ent rows i k).toNat) m < 2 ^ 90000 := pr_wlt m8 B.lt bd (Nat.le_refl m)
      have a2 : pr (fun i => w i ^ (-(ent rows i k)).toNat) m < 2 ^ 90000 := pr_wlt (c := fun i => -(ent rows i k)) m8 B.lt bdn (Nat.le_refl m)
      exact ⟨.ref U, rfl, .ref D, rfl, U, D, _, _, rfl, hU, hD, a1, a2, fun p H2 s2 hp => q p H2 (s1.trans s2) hp⟩
end
end Bw
set_option Elab.async false
set_option linter.all false
set_option maxRecDepth 100000
set_option maxHeartbeats 4000000
namespace Bw
open PySem PySem.Spec PyProof.Rows L2
section
variable {P : Program} {w : World} {K : PySem.W.Frag} {mg : Str → Option Value} {base : Heap}
abbrev s_new_worth : Stmt := topS 33
abbrev n_new_worth : List Str := ["ties", "worths", "place", "column", "top", "under", "more", "below", "old_top", "old_under", "root", "worth", "fresh", "row", "tie"]
theorem sc_new_worth : FnScope n_new_worth ["ties", "worths", "place"] (defScope s_new_worth) := ⟨rfl, rfl, rfl, by decide +kernel, rfl, by decide +kernel, by decide +kernel⟩
def spNewW (C : Addr) : Sp := fun vs H Q E => ∃ (a L : Addr) (rows : List (List Int)) (n m k : Nat) (w : Nat → Nat), vs = [.ref a, .ref L, .int k] ∧ TabAt H a rows ∧ StB n m rows w ∧ k < n ∧ WsAt H L m w ∧ w k ∣ sM m k (ent rows) w ∧
  (sM m k (ent rows) w / w k < g60 → ∀ (p : Addr) (H' : Hp), Same H H' → PartAt H' p (sM m k (ent rows) w / w k : Nat) 1 → Q (.ref p) H') ∧
  (¬ sM m k (ent rows) w / w k < g60 → ∀ (d : Addr) (H' : Hp), Same H H' → H' d = some (.xd greatFs) → E (.ref C) (some d) H')
theorem ok_new {f C fI : Addr} {fd fdI : FuncData} (F : Fun K "new_worth" "new_worth" s_new_worth f fd) (T : Tx mg) (c_side_worth : Cal P w K mg base CX0 2 "side_worth" ["worths", "column"] spSide) (c_lowest_terms : Cal P w K mg base CX0 2 "lowest_terms" ["top", "under", "root"] spLow)
    (TG : GreatC K mg C fI) (FI : FnOk P w K mg base CX0 2 fI fdI ["self"] (spGreatInit K)) (bI : Binds K fdI ["self"] []) : FnOk P w K mg base (L2.CX P w) 4 f fd ["ties", "worths", "place"] (spNewW C) := by
  refine F.okX sc_new_worth (fun vs H Q E h => ?_) (fun cdv A outer s H vs Q E hr h => ?_)
  · obtain ⟨a, L, rows, n, m, k, w, rfl, _⟩ := h
    rfl
  · obtain ⟨a, L, rows, n, m, k, w, rfl, hT, B, hk, hL, hd, q, qE⟩ := h
    have hr2 := hr.mono (show 2 ≤ 3 by decide)
    refine ⟨_, (pss_cons (ps_setLc (i := 3) (own := [("row", 13)]) (by rfl) sc_new_worth.nd rfl rfl (sw_true rfl rfl rfl (by decide +kernel)) (p_tup (K := K) (pv 0)) (blkOk_by (own := [("row", 13)]) (N := n_new_worth) (sc := defScope s_new_worth) (by decide +kernel)) (fun _ _ _ _ _ => (pg_name (i := 13) sc_new_worth.nd rfl (.inl rfl))) (fun _ _ _ _ _ => pts_nil) (fun _ _ _ _ _ => (pe_ix (i_tup (K := K)) (pv 13) (pv 2) (fun _ _ => rfl))))
  (pss_cons (ps_asg (pe_cal c_side_worth hr2 (by rfl) (pa_cons (pv 1) (pa_cons (pv 3) pa_nil))) (g_tup (K := K) (n := 2) rfl (pgs_cons (pg_name (i := 4) sc_new_worth.nd rfl (.inl rfl)) (pgs_cons (pg_name (i := 5) sc_new_worth.nd rfl (.inl rfl)) pgs_nil))))
  (pss_cons (ps_asg (pe_cal c_side_worth hr2 (by rfl) (pa_cons (pv 1) (pa_cons (pe_lc (own := [("tie", 14)]) (by rfl) sc_new_worth.nd (p_list (K := K) (pv 3)) (blkOk_by (own := [("tie", 14)]) (N := n_new_worth) (sc := defScope s_new_worth) (by decide +kernel)) (fun _ _ _ _ _ => (pg_name (i := 14) sc_new_worth.nd rfl (.inl rfl))) (fun _ _ _ _ _ => pts_nil) (fun _ _ _ _ _ => (pe_un un_neg (pv 14)))) pa_nil))) (g_tup (K := K) (n := 2) rfl (pgs_cons (pg_name (i := 6) sc_new_worth.nd rfl (.inl rfl)) (pgs_cons (pg_name (i := 7) sc_new_worth.nd rfl (.inl rfl)) pgs_nil))))
  (pss_cons (ps_asg (pe_ix (i_list (K := K)) (pv 1) (pv 2) (fun _ _ => rfl)) (g_tup (K := K) (n := 2) rfl (pgs_cons (pg_name (i := 8) sc_new_worth.nd rfl (.inl rfl)) (pgs_cons (pg_name (i := 9) sc_new_worth.nd rfl (.inl rfl)) pgs_nil))))
  (pss_cons (ps_set (i := 10) sc_new_worth.nd rfl (.inl rfl) (pv 8))
  (pss_cons (ps_for PassesOwn.leaving rfl (p_list (K := K) (pv 1)) (pg_name (i := 11) sc_new_worth.nd rfl (.inl rfl))
    (pss_one (ps_aug (i := 10) sc_new_worth.nd rfl (.inl rfl) (pe_ix (i_tup (K := K)) (pv 11) pe_int (fun _ _ => rfl)) ip_mulW)))
  (pss_cons (ps_set (i := 12) sc_new_worth.nd rfl (.inl rfl) (pe_cal c_lowest_terms hr2 (by rfl) (pa_cons (pe_op op_mulW (pe_op op_add (pe_op op_mulW (pv 4) (pv 7)) (pe_op op_mulW (pv 6) (pv 5))) (pv 9)) (pa_cons (pe_op op_mulW (pe_op op_mulW (pv 5) (pv 7)) (pv 8)) (pa_cons (pv 10) pa_nil)))))
  (pss_cons (ps_if (PW.pt (pw_or (pt_cmpR op_ge (pe_callB call_abs (by rfl) T.abs (by decide +kernel) (pa_cons (pe_ix (i_tup (K := K)) (pv 12) pe_int (fun _ _ => rfl)) pa_nil)) (pe_gint (by rfl) T.GREAT_WORTH) (nomark _)) (pw_or1 (pt_cmpR op_ge (pe_ix (i_tup (K := K)) (pv 12) pe_int (fun _ _ => rfl)) (pe_gint (by rfl) T.GREAT_WORTH) (nomark _)))))
    (pss_one (ps_raise rfl (takes_of rfl rfl rfl rfl) (pmk_oex0 TG.oex TG.iC TG.tI FI hr bI pass0 (by rfl) TG.g)))
    pss_nil)
  (pss_one (ps_ret (pv 12))))))))))), ?_⟩
    have n1 := B.tab.n1
    have n4 := B.tab.n4
    have hl := B.tab.len
    have hl4 := B.tab.len4
    have hlm := B.len
    have m8 : m ≤ 8 := by omega
    have bd : ∀ i, i < m → -50 ≤ ent rows i k ∧ ent rows i k ≤ 50 := fun i hi => B.tab.wd.bd (by omega) hk
    obtain ⟨as, ha, hR⟩ := hT.refs
    have las : as.length = m := by rw [hR.1, hlm]
    -- the column
    refine ⟨.ref a, rfl, a, rfl, ⟨_, SqT.of ha⟩, fun D eD => ?_⟩
    refine lc_tup (K := K) (a := a) (xs := as.map V.ref) (fun i H' => AccI H H' D (fun i => ent rows i k) i) AccI.zero (fun i H' _ hA => SqT.of (hA.stay eD ha)) ?_ ?_
    · rintro i v H1 hv hA
      obtain ⟨t, et, rfl⟩ := ref_at hv
      have hi : i < rows.length := by
        have := (List.getElem?_eq_some_iff.mp et).1
        omega
      obtain ⟨b, eb, hb⟩ := hR.2 i _ (List.getElem?_eq_getElem hi)
      rw [et] at eb
      cases eb
      have er : rows[i] = rows.getD i [] := by
        rw [List.getD_eq_getElem?_getD, List.getElem?_eq_getElem hi]
        rfl
      rw [er] at hb
      refine ⟨rfl, .ref t, rfl, .int k, rfl, t, _, _, .int (ent rows i k), rfl, rfl, SqT.of (hA.stay eD hb), atI_nat (ent_get B.tab.wide hi hk), ?_⟩
      exact hA.next (.refl _) rfl (by omega)
    · rintro H1 hA
      rw [List.length_map, las] at hA
      have s1 : Same H H1 := fun b o e => hA.stay eD e
      have e1 : H1 D = some (.lst ((matRow m fun i => ent rows i k).map V.int)) := hA.1
      clear hA
      -- one side
      refine ⟨.ref L, rfl, .ref D, rfl, L, D, m, w, _, rfl, hL.same s1, e1, m8, B.lt, bd, fun p2 H2 s2 hp2 => ?_⟩
      refine ⟨p2, _, rfl, SqT.of hp2, rfl, _, _, rfl, _, _, rfl, rfl, ?_⟩
      have s02 := s1.trans s2
      have e2 := s2 _ _ e1
      -- the other side
      refine ⟨.ref L, rfl, .ref D, rfl, D, rfl, ⟨_, SqL.of e2⟩, fun D2 eD2 => ?_⟩
      refine lc_list (K := K) (a := D) (xs := (matRow m fun i => ent rows i k).map V.int) (fun i H' => AccI H2 H' D2 (fun i => -(ent rows i k)) i) AccI.zero (fun i H' _ hA => SqL.of (hA.stay eD2 e2)) ?_ ?_
      · rintro i v H3 hv hA
        obtain ⟨t, et, rfl⟩ := int_at hv
        have hi : i < m := by
          have := (List.getElem?_eq_some_iff.mp et).1
          rw [matRow_len] at this
          exact this
        rw [matRow_get hi] at et
        cases et
        refine ⟨rfl, .int (ent rows i k), rfl, _, rfl, ?_⟩
        exact hA.next (.refl _) rfl (by omega)
      · rintro H3 hA
        rw [List.length_map, matRow_len] at hA
        have s3 : Same H2 H3 := fun b o e => hA.stay eD2 e
        have e3 : H3 D2 = some (.lst ((matRow m fun i => -(ent rows i k)).map V.int)) := hA.1
        clear hA
        have s03 := s02.trans s3
        refine ⟨L, D2, m, w, _, rfl, hL.same s03, e3, m8, B.lt, fun i hi => by have := bd i hi; omega, fun p4 H4 s4 hp4 => ?_⟩
        refine ⟨p4, _, rfl, SqT.of hp4, rfl, _, _, rfl, _, _, rfl, rfl, ?_⟩
        have s04 := s03.trans s4
        obtain ⟨rs, r, g1, g2, g3⟩ := (hL.same s04).at (show k < m by omega)
        refine ⟨.ref L, rfl, .int k, rfl, L, _, _, .ref r, rfl, rfl, SqL.of g1, atI_nat g2, ?_⟩
        refine ⟨r, _, rfl, SqT.of g3, rfl, _, _, rfl, _, _, rfl, rfl, ?_⟩
        refine ⟨_, rfl, ?_⟩
        -- root
        refine ⟨.ref L, rfl, L, rfl, ⟨_, SqL.of g1⟩, ?_⟩
        have bw : ((w k : Nat) : Int).natAbs < 2 ^ 200 := Nat.lt_trans (B.lt k) g60_lt
        have one1 : (1 : Int).natAbs < 2 ^ 1 := by decide
        obtain ⟨rs', g1', g2', g3'⟩ := hL.same s04
        have ers : rs'.map V.ref = rs.map V.ref := HO.lst.inj (Option.some.inj (g1'.symm.trans g1))
        rw [ers] at g1'
        refine for_list (K := K) (a := L) (xs := rs.map V.ref) (fun i σ H' => ∃ y11 : Option V, σ = [some (.ref a), some (.ref L), some (.int k), some (.ref D), some (.int (pr (fun i => w i ^ (ent rows i k).toNat) m : Nat)), some (.int 1), some (.int (pr (fun i => w i ^ (-(ent rows i k)).toNat) m : Nat)), some (.int 1), some (.int (w k : Nat)), some (.int 1), some (.int (w k : Nat)), y11, none, none, none] ∧ H' = H4) ⟨none, rfl, rfl⟩ (fun i σ H' _ ⟨_, _, e⟩ => by rw [e]; exact SqL.of g1) ?_ ?_
        · rintro i v σ H5 hv ⟨y11, rfl, rfl⟩
          rw [← ers] at hv
          obtain ⟨r2, er2, rfl⟩ := ref_at hv
          have hp5 := g3' i r2 er2
          refine ⟨_, rfl, .ref r2, rfl, r2, _, 1, .int 1, rfl, rfl, SqT.of hp5, rfl, _, _, rfl, rfl, wide_mul bw one1 (by decide) (by decide) (by decide), ?_⟩
          refine ⟨some (.ref r2), ?_, rfl⟩
          show [some (V.ref a), _, _, _, _, _, _, _, _, _, some (V.int (((w k : Nat) : Int) * 1)), _, _, _, _] = _
          rw [Int.mul_one]
        · rintro σ H5 ⟨y11, rfl, rfl⟩
          have a1 : ((pr (fun i => w i ^ (ent rows i k).toNat) m : Nat) : Int).natAbs < 2 ^ 90000 := pr_wlt m8 B.lt bd (Nat.le_refl m)
          have a2 : ((pr (fun i => w i ^ (-(ent rows i k)).toNat) m : Nat) : Int).natAbs < 2 ^ 90000 := pr_wlt (c := fun i => -(ent rows i k)) m8 B.lt (fun i hi => by have := bd i hi; omega) (Nat.le_refl m)
          have a3 : ((((pr (fun i => w i ^ (ent rows i k).toNat) m : Nat) : Int) * 1 + ((pr (fun i => w i ^ (-(ent rows i k)).toNat) m : Nat) : Int) * 1)).natAbs < 2 ^ 90001 := by
            rw [Int.mul_one, Int.mul_one, Nat.pow_succ]
            have b1 : pr (fun i => w i ^ (ent rows i k).toNat) m < 2 ^ 90000 := a1
            have b2 : pr (fun i => w i ^ (-(ent rows i k)).toNat) m < 2 ^ 90000 := a2
            generalize 2 ^ 90000 = z at b1 b2 ⊢
            omega
          have esm : ((pr (fun i => w i ^ (ent rows i k).toNat) m : Nat) : Int) * 1 + ((pr (fun i => w i ^ (-(ent rows i k)).toNat) m : Nat) : Int) * 1 = (sM m k (ent rows) w : Nat) := by
            unfold sM
            rw [Int.mul_one, Int.mul_one, Int.natCast_add]
          have wk0 := B.pos k
          refine ⟨_, rfl, _, rfl, _, _, rfl, rfl, wide_mul a1 one1 (by decide) (by decide) (by decide), _, rfl, _, rfl, _, _, rfl, rfl, wide_mul a2 one1 (by decide) (by decide) (by decide), _, _, rfl, rfl, _, rfl, _, _, rfl, rfl, wide_mul a3 one1 (by decide) (by decide) (by decide), ?_⟩
          refine ⟨_, rfl, _, rfl, _, _, rfl, rfl, wide_mul one1 one1 (by decide) (by decide) (by decide), _, rfl, _, _, rfl, rfl, wide_mul (i := (1 : Int) * 1) (a := 1) (by decide) bw (by decide) (by decide) (by decide), _, rfl, ?_⟩
          dsimp only
          rw [esm, Int.mul_one, Int.one_mul, Int.one_mul]
          refine ⟨(sM m k (ent rows) w : Nat), (w k : Nat), (w k : Nat), 1, rfl, by omega, by omega, Nat.lt_of_lt_of_le bw (Nat.pow_le_pow_right (by decide) (by decide)), by rw [Nat.pow_one]; exact Nat.dvd_refl _, fun p H6 t' u' s6 p0 hp hlow => ?_⟩
          obtain ⟨rfl, rfl⟩ := low_uniq (by omega) hlow (low_div wk0 hd)
          have s06 := s04.trans s6
          generalize hx : sM m k (ent rows) w / w k = x at *
          refine ⟨.ref p, rfl, p, _, 0, .int (x : Nat), rfl, rfl, SqT.of hp, rfl, _, rfl, ?_⟩
          rw [abs_nat]
          refine ⟨_, _, rfl, rfl, _, rfl, ite2 (fun z => ?_) (fun z => ?_)⟩
          · have z := of_decide_eq_true z
            have nlt : ¬ x < g60 := fun h => by
              have z2 : (1000000000000000000000000000000000000000000000000000000000000 : Int) ≤ (x : Int) := z
              have h2 : x < 1000000000000000000000000000000000000000000000000000000000000 := h
              omega
            refine ⟨by show 0 ≤ 1000; decide, fun xx ex => ?_⟩
            refine ⟨xx, C, rfl, TG.oex, TG.nw, upd_same, fun dx H8 ed nd hx1 hd1 hk1 => ?_⟩
            have ed2 : H6 dx = none := by
              rw [upd_ne nd] at ed
              exact ed
            refine ⟨rfl, dx, _, hx1, hd1, ed2, qE nlt dx _ (fun c o e => ?_) upd_same⟩
            have e2 := s06 _ _ e
            have m1 : c ≠ xx := ne_of_none e2 ex
            have m2 : c ≠ dx := ne_of_none e2 ed2
            rw [upd_ne m2, del_ne m1, hk1 c m1 m2, upd_ne m1]
            exact e2
          · refine ⟨.ref p, rfl, p, _, 1, .int 1, rfl, rfl, SqT.of hp, rfl, _, _, rfl, rfl, _, rfl, ite2 (fun z2 => ?_) (fun _ => ?_)⟩
            · exact absurd (of_decide_eq_true z2) (by decide)
            · have hlt : x < g60 := by
                have z3 : ¬ (1000000000000000000000000000000000000000000000000000000000000 : Int) ≤ (x : Int) := fun h => z (decide_eq_true h)
                show x < 1000000000000000000000000000000000000000000000000000000000000
                omega
              exact ⟨_, rfl, q hlt p _ s06 hp⟩
abbrev s_worth_step : Stmt := topS 34
abbrev n_worth_step : List Str := ["ties", "worths", "place", "after", "fresh"]
theorem sc_worth_step : FnScope n_worth_step ["ties", "worths", "place"] (defScope s_worth_step) := ⟨rfl, rfl, rfl, by decide +kernel, rfl, by decide +kernel, by decide +kernel⟩
def spStepW (C : Addr) : Sp := fun vs H Q E => ∃ (a L : Addr) (rows : List (List Int)) (n m k : Nat) (w : Nat → Nat), vs = [.ref a, .ref L, .int k] ∧ TabAt H a rows ∧ StB n m rows w ∧ k < n ∧ WsAt H L m w ∧ (fits rows n k → w k ∣ sM m k (ent rows) w) ∧
  (∀ t, stepF n m (rows, w) k = some t → ∀ (p b L' : Addr) (H' : Hp), Same H H' → H' p = some (.tup [.ref b, .ref L']) → TabAt H' b t.1 → WsAt H' L' m t.2 → Q (.ref p) H') ∧
  (stepF n m (rows, w) k = none → ∀ (d : Addr) (H' : Hp), Same H H' → H' d = some (.xd greatFs) → E (.ref C) (some d) H')
theorem ok_wstep {f C : Addr} {fd : FuncData} (F : Fun K "worth_step" "worth_step" s_worth_step f fd) (T : Tx mg) (c_check_bud : Cal P w K mg base CX0 2 "check_bud" ["table", "place"] spCkGood) (c_turned_table : CalX P w K mg base 4 "turned_table" ["table", "place"] (spTurn C)) (c_new_worth : CalX P w K mg base 4 "new_worth" ["ties", "worths", "place"] (spNewW C)) : FnOk P w K mg base (L2.CX P w) 5 f fd ["ties", "worths", "place"] (spStepW C) := by
  refine F.okX sc_worth_step (fun vs H Q E h => ?_) (fun cdv A outer s H vs Q E hr h => ?_)
  · obtain ⟨a, L, rows, n, m, k, w, rfl, _⟩ := h
    rfl
  · obtain ⟨a, L, rows, n, m, k, w, rfl, hT, B, hk, hL, hd, q, qE⟩ := h
    have hr2 := hr.mono (show 2 ≤ 4 by decide)
    refine ⟨_, (pss_cons (ps_expr (pe_cal c_check_bud hr2 (by rfl) (pa_cons (pv 0) (pa_cons (pv 2) pa_nil))))
  (pss_cons (ps_if (pt_cmpR op_eq (pe_ix (i_tup (K := K)) (pe_ix (i_list (K := K)) (pv 1) (pv 2) (fun _ _ => rfl)) pe_int (fun _ _ => rfl)) pe_int (nomark _))
    pss_never
    pss_nil)
  (pss_cons (ps_set (i := 3) sc_worth_step.nd rfl (.inl rfl) (pe_calX c_turned_table hr (by rfl) (passE rfl rfl rfl rfl) (pa_cons (pv 0) (pa_cons (pv 2) pa_nil))))
  (pss_cons (ps_set (i := 4) sc_worth_step.nd rfl (.inl rfl) (pe_calX c_new_worth hr (by rfl) (passE rfl rfl rfl rfl) (pa_cons (pv 0) (pa_cons (pv 1) (pa_cons (pv 2) pa_nil)))))
  (pss_one (ps_ret (pe_tup (pa_cons (pv 3) (pa_cons (pe_op op_cat (pe_op op_cat (pe_slice (l_list (K := K)) (pv 1) po_none (po_some (pv 2))) (pe_lst (pa_cons (pv 4) pa_nil))) (pe_slice (l_list (K := K)) (pv 1) (po_some (pe_op op_add (pv 2) pe_int)) po_none)) pa_nil))))))))), ?_⟩
    have n1 := B.tab.n1
    have n4 := B.tab.n4
    have hl := B.tab.len
    have hl4 := B.tab.len4
    have hlm := B.len
    refine ⟨.ref a, rfl, .int k, rfl, a, rows, n, k, rfl, hT, by omega, B.tab.wide, hk, ?_⟩
    obtain ⟨rs, h1, h2, h3⟩ := id hL
    obtain ⟨rs', r, g1, g2, g3⟩ := hL.at (show k < m by omega)
    have wk0 := B.pos k
    refine ⟨.ref L, rfl, .int k, rfl, L, _, _, .ref r, rfl, rfl, SqL.of g1, atI_nat g2, r, _, 0, .int (w k : Nat), rfl, rfl, SqT.of g3, rfl, rfl, _, rfl, ite2 (fun z => ?_) (fun _ => ?_)⟩
    · have z := V.int.inj (of_decide_eq_true z)
      omega
    refine ⟨.ref a, rfl, .int k, rfl, a, rows, n, k, rfl, hT, B.tab.wd, hk, fun hf b H1 s1 hTb => ?_, fun hf d H1 s1 hx => ?_⟩
    · refine ⟨.ref a, rfl, .ref L, rfl, .int k, rfl, a, L, rows, n, m, k, w, rfl, hT.same s1, B, hk, hL.same s1, hd hf, fun hlt p H2 s2 hp => ?_, fun hlt d H2 s2 hx => ?_⟩
      · have s02 := s1.trans s2
        refine ⟨.ref b, rfl, .ref L, rfl, .int k, rfl, k, rfl, ?_⟩
        dsimp only [tNoPart]
        refine ⟨L, _, rfl, SqL.of (s02 _ _ h1), fun c1 ec1 => ?_⟩
        rw [cut_take]
        have sc1 := same_upd (o := .lst ((rs.map V.ref).take k)) ec1
        refine ⟨.ref p, rfl, by show 1 ≤ sizeLine; decide, fun c2 ec2 => ?_⟩
        have sc2 := same_upd (o := .lst [V.ref p]) ec2
        refine ⟨c1, c2, _, _, rfl, rfl, sc2 _ _ upd_same, upd_same, by rw [List.length_take, List.length_map]; exact Nat.le_of_lt (small1000 (by show _ + 1 ≤ 1000; omega)), fun c3 ec3 => ?_⟩
        have sc3 := same_upd (o := .lst ((rs.map V.ref).take k ++ [V.ref p])) ec3
        have s13 := s02.trans ((sc1.trans sc2).trans sc3)
        refine ⟨.ref L, rfl, .int k, rfl, _, _, rfl, rfl, _, rfl, ?_⟩
        dsimp only [tNoPart]
        refine ⟨L, _, rfl, SqL.of (s13 _ _ h1), fun c4 ec4 => ?_⟩
        have e1 : ((k : Nat) : Int) + 1 = ((k + 1 : Nat) : Int) := by omega
        rw [e1, cut_drop]
        have sc4 := same_upd (o := .lst ((rs.map V.ref).drop (k + 1))) ec4
        refine ⟨c3, c4, _, _, rfl, rfl, sc4 _ _ upd_same, upd_same, by rw [List.length_append, List.length_take, List.length_drop, List.length_map]; exact Nat.le_of_lt (small1000 (by show _ + 1 + _ ≤ 1000; omega)), fun c5 ec5 => ?_⟩
        have sc5 := same_upd (o := .lst ((rs.map V.ref).take k ++ [V.ref p] ++ (rs.map V.ref).drop (k + 1))) ec5
        refine ⟨by show 2 ≤ sizeLine; decide, fun p9 ep9 => ?_⟩
        have sp9 := same_upd (o := .tup [V.ref b, .ref c5]) ep9
        have s59 := (((sc1.trans sc2).trans sc3).trans sc4).trans (sc5.trans sp9)
        have e5 := sp9 _ _ (upd_same (o := .lst ((rs.map V.ref).take k ++ [V.ref p] ++ (rs.map V.ref).drop (k + 1))) (a := c5) (H := _))
        have es : stepF n m (rows, w) k = some (turnT rows n k, upW w k (sM m k (ent rows) w / w k)) := by
          unfold stepF
          rw [if_pos ⟨fitB_iff.mpr hf, hlt⟩]
        exact q _ es p9 b c5 _ (s02.trans s59) upd_same ((hTb.same s2).same s59) (splice h2 (by omega) (fun j r e => (s02.trans s59) _ _ (h3 j r e)) (s59 _ _ hp) e5)
      · exact qE (by unfold stepF; rw [if_neg (fun z => hlt z.2)]) d H2 (s1.trans s2) hx
    · exact qE (by unfold stepF; rw [if_neg (fun z => hf (fitB_iff.mp z.1))]) d H1 s1 hx
end
end Bw
set_option Elab.async false
set_option linter.all false
set_option maxRecDepth 100000
set_option maxHeartbeats 4000000
namespace Bw
open PySem PySem.Spec PyProof.Rows L2
/-! ### what is drawn, told sharper: loads and signs -/
abbrev LD (l : List Int) : Prop := (∀ x ∈ l, x = 1 ∨ x = 2 ∨ x = 4) ∨ ∀ x ∈ l, x = 1 ∨ x = 3
def lsN (ls : List Int) (i : Nat) : Nat := (loadAt ls i).toNat
structure Gd (n : Nat) (ls : List Int) (B : Nat → Nat → Int) : Prop where
  ld : LD ls
  ex : ∃ t : Nat → Nat → Int, (∀ i j, Sgn (t i j)) ∧ ∀ i j, i < n → j < n → B i j = tieF (lsN ls) t i j
theorem Gd.zero {n : Nat} {ls : List Int} (h : LD ls) : Gd n ls fun _ _ => 0 := ⟨h, fun _ _ => 0, fun _ _ => .inl rfl, fun i j _ _ => by
  show 0 = (if i < j then (0 : Int) * ↑(lsN ls j / Nat.gcd (lsN ls i) (lsN ls j)) else if j < i then -((0 : Int) * ↑(lsN ls j / Nat.gcd (lsN ls j) (lsN ls i))) else 0)
  rw [Int.zero_mul, Int.zero_mul]
  split
  · rfl
  · split <;> rfl⟩
theorem Gd.put {n : Nat} {ls : List Int} {B : Nat → Nat → Int} (g : Gd n ls B) {i j xn yn : Nat} {t : Int} (hij : i < j) (hi : ls[i]? = some (xn : Int)) (hj : ls[j]? = some (yn : Int)) (ht : Sgn t) :
    Gd n ls (put2 (put2 B i j (t * ((yn : Int) / ((Nat.gcd xn yn : Nat) : Int)))) j i (0 - t * ((xn : Int) / ((Nat.gcd xn yn : Nat) : Int)))) := by
  obtain ⟨T, hT, hB⟩ := g.ex
  have ei : lsN ls i = xn := by
    unfold lsN
    rw [loadAt_get hi]
    rfl
  have ej : lsN ls j = yn := by
    unfold lsN
    rw [loadAt_get hj]
    rfl
  refine ⟨g.ld, fun a b => if a = i ∧ b = j then t else T a b, fun a b => ?_, fun a b ha hb => ?_⟩
  · dsimp only
    split
    · exact ht
    · exact hT a b
  · unfold put2 tieF
    by_cases e1 : a = j ∧ b = i
    · obtain ⟨rfl, rfl⟩ := e1
      rw [if_pos ⟨rfl, rfl⟩, if_neg (by omega), if_pos hij]
      dsimp only
      rw [if_pos ⟨rfl, rfl⟩, ei, ej]
      show 0 - t * ((xn / Nat.gcd xn yn : Nat) : Int) = _
      omega
    · rw [if_neg e1]
      by_cases e2 : a = i ∧ b = j
      · obtain ⟨rfl, rfl⟩ := e2
        rw [if_pos ⟨rfl, rfl⟩, if_pos hij]
        dsimp only
        rw [if_pos ⟨rfl, rfl⟩, ei, ej]
        rfl
      · rw [if_neg e2, hB a b ha hb]
        unfold tieF
        dsimp only
        rw [if_neg e2, if_neg (show ¬ (b = i ∧ a = j) from fun z => e1 ⟨z.2, z.1⟩)]
def G2 (n : Nat) (r : Int) (ls : List Int) (B : Nat → Nat → Int) : Prop := Good n r ls B ∧ Gd n ls B
theorem G2.put {n : Nat} {r : Int} {ls : List Int} {B : Nat → Nat → Int} (g : G2 n r ls B) (re : r = 1) {i j xn yn : Nat} {t : Int} (hij : i < j) (hi : ls[i]? = some (xn : Int)) (hj : ls[j]? = some (yn : Int)) (hc : 0 < Nat.gcd xn yn) (h1 : -r ≤ t) (h2 : t ≤ r) :
    G2 n r ls (put2 (put2 B i j (t * ((yn : Int) / ((Nat.gcd xn yn : Nat) : Int)))) j i (0 - t * ((xn : Int) / ((Nat.gcd xn yn : Nat) : Int)))) :=
  ⟨Good.put g.1 hij hi hj hc (Int.natCast_dvd_natCast.mpr (Nat.gcd_dvd_left xn yn)) (Int.natCast_dvd_natCast.mpr (Nat.gcd_dvd_right xn yn)) h1 h2, Gd.put g.2 hij hi hj (by unfold Sgn; omega)⟩
/-- the worths of a drawn table stay whole -/
theorem Gd.wh {n : Nat} {ls : List Int} {B : Nat → Nat → Int} (g : Gd n ls B) (hl : ls.length = n) (n1 : 1 ≤ n) (n4 : n ≤ 4) : Wh n (6 * n) 0 B fun _ => 1 := by
  obtain ⟨T, hT, hB⟩ := g.ex
  have mem : ∀ i, i < n → loadAt ls i ∈ ls := fun i hi => by
    have h : i < ls.length := by omega
    rw [loadAt_get (List.getElem?_eq_getElem h)]
    exact List.getElem_mem h
  have L : Lds n (lsN ls) := by
    rcases g.ld with h | h
    · refine .inl fun i hi => ?_
      have := h _ (mem i hi)
      unfold L124 lsN
      omega
    · refine .inr fun i hi => ?_
      have := h _ (mem i hi)
      unfold L13 lsN
      omega
  exact Wh_congr (by omega) (fun i j hi hj => (hB i j hi hj).symm) (fun _ _ => rfl) (wh_all n1 n4 L hT)
end Bw
set_option Elab.async false
set_option linter.all false
set_option maxRecDepth 100000
set_option maxHeartbeats 4000000
namespace Bw
open PySem PySem.Spec PyProof.Rows L2
theorem gcd_nat {P : Program} {w : World} {K : PySem.W.Frag} {mg : Str → Option Value} {base : Heap} {k : Nat} {f : Addr} {fd : FuncData} (F : FnOk P w K mg base CX0 k f fd ["_law_one", "_law_other"] spCom) : FnOk P w K mg base CX0 k f fd ["_law_one", "_law_other"] spGcd := F.imp fun vs H Q E h => by
  obtain ⟨a, b, e, q⟩ := h
  exact ⟨a, b, e, q⟩
section
variable {P : Program} {w : World} {K : PySem.W.Frag} {mg : Str → Option Value} {base : Heap}
abbrev s_law_even : Stmt := topS 51
abbrev n_law_even : List Str := ["_law_feed_here", "_law_many", "_law_reach", "_law_heavy", "_law_load", "_law_rows", "_law_i", "_law_j", "_law_tie", "_law_by", "_law_k", "_law_row"]
theorem sc_law_even : FnScope n_law_even ["_law_feed_here", "_law_many", "_law_reach"] (defScope s_law_even) := ⟨rfl, rfl, rfl, by decide +kernel, rfl, by decide +kernel, by decide +kernel⟩
def spEven : Sp := fun vs H Q _ => ∃ (f l : Addr) (n : Nat) (r : Int), vs = [.ref f, .int n, .int r] ∧ FeedAt H f l ∧ n ≤ 4 ∧ r = 1 ∧ 1 ≤ r ∧ r ≤ 12 ∧
  ∀ (a : Addr) (ls : List Int) (B : Nat → Nat → Int) (H' : Hp), SameBut f H H' → FeedAt H' f l → TabAt H' a (matRows n B) → G2 n r ls B → Q (.ref a) H'
theorem ok_even {f : Addr} {fd : FuncData} {k : Nat} (F : Fun K "_law_even" "_law_even" s_law_even f fd) (T : Tx mg) (c_law_draw : Cal P w K mg base CX0 1 "_law_draw" ["_law_feed_here", "_law_many"] spDraw)
    (c_law_pick : Cal P w K mg base CX0 2 "_law_pick" ["_law_feed_here", "_law_row"] spPick) (c_law_gcd : Cal P w K mg base CX0 1 "_law_gcd" ["_law_one", "_law_other"] spGcd) : FnOk P w K mg base CX0 3 f fd ["_law_feed_here", "_law_many", "_law_reach"] spEven := by
  refine F.ok sc_law_even (fun vs H Q E h => ?_) (fun cdv A outer s H vs Q E hr h => ?_)
  · obtain ⟨f, l, n, r, rfl, _⟩ := h
    rfl
  · obtain ⟨f, l, n, r, rfl, hf, n4, re, r1, r12, q⟩ := h
    have hr1 := hr.mono (show 1 ≤ 2 by decide)
    refine ⟨_, (pss_cons (ps_set (i := 3) sc_law_even.nd rfl (.inr rfl) (pe_cal c_law_pick hr (by rfl) (pa_cons (pv 0) (pa_cons (pe_lst (pa_cons (pe_lst (pa_cons pe_int pa_nil)) (pa_cons (pe_lst (pa_cons pe_int pa_nil)) (pa_cons (pe_lst (pa_cons pe_int (pa_cons pe_int pa_nil))) (pa_cons (pe_lst (pa_cons pe_int (pa_cons pe_int pa_nil))) (pa_cons (pe_lst (pa_cons pe_int (pa_cons pe_int (pa_cons pe_int pa_nil)))) pa_nil)))))) pa_nil))))
  (pss_cons (ps_setLc (i := 4) (own := [("_law_k", 10)]) (by rfl) sc_law_even.nd rfl rfl (sw_true rfl rfl rfl (by decide +kernel)) (pi_range1 (by rfl) T.range (pa_cons (pv 1) pa_nil)) (blkOk_by (own := [("_law_k", 10)]) (N := n_law_even) (sc := defScope s_law_even) (by decide +kernel)) (fun _ _ _ _ _ => (pg_name (i := 10) sc_law_even.nd rfl (.inl rfl))) (fun _ _ _ _ _ => pts_nil) (fun _ _ _ _ _ => (pe_cal c_law_pick hr (by rfl) (pa_cons (pv 0) (pa_cons (pv 3) pa_nil)))))
  (pss_cons (ps_setLc (i := 5) (own := [("_law_k", 10)]) (by rfl) sc_law_even.nd rfl rfl (sw_true rfl rfl rfl (by decide +kernel)) (pi_range1 (by rfl) T.range (pa_cons (pv 1) pa_nil)) (blkOk_by (own := [("_law_k", 10)]) (N := n_law_even) (sc := defScope s_law_even) (by decide +kernel)) (fun _ _ _ _ _ => (pg_name (i := 10) sc_law_even.nd rfl (.inl rfl))) (fun _ _ _ _ _ => pts_nil) (fun _ _ _ _ _ => (pe_op op_rep (pe_lst (pa_cons pe_int pa_nil)) (pv 1))))
  (pss_cons (ps_for PassesOwn.never rfl (pi_range1 (by rfl) T.range (pa_cons (pv 1) pa_nil)) (pg_name (i := 6) sc_law_even.nd rfl (.inl rfl))
    (pss_one (ps_for PassesOwn.never rfl (pi_range2 (by rfl) T.range (pa_cons (pe_op op_add (pv 6) pe_int) (pa_cons (pv 1) pa_nil))) (pg_name (i := 7) sc_law_even.nd rfl (.inl rfl))
      (pss_cons (ps_set (i := 8) sc_law_even.nd rfl (.inl rfl) (pe_cal c_law_pick hr (by rfl) (pa_cons (pv 0) (pa_cons (pe_lst (pa_cons pe_int (pa_cons pe_int (pa_cons (pe_un un_neg pe_int) (pa_cons pe_int (pa_cons (pe_op op_sub (pe_cal c_law_draw hr1 (by rfl) (pa_cons (pv 0) (pa_cons (pe_op op_add (pe_op op_mul pe_int (pv 2)) pe_int) pa_nil))) (pv 2)) pa_nil)))))) pa_nil))))
      (pss_cons (ps_set (i := 9) sc_law_even.nd rfl (.inl rfl) (pe_cal c_law_gcd hr1 (by rfl) (pa_cons (pe_ix ix_list (pv 4) (pv 6) (fun _ _ => rfl)) (pa_cons (pe_ix ix_list (pv 4) (pv 7) (fun _ _ => rfl)) pa_nil))))
      (pss_cons (ps_asg (pe_op op_mul (pv 8) (pe_op op_fdiv (pe_ix ix_list (pv 4) (pv 7) (fun _ _ => rfl)) (pv 9))) (pg_sub (pe_ix ix_list (pv 5) (pv 6) (fun _ _ => rfl)) (pv 7) set_list))
      (pss_one (ps_asg (pe_op op_sub pe_int (pe_op op_mul (pv 8) (pe_op op_fdiv (pe_ix ix_list (pv 4) (pv 6) (fun _ _ => rfl)) (pv 9)))) (pg_sub (pe_ix ix_list (pv 5) (pv 7) (fun _ _ => rfl)) (pv 6) set_list)))))))))
  (pss_one (ps_ret (pe_callTy (c_tup (K := K)) (by rfl) T.tuple (by decide +kernel) (pa_cons (pe_lc (own := [("_law_row", 11)]) (by rfl) sc_law_even.nd (pi_list (pv 5)) (blkOk_by (own := [("_law_row", 11)]) (N := n_law_even) (sc := defScope s_law_even) (by decide +kernel)) (fun _ _ _ _ _ => (pg_name (i := 11) sc_law_even.nd rfl (.inl rfl))) (fun _ _ _ _ _ => pts_nil) (fun _ _ _ _ _ => (pe_callTy (c_tup (K := K)) (by rfl) T.tuple (by decide +kernel) (pa_cons (pv 11) pa_nil)))) pa_nil)))))))), ?_⟩
    -- heavy = pick(feed, [..])
    refine ⟨.ref f, rfl, by show 1 ≤ sizeLine; decide, fun p1 e1 => ⟨by show 1 ≤ sizeLine; decide, fun p2 e2 => ⟨by show 2 ≤ sizeLine; decide, fun p3 e3 => ⟨by show 2 ≤ sizeLine; decide, fun p4 e4 => ⟨by show 3 ≤ sizeLine; decide, fun p5 e5 => ⟨by show 5 ≤ sizeLine; decide, fun o eo => ?_⟩⟩⟩⟩⟩⟩
    have s1 := same_upd (o := .lst [.int 1]) e1
    have s2 := same_upd (o := .lst [.int 1]) e2
    have s3 := same_upd (o := .lst [.int 1, .int 2]) e3
    have s4 := same_upd (o := .lst [.int 1, .int 3]) e4
    have s5 := same_upd (o := .lst [.int 1, .int 2, .int 4]) e5
    have s6 := same_upd (o := .lst [.ref p1, .ref p2, .ref p3, .ref p4, .ref p5]) eo
    have t5 := s5.trans s6
    have t4 := s4.trans t5
    have t3 := s3.trans t4
    have t2 := s2.trans t3
    have t1 := s1.trans t2
    have o0 : H o = none := s1.free (s2.free (s3.free (s4.free (s5.free eo))))
    refine ⟨f, l, o, _, rfl, hf.same t1, upd_same, hf.ne o0, by show 0 < 5; decide, by show 5 < 1000; decide, fun v H1 hv sb1 hf1 => ?_⟩
    have hv : ∃ (h : Addr) (hs : List Int), v = .ref h ∧ H h = none ∧ H1 h = some (.lst (hs.map V.int)) ∧ 0 < hs.length ∧ hs.length < 1000 ∧ (∀ x ∈ hs, 1 ≤ x ∧ x ≤ 4) ∧ LD hs := by
      simp only [List.mem_cons, List.not_mem_nil, or_false] at hv
      have p20 : H p2 = none := s1.free e2
      have p30 : H p3 = none := s1.free (s2.free e3)
      have p40 : H p4 = none := s1.free (s2.free (s3.free e4))
      have p50 : H p5 = none := s1.free (s2.free (s3.free (s4.free e5)))
      rcases hv with rfl | rfl | rfl | rfl | rfl
      · exact ⟨p1, [1], rfl, e1, sb1 _ _ (hf.ne e1) (t2 _ _ upd_same), by decide, by decide, by decide, by decide⟩
      · exact ⟨p2, [1], rfl, p20, sb1 _ _ (hf.ne p20) (t3 _ _ upd_same), by decide, by decide, by decide, by decide⟩
      · exact ⟨p3, [1, 2], rfl, p30, sb1 _ _ (hf.ne p30) (t4 _ _ upd_same), by decide, by decide, by decide, by decide⟩
      · exact ⟨p4, [1, 3], rfl, p40, sb1 _ _ (hf.ne p40) (t5 _ _ upd_same), by decide, by decide, by decide, by decide⟩
      · exact ⟨p5, [1, 2, 4], rfl, p50, sb1 _ _ (hf.ne p50) (s6 _ _ upd_same), by decide, by decide, by decide, by decide⟩
    obtain ⟨h, hs, rfl, h0, hh, hs0, hs1, hs4, hsl⟩ := hv
    have sb1 : SameBut f H H1 := (t1.but).trans sb1
    clear hv s1 s2 s3 s4 s5 s6 t1 t2 t3 t4 t5 eo e5 e4 e3 e2 e1
    -- load = [pick(feed, heavy) for k in range(many)]
    refine ⟨.int n, rfl, n, rfl, by omega, by omega, fun L eL => ?_⟩
    have L0 : H L = none := by
      by_cases z : L = f
      · subst z
        exact absurd rfl (hf1.ne eL)
      · cases y : H L with
        | none => rfl
        | some u =>
          rw [sb1 _ _ z y] at eL
          cases eL
    have nLf : L ≠ f := hf1.ne eL
    have nhL : h ≠ L := ne_of_none hh eL
    refine lc_range (fun i H' => ∃ ls : List Int, ls.length = i ∧ (∀ x ∈ ls, x ∈ hs) ∧ H' L = some (.lst (ls.map V.int)) ∧ SameBut f H H' ∧ FeedAt H' f l ∧ H' h = some (.lst (hs.map V.int))) ⟨[], rfl, by simp, upd_same, sb1.updN L0, hf1.put nLf (hf1.ne2 eL), by rw [upd_ne nhL]; exact hh⟩ ?_ ?_
    · rintro i H2 hi ⟨ls, el, hls, eL2, sb2, hf2, hh2⟩
      refine ⟨rfl, ?_⟩
      refine ⟨.ref f, rfl, .ref h, rfl, f, l, h, _, rfl, hf2, hh2, hf.ne h0, by rw [List.length_map]; omega, by rw [List.length_map]; omega, fun v H3 hv sb3 hf3 => ?_⟩
      obtain ⟨x, hx, rfl⟩ := List.mem_map.mp hv
      refine ⟨ls.map V.int, sb3 _ _ nLf eL2, by rw [List.length_map]; exact small1000 (by omega), ls ++ [x], by rw [List.length_append, el]; rfl, ?_, ?_, (sb2.trans sb3).updN L0, hf3.put nLf (hf.ne2 L0), ?_⟩
      · intro y hy
        rcases List.mem_append.mp hy with hy | hy
        · exact hls y hy
        · rw [List.mem_singleton.mp hy]
          exact hx
      · rw [upd_same, List.map_append]
        rfl
      · rw [upd_ne nhL]
        exact sb3 _ _ (hf.ne h0) hh2
    · rintro H2 ⟨ls, el, hls, eL2, sb2, hf2, hh2⟩
      have lld : LD ls := hsl.imp (fun h x hx => h x (hls x hx)) (fun h x hx => h x (hls x hx))
      replace hls : ∀ x ∈ ls, 1 ≤ x ∧ x ≤ 4 := fun x hx => hs4 x (hls x hx)
      -- rows = [[0] * many for k in range(many)]
      refine ⟨.int n, rfl, n, rfl, by omega, by omega, fun R eR => ?_⟩
      have R0 : H R = none := by
        by_cases z : R = f
        · subst z
          exact absurd rfl (hf2.ne eR)
        · cases y : H R with
          | none => rfl
          | some u =>
            rw [sb2 _ _ z y] at eR
            cases eR
      have nRf : R ≠ f := hf2.ne eR
      have nRL : R ≠ L := Ne.symm (ne_of_none eL2 eR)
      refine lc_range (fun i H' => ∃ as : List Addr, as.length = i ∧ as.Nodup ∧ (∀ b ∈ as, H b = none ∧ b ≠ L ∧ b ≠ R ∧ H' b = some (.lst ((matRow n fun _ => 0).map V.int))) ∧ H' R = some (.lst (as.map V.ref)) ∧ SameBut f H H' ∧ FeedAt H' f l ∧ H' L = some (.lst (ls.map V.int))) ⟨[], rfl, List.nodup_nil, by simp, upd_same, sb2.updN R0, hf2.put nRf (hf2.ne2 eR), by rw [upd_ne nRL.symm]; exact eL2⟩ ?_ ?_
      · rintro i H3 hi ⟨as, ea, nd, has, eR3, sb3, hf3, eL3⟩
        refine ⟨rfl, ?_⟩
        refine ⟨by show 1 ≤ sizeLine; decide, fun z ez => ⟨.int n, rfl, z, n, _, rfl, rfl, upd_same, by omega, by omega, ?_, fun b eb => ?_⟩⟩
        · show 1 * ((n : Int)).toNat ≤ sizeLine
          exact Nat.le_of_lt (small1000 (by omega))
        · have sz := same_upd (o := .lst [.int 0]) ez
          have sb := same_upd (o := .lst (List.replicate ((n : Int)).toNat [V.int 0]).flatten) eb
          have b3 : H3 b = none := sz.free eb
          have b0 : H b = none := by
            by_cases z : b = f
            · subst z
              exact absurd rfl (hf3.ne b3)
            · cases y : H b with
              | none => rfl
              | some u =>
                rw [sb3 _ _ z y] at b3
                cases b3
          have nbR : b ≠ R := Ne.symm (ne_of_none eR3 b3)
          have nbL : b ≠ L := Ne.symm (ne_of_none eL3 b3)
          refine ⟨as.map V.ref, sb _ _ (sz _ _ eR3), by rw [List.length_map]; exact small1000 (by omega), as ++ [b], by rw [List.length_append, ea]; rfl, ?_, ?_, ?_, ((sb3.trans (sz.trans sb).but).updN R0), (hf3.same (sz.trans sb)).put nRf (hf.ne2 R0), ?_⟩
          · refine List.nodup_append.mpr ⟨nd, by simp, ?_⟩
            intro u hu v hv e
            rw [List.mem_singleton.mp hv] at e
            subst e
            have := (has _ hu).2.2.2
            rw [b3] at this
            cases this
          · intro u hu
            rcases List.mem_append.mp hu with hu | hu
            · obtain ⟨u0, u1, u2, u3⟩ := has u hu
              exact ⟨u0, u1, u2, by rw [upd_ne u2]; exact sb _ _ (sz _ _ u3)⟩
            · rw [List.mem_singleton.mp hu]
              refine ⟨b0, nbL, nbR, ?_⟩
              rw [upd_ne nbR, upd_same, Int.toNat_natCast, rep_flat]
          · rw [upd_same, List.map_append]
            rfl
          · rw [upd_ne nRL.symm]
            exact sb _ _ (sz _ _ eL3)
      · rintro H3 ⟨as, ea, nd, has, eR3, sb3, hf3, eL3⟩
        have rw0 : RowsAt H3 as n fun _ _ => 0 := ⟨ea, nd, fun i b e => (has b (List.mem_of_getElem? e)).2.2.2⟩
        have hb0 : ∀ b ∈ as, H b = none ∧ b ≠ L ∧ b ≠ R := fun b hb => ⟨(has b hb).1, (has b hb).2.1, (has b hb).2.2.1⟩
        have g0 : G2 n r ls fun _ _ => 0 := ⟨Good.zero el hls (by omega), Gd.zero lld⟩
        clear has
        -- the loops
        refine ⟨.int n, rfl, n, rfl, by omega, by omega, for_range (fun i σ H' => ∃ (y6 y7 y8 y9 : Option V) (B : Nat → Nat → Int), σ = [some (.ref f), some (.int n), some (.int r), some (.ref h), some (.ref L), some (.ref R), y6, y7, y8, y9, none, none] ∧ SameBut f H H' ∧ FeedAt H' f l ∧ H' L = some (.lst (ls.map V.int)) ∧ H' R = some (.lst (as.map V.ref)) ∧ RowsAt H' as n B ∧ G2 n r ls B)
          ⟨none, none, none, none, _, rfl, sb3, hf3, eL3, eR3, rw0, g0⟩ ?_ ?_⟩
        · rintro i σ H4 hi ⟨y6, y7, y8, y9, B, rfl, sb4, hf4, eL4, eR4, rw4, g4⟩
          have hi : i < n := hi
          refine ⟨_, rfl, _, _, rfl, rfl, _, rfl, _, n, rfl, ⟨by omega, by omega, by omega, by omega⟩, for_range (fun j σ H' => ∃ (y7 y8 y9 : Option V) (B : Nat → Nat → Int), σ = [some (.ref f), some (.int n), some (.int r), some (.ref h), some (.ref L), some (.ref R), some (.int (0 + (i : Int))), y7, y8, y9, none, none] ∧ SameBut f H H' ∧ FeedAt H' f l ∧ H' L = some (.lst (ls.map V.int)) ∧ H' R = some (.lst (as.map V.ref)) ∧ RowsAt H' as n B ∧ G2 n r ls B)
            ⟨y7, y8, y9, B, rfl, sb4, hf4, eL4, eR4, rw4, g4⟩ ?_ ?_⟩
          · rintro j σ H5 hj ⟨y7, y8, y9, B, rfl, sb5, hf5, eL5, eR5, rw5, g5⟩
            obtain ⟨J, hJ⟩ : ∃ J : Nat, (0 + (i : Int)) + 1 + (j : Int) = (J : Int) := ⟨i + 1 + j, by omega⟩
            rw [hJ]
            have hij : i < J := by omega
            have hJn : J < n := by omega
            have e0 : (0 : Int) + (i : Int) = (i : Int) := by omega
            rw [e0]
            -- tie = pick(feed, [0, 1, -1, 1, draw(2 * reach + 1) - reach])
            refine ⟨.ref f, rfl, 1, rfl, .ref f, rfl, .int r, rfl, _, _, rfl, rfl, .inl ⟨by decide, by decide⟩, _, _, rfl, rfl, f, l, _, rfl, hf5, by omega, by omega, fun u H6 u0 u1 sb6 hf6 => ?_⟩
            refine ⟨.int r, rfl, _, _, rfl, rfl, by show 5 ≤ sizeLine; decide, fun o eo => ?_⟩
            have so := same_upd (o := .lst [.int 0, .int 1, .int (-1), .int 1, .int (u - r)]) eo
            have nof : o ≠ f := hf6.ne eo
            refine ⟨f, l, o, _, rfl, hf6.same so, upd_same, nof, by show 0 < 5; decide, by show 5 < 1000; decide, fun v H7 hv sb7 hf7 => ?_⟩
            obtain ⟨t, rfl, t1, t2⟩ : ∃ t : Int, v = .int t ∧ -r ≤ t ∧ t ≤ r := by
              simp only [List.mem_cons, List.not_mem_nil, or_false] at hv
              rcases hv with rfl | rfl | rfl | rfl | rfl
              · exact ⟨0, rfl, by omega, by omega⟩
              · exact ⟨1, rfl, by omega, by omega⟩
              · exact ⟨-1, rfl, by omega, by omega⟩
              · exact ⟨1, rfl, by omega, by omega⟩
              · exact ⟨u - r, rfl, by omega, by omega⟩
            have sb57 : SameBut f H5 H7 := (sb6.trans so.but).trans sb7
            have eL7 := sb57 _ _ nLf eL5
            have eR7 := sb57 _ _ nRf eR5
            have rw7 : RowsAt H7 as n B := ⟨rw5.1, rw5.2.1, fun k b e => sb57 _ _ (hf.ne (hb0 b (List.mem_of_getElem? e)).1) (rw5.2.2 k b e)⟩
            have sb7 : SameBut f H H7 := sb5.trans sb57
            clear sb57 so eo nof sb6 hf6 sb5 hf5
            -- by = gcd(load[i], load[j])
            have il : i < ls.length := by omega
            have jl : J < ls.length := by omega
            obtain ⟨x, hx⟩ : ∃ x, ls[i]? = some x := ⟨_, List.getElem?_eq_getElem il⟩
            obtain ⟨y, hy⟩ : ∃ y, ls[J]? = some y := ⟨_, List.getElem?_eq_getElem jl⟩
            have gx : (ls.map V.int)[i]? = some (.int x) := by rw [List.getElem?_map, hx]; rfl
            have gy : (ls.map V.int)[J]? = some (.int y) := by rw [List.getElem?_map, hy]; rfl
            have x1 := hls x (List.mem_of_getElem? hx)
            have y1 := hls y (List.mem_of_getElem? hy)
            obtain ⟨xn, rfl⟩ : ∃ xn : Nat, x = (xn : Int) := ⟨x.toNat, by omega⟩
            obtain ⟨yn, rfl⟩ : ∃ yn : Nat, y = (yn : Int) := ⟨y.toNat, by omega⟩
            refine ⟨_, rfl, _, rfl, L, _, i, _, rfl, rfl, SqL.of eL7, atI_nat gx, _, rfl, _, rfl, L, _, J, _, rfl, rfl, SqL.of eL7, atI_nat gy, xn, yn, rfl, ?_⟩
            have c0 : 0 < Nat.gcd xn yn := Nat.gcd_pos_of_pos_left _ (by omega)
            have c4 : Nat.gcd xn yn ≤ 4 := Nat.le_trans (Nat.gcd_le_left _ (by omega)) (by omega)
            obtain ⟨bi, hbi⟩ : ∃ b, as[i]? = some b := ⟨_, List.getElem?_eq_getElem (by omega)⟩
            obtain ⟨bj, hbj⟩ : ∃ b, as[J]? = some b := ⟨_, List.getElem?_eq_getElem (by omega)⟩
            have gbi : (as.map V.ref)[i]? = some (.ref bi) := by rw [List.getElem?_map, hbi]; rfl
            have gbj : (as.map V.ref)[J]? = some (.ref bj) := by rw [List.getElem?_map, hbj]; rfl
            obtain ⟨bi0, biL, biR⟩ := hb0 bi (List.mem_of_getElem? hbi)
            obtain ⟨bj0, bjL, bjR⟩ := hb0 bj (List.mem_of_getElem? hbj)
            have gd := G2.put g5 re hij hx hy c0 t1 t2
            generalize Nat.gcd xn yn = c at c0 c4 gd
            -- rows[i][j] = tie * (load[j] // by)
            refine ⟨.int t, rfl, _, rfl, _, rfl, L, _, J, _, rfl, rfl, SqL.of eL7, atI_nat gy, .int c, rfl, _, _, rfl, rfl, ⟨by omega, by omega⟩, _, _, rfl, rfl, .inl ⟨by omega, by omega⟩, ?_⟩
            refine ⟨_, rfl, _, rfl, R, _, i, _, rfl, rfl, SqL.of eR7, atI_nat gbi, _, rfl, bi, _, J, J, rfl, rfl, rw7.2.2 i bi hbi, ?_, ?_⟩
            · unfold L2.ixN
              rw [if_pos (by omega), List.length_map, matRow_len, if_pos (by omega), Int.toNat_natCast]
            have rw8 := RowsAt.put rw7 (j := J) hbi (t * ((yn : Int) / (c : Int)))
            have eL8 := (upd_ne (H := H7) (o := .lst (((matRow n (B i)).map V.int).set J (V.int (t * ((yn : Int) / (c : Int)))))) (Ne.symm biL)).trans eL7
            have eR8 := (upd_ne (H := H7) (o := .lst (((matRow n (B i)).map V.int).set J (V.int (t * ((yn : Int) / (c : Int)))))) (Ne.symm biR)).trans eR7
            have sb8 := sb7.updN (o := .lst (((matRow n (B i)).map V.int).set J (V.int (t * ((yn : Int) / (c : Int)))))) bi0
            have hf8 := hf7.put (o := .lst (((matRow n (B i)).map V.int).set J (V.int (t * ((yn : Int) / (c : Int)))))) (hf.ne bi0) (hf.ne2 bi0)
            generalize upd H7 bi (.lst (((matRow n (B i)).map V.int).set J (V.int (t * ((yn : Int) / (c : Int)))))) = H8 at rw8 eL8 eR8 sb8 hf8
            -- rows[j][i] = 0 - tie * (load[i] // by)
            refine ⟨.int t, rfl, _, rfl, _, rfl, L, _, i, _, rfl, rfl, SqL.of eL8, atI_nat gx, .int c, rfl, _, _, rfl, rfl, ⟨by omega, by omega⟩, _, _, rfl, rfl, .inl ⟨by omega, by omega⟩, _, _, rfl, rfl, ?_⟩
            refine ⟨_, rfl, _, rfl, R, _, J, _, rfl, rfl, SqL.of eR8, atI_nat gbj, _, rfl, bj, _, i, i, rfl, rfl, rw8.2.2 J bj hbj, ?_, ?_⟩
            · unfold L2.ixN
              rw [if_pos (by omega), List.length_map, matRow_len, if_pos (by omega), Int.toNat_natCast]
            exact ⟨_, _, _, _, rfl, sb8.updN bj0, hf8.put (hf.ne bj0) (hf.ne2 bj0), (upd_ne (Ne.symm bjL)).trans eL8, (upd_ne (Ne.symm bjR)).trans eR8, RowsAt.put rw8 hbj _, gd⟩
          · rintro σ H5 ⟨y7, y8, y9, B, rfl, rest⟩
            exact ⟨_, y7, y8, y9, B, rfl, rest⟩
        · rintro σ H4 ⟨y6, y7, y8, y9, B, rfl, sb4, hf4, eL4, eR4, rw4, g4⟩
          -- return tuple([tuple(row) for row in rows])
          refine ⟨_, rfl, R, rfl, ⟨_, SqL.of eR4⟩, fun D eD => ?_⟩
          have D0 : H D = none := by
            by_cases z : D = f
            · subst z
              exact absurd rfl (hf4.ne eD)
            · cases y : H D with
              | none => rfl
              | some u =>
                rw [sb4 _ _ z y] at eD
                cases eD
          have sD := same_upd (o := .lst []) eD
          have nDR : R ≠ D := ne_of_none eR4 eD
          refine lc_list (K := K) (a := R) (xs := as.map V.ref) (fun i H' => ∃ ts : List Addr, ts.length = i ∧ (∀ (k : Nat) (b : Addr), ts[k]? = some b → H' b = some (.tup ((matRow n (B k)).map V.int))) ∧ H' D = some (.lst (ts.map V.ref)) ∧ (∀ b o, b ≠ D → H4 b = some o → H' b = some o)) ⟨[], rfl, by simp, upd_same, fun b o nb e => by rw [upd_ne nb]; exact e⟩ (fun i H' _ ⟨ts, _, _, _, k⟩ => SqL.of (k _ _ nDR eR4)) ?_ ?_
          · rintro i v H5 hv ⟨ts, et, hts, eD5, k5⟩
            rw [List.getElem?_map] at hv
            cases ei : as[i]? with
            | none =>
              rw [ei] at hv
              cases hv
            | some b =>
              rw [ei] at hv
              cases hv
              have hb5 : H5 b = some (.lst ((matRow n (B i)).map V.int)) := k5 _ _ (ne_of_none (rw4.2.2 i b ei) eD) (rw4.2.2 i b ei)
              refine ⟨rfl, .ref b, rfl, b, _, rfl, .inl ⟨SqL.of hb5, fun p ep => ?_⟩⟩
              have sp := same_upd (o := .tup ((matRow n (B i)).map V.int)) ep
              have npD : p ≠ D := Ne.symm (ne_of_none eD5 ep)
              refine ⟨ts.map V.ref, sp _ _ eD5, by rw [List.length_map]; exact small1000 (by have := (List.getElem?_eq_some_iff.mp ei).1; omega), ts ++ [p], by rw [List.length_append, et]; rfl, fun k c e => ?_, ?_, fun c o nc e => ?_⟩
              · rw [List.getElem?_append] at e
                split at e
                · have hc := hts k c e
                  have ncD : c ≠ D := ne_of hc eD5 (by intro z; cases z)
                  rw [upd_ne ncD]
                  exact sp _ _ hc
                · next hk =>
                  have : k = i := by
                    have h2 := (List.getElem?_eq_some_iff.mp e).1
                    rw [List.length_singleton] at h2
                    omega
                  subst this
                  have : c = p := by
                    have z : k - ts.length = 0 := by omega
                    rw [z] at e
                    exact (Option.some.inj e).symm
                  subst this
                  rw [upd_ne npD, upd_same]
              · rw [upd_same, List.map_append]
                rfl
              · rw [upd_ne nc]
                exact sp _ _ (k5 _ _ nc e)
          · rintro H5 ⟨ts, et, hts, eD5, k5⟩
            refine ⟨D, _, rfl, .inl ⟨SqL.of eD5, fun a ea => ?_⟩⟩
            have sa := same_upd (o := .tup (ts.map V.ref)) ea
            have sb5 : SameBut f H H5 := fun b o nb e => k5 _ _ (ne_of_none e D0) (sb4 _ _ nb e)
            have hf5 : FeedAt H5 f l := by
              obtain ⟨ns, i, n, m, c, a1, a2, a3, a4⟩ := hf4
              exact ⟨ns, i, n, m, c, a1, k5 _ _ (ne_of_none a2 eD) a2, k5 _ _ (ne_of_none a3 eD) a3, a4⟩
            refine q a ls B _ (sb5.trans sa.but) (hf5.same sa) ⟨ts, upd_same, ?_, fun i r e => ?_⟩ g4
            · rw [matRows_len, et, List.length_map]
              exact rw4.1
            · have hi : i < n := by
                have := (List.getElem?_eq_some_iff.mp e).1
                rw [matRows_len] at this
                exact this
              rw [matRows_get hi] at e
              cases e
              have ht : i < ts.length := by
                rw [et, List.length_map]
                omega
              exact ⟨_, List.getElem?_eq_getElem ht, sa _ _ (hts i _ (List.getElem?_eq_getElem ht))⟩
end
section
variable {P : Program} {w : World} {K : PySem.W.Frag} {mg : Str → Option Value} {base : Heap}
abbrev s_law_roots : Stmt := topS 52
abbrev n_law_roots : List Str := ["_law_feed_here", "_law_ties", "_law_most", "_law_reach", "_law_rows", "_law_k", "_law_one"]
theorem sc_law_roots : FnScope n_law_roots ["_law_feed_here", "_law_ties", "_law_most", "_law_reach"] (defScope s_law_roots) := ⟨rfl, rfl, rfl, by decide +kernel, rfl, by decide +kernel, by decide +kernel⟩
/-- roots for a table of n buds: new rows of n numbers from -r to r -/
def spRoots : Sp := fun vs H Q _ => ∃ (f l a : Addr) (rows : List (List Int)) (n m : Nat) (r : Int), vs = [.ref f, .ref a, .int m, .int r] ∧ FeedAt H f l ∧ TabAt H a rows ∧ 1 ≤ n ∧ n ≤ 4 ∧ rows.length ≤ 8 ∧ 1 ≤ rows.length ∧ (∀ x ∈ rows, x.length = n) ∧ m ≤ 4 ∧ 0 ≤ r ∧ r ≤ 50 ∧
  ∀ (b : Addr) (more : List (List Int)) (H' : Hp), SameBut f H H' → FeedAt H' f l → TabAt H' b (rows ++ more) → more.length ≤ m → (∀ x ∈ more, x.length = n ∧ ∀ t ∈ x, -r ≤ t ∧ t ≤ r) → Q (.ref b) H'
theorem ok_roots {f : Addr} {fd : FuncData} {k : Nat} (F : Fun K "_law_roots" "_law_roots" s_law_roots f fd) (T : Tx mg) (c_law_draw : Cal P w K mg base CX0 1 "_law_draw" ["_law_feed_here", "_law_many"] spDraw) :
    FnOk P w K mg base CX0 2 f fd ["_law_feed_here", "_law_ties", "_law_most", "_law_reach"] spRoots := by
  refine F.ok sc_law_roots (fun vs H Q E h => ?_) (fun cdv A outer s H vs Q E hr h => ?_)
  · obtain ⟨f, l, a, rows, n, m, r, rfl, _⟩ := h
    rfl
  · obtain ⟨f, l, a, rows, n, m, r, rfl, hf, hT, n1, n4, hl8, hl1, hw, m4, r0, r50, q⟩ := h
    refine ⟨_, (pss_cons (ps_set (i := 4) sc_law_roots.nd rfl (.inl rfl) (pe_callTy (c_lst (K := K)) (by rfl) T.list (by decide +kernel) (pa_cons (pv 1) pa_nil)))
  (pss_cons (ps_for PassesOwn.never rfl (pi_range1 (by rfl) T.range (pa_cons (pe_cal c_law_draw hr (by rfl) (pa_cons (pv 0) (pa_cons (pe_op op_add (pv 2) pe_int) pa_nil))) pa_nil)) (pg_name (i := 5) sc_law_roots.nd rfl (.inl rfl))
    (pss_one (ps_expr (pe_bm PySem.F.plainAttrs_list PySem.F.slot_list_append PySem.F.type_list_append mt_append (pv 4) (pa_cons (pe_callTy (c_tup (K := K)) (by rfl) T.tuple (by decide +kernel) (pa_cons (pe_lc (own := [("_law_one", 6)]) (by rfl) sc_law_roots.nd (p_tup (K := K) (pe_ix (i_tup (K := K)) (pv 1) pe_int (fun _ _ => rfl))) (blkOk_by (own := [("_law_one", 6)]) (N := n_law_roots) (sc := defScope s_law_roots) (by decide +kernel)) (fun _ _ _ _ _ => (pg_name (i := 6) sc_law_roots.nd rfl (.inl rfl))) (fun _ _ _ _ _ => pts_nil) (fun _ _ _ _ _ => (pe_op op_sub (pe_cal c_law_draw hr (by rfl) (pa_cons (pv 0) (pa_cons (pe_op op_add (pe_op op_mul pe_int (pv 3)) pe_int) pa_nil))) (pv 3)))) pa_nil)) pa_nil)))))
  (pss_one (ps_ret (pe_callTy (c_tup (K := K)) (by rfl) T.tuple (by decide +kernel) (pa_cons (pv 4) pa_nil)))))), ?_⟩
    obtain ⟨as, ha, hal, has⟩ := id hT
    -- rows = list(ties)
    refine ⟨.ref a, rfl, a, _, rfl, .inr (SqT.of ha), fun R eR => ?_⟩
    have sR := same_upd (o := .lst (as.map V.ref)) eR
    have nRf : R ≠ f := hf.ne eR
    have nRl : R ≠ l := hf.ne2 eR
    -- range(draw(most + 1))
    refine ⟨.ref f, rfl, .int m, rfl, _, _, rfl, rfl, f, l, _, rfl, hf.same sR, by omega, by omega, fun u H1 u0 u1 sb1 hf1 => ?_⟩
    refine ⟨u, rfl, by omega, by omega, ?_⟩
    have hd0 : ∃ r0 b0, rows[0]? = some r0 ∧ as[0]? = some b0 ∧ H b0 = some (.tup (r0.map V.int)) ∧ r0.length = n := by
      have z : 0 < rows.length := by omega
      obtain ⟨b0, e1, e2⟩ := has 0 _ (List.getElem?_eq_getElem z)
      exact ⟨_, b0, List.getElem?_eq_getElem z, e1, e2, hw _ (List.getElem_mem z)⟩
    obtain ⟨r0', b0, er0, eb0, hb0, lr0⟩ := hd0
    refine for_range (fun i σ H' => ∃ (y5 : Option V) (ts : List Addr) (more : List (List Int)), σ = [some (.ref f), some (.ref a), some (.int m), some (.int r), some (.ref R), y5, none] ∧ SameBut f H H' ∧ FeedAt H' f l ∧ H' R = some (.lst ((as ++ ts).map V.ref)) ∧ ts.length = i ∧ more.length = i ∧
      (∀ (k : Nat) (x : List Int), more[k]? = some x → ∃ b, ts[k]? = some b ∧ H' b = some (.tup (x.map V.int))) ∧ (∀ x ∈ more, x.length = n ∧ ∀ t ∈ x, -r ≤ t ∧ t ≤ r)) ?_ ?_ ?_
    · exact ⟨none, [], [], rfl, (sR.but).trans sb1, hf1, by rw [List.append_nil]; exact sb1 _ _ nRf upd_same, rfl, rfl, by simp, by simp⟩
    · rintro i σ H2 hi ⟨y5, ts, more, rfl, sb2, hf2, eR2, lt, lm, hts, hmo⟩
      have ha2 := sb2 _ _ (hf.tup ha) ha
      have hb2 := sb2 _ _ (hf.tup hb0) hb0
      have g0 : (as.map V.ref)[0]? = some (.ref b0) := by rw [List.getElem?_map, eb0]; rfl
      -- rows.append(tuple([..]))
      refine ⟨.ref R, rfl, .inl ⟨rfl, _, SqL.of eR2⟩, .ref a, rfl, a, _, 0, .ref b0, rfl, rfl, SqT.of ha2, atI_nat (j := 0) g0, b0, rfl, ⟨_, SqT.of hb2⟩, fun D eD => ?_⟩
      have D0 : H D = none := sb2.none hf2 eD
      have nDf : D ≠ f := hf2.ne eD
      have nDR : D ≠ R := Ne.symm (ne_of_none eR2 eD)
      refine lc_tup (K := K) (a := b0) (xs := r0'.map V.int) (fun j H' => ∃ x : List Int, x.length = j ∧ (∀ t ∈ x, -r ≤ t ∧ t ≤ r) ∧ H' D = some (.lst (x.map V.int)) ∧ FeedAt H' f l ∧ (∀ b o, b ≠ D → b ≠ f → H2 b = some o → H' b = some o)) ⟨[], rfl, by simp, upd_same, hf2.put nDf (hf2.ne2 eD), fun b o h1 h2 e => by rw [upd_ne h1]; exact e⟩
        (fun j H' _ ⟨x, _, _, _, _, k⟩ => SqT.of (k _ _ (ne_of_none hb2 eD) (hf.tup hb0) hb2)) ?_ ?_
      · rintro j v H3 hv ⟨x, lx, hx, eD3, hf3, k3⟩
        refine ⟨rfl, .ref f, rfl, .int r, rfl, _, _, rfl, rfl, .inl ⟨by decide, by decide⟩, _, _, rfl, rfl, f, l, _, rfl, hf3, by omega, by omega, fun t H4 t0 t1 sb4 hf4 => ?_⟩
        have hj : j < n := by
          have := (List.getElem?_eq_some_iff.mp hv).1
          rw [List.length_map] at this
          omega
        refine ⟨.int r, rfl, _, _, rfl, rfl, x.map V.int, sb4 _ _ nDf eD3, by rw [List.length_map]; exact small1000 (by omega), x ++ [t - r], by rw [List.length_append, lx]; rfl, fun z hz => ?_, ?_, hf4.put nDf (hf.ne2 D0), fun b o h1 h2 e => ?_⟩
        · rcases List.mem_append.mp hz with hz | hz
          · exact hx z hz
          · rw [List.mem_singleton.mp hz]
            omega
        · rw [upd_same, List.map_append]
          rfl
        · rw [upd_ne h1]
          exact sb4 _ _ h2 (k3 _ _ h1 h2 e)
      · rintro H3 ⟨x, lx, hx, eD3, hf3, k3⟩
        rw [List.length_map, lr0] at lx
        refine ⟨D, _, rfl, .inl ⟨SqL.of eD3, fun p ep => ?_⟩⟩
        have sp := same_upd (o := .tup (x.map V.int)) ep
        have eR3 := k3 _ _ (Ne.symm nDR) nRf eR2
        have npR : p ≠ R := Ne.symm (ne_of_none eR3 ep)
        refine ⟨R, _, _, rfl, rfl, sp _ _ eR3, ?_, ?_⟩
        · rw [List.length_map, List.length_append]
          exact small1000 (by omega)
        · refine ⟨_, ts ++ [p], more ++ [x], rfl, ?_, (hf3.same sp).put nRf nRl, ?_, by rw [List.length_append, lt]; rfl, by rw [List.length_append, lm]; rfl, fun k z e => ?_, fun z hz => ?_⟩
          · refine SameBut.updN (fun b o nb e => sp _ _ (k3 _ _ (ne_of_none e D0) nb (sb2 _ _ nb e))) eR
          · rw [upd_same, ← List.append_assoc, List.map_append (l₂ := [p])]
            rfl
          · rw [List.getElem?_append] at e
            split at e
            · next hk =>
              obtain ⟨b, e1, e2⟩ := hts k z e
              refine ⟨b, by rw [List.getElem?_append, if_pos (by omega)]; exact e1, ?_⟩
              have nbR : b ≠ R := ne_of e2 eR2 (by intro z; cases z)
              rw [upd_ne nbR]
              exact sp _ _ (k3 _ _ (ne_of_none e2 eD) (hf2.tup e2) e2)
            · next hk =>
              have h2 := (List.getElem?_eq_some_iff.mp e).1
              rw [List.length_singleton] at h2
              have z0 : k - more.length = 0 := by omega
              rw [z0] at e
              have : x = z := Option.some.inj e
              subst this
              refine ⟨p, ?_, ?_⟩
              · rw [List.getElem?_append, if_neg (by omega)]
                have z1 : k - ts.length = 0 := by omega
                rw [z1]
                rfl
              · rw [upd_ne npR, upd_same]
          · rcases List.mem_append.mp hz with hz | hz
            · exact hmo z hz
            · rw [List.mem_singleton.mp hz]
              exact ⟨lx, hx⟩
    · rintro σ H2 ⟨y5, ts, more, rfl, sb2, hf2, eR2, lt, lm, hts, hmo⟩
      refine ⟨.ref R, rfl, R, _, rfl, .inl ⟨SqL.of eR2, fun p ep => ?_⟩⟩
      have sp := same_upd (o := .tup ((as ++ ts).map V.ref)) ep
      refine q p more _ (sb2.trans sp.but) (hf2.same sp) ⟨as ++ ts, upd_same, by rw [List.length_append, List.length_append, hal, lt, lm], fun i x e => ?_⟩ (by omega) hmo
      rw [List.getElem?_append] at e
      split at e
      · next hk =>
        obtain ⟨b, e1, e2⟩ := has i x e
        exact ⟨b, by rw [List.getElem?_append, if_pos (by omega)]; exact e1, sp _ _ (sb2 _ _ (hf.tup e2) e2)⟩
      · next hk =>
        obtain ⟨b, e1, e2⟩ := hts _ x e
        exact ⟨b, by rw [List.getElem?_append, if_neg (by omega), hal]; exact e1, sp _ _ e2⟩
end
end Bw
set_option Elab.async false
set_option linter.all false
set_option maxRecDepth 100000
set_option maxHeartbeats 4000000
namespace Bw
open PySem PySem.Spec PyProof.Rows L2
section
variable {P : Program} {w : World} {K : PySem.W.Frag} {mg : Str → Option Value} {base : Heap}
theorem sM_lt {n m k : Nat} {rows : List (List Int)} {w : Nat → Nat} (B : StB n m rows w) (hk : k < n) : sM m k (ent rows) w < 2 ^ 90001 := by
  have n4 := B.tab.n4
  have hl := B.tab.len
  have hl4 := B.tab.len4
  have hlm := B.len
  have bd : ∀ i, i < m → -50 ≤ ent rows i k ∧ ent rows i k ≤ 50 := fun i hi => B.tab.wd.bd (by omega) hk
  have a1 : pr (fun i => w i ^ (ent rows i k).toNat) m < 2 ^ 90000 := pr_wlt (by omega) B.lt bd (Nat.le_refl m)
  have a2 : pr (fun i => w i ^ (-(ent rows i k)).toNat) m < 2 ^ 90000 := pr_wlt (c := fun i => -(ent rows i k)) (by omega) B.lt (fun i hi => by have := bd i hi; omega) (Nat.le_refl m)
  show pr (fun i => w i ^ (ent rows i k).toNat) m + pr (fun i => w i ^ (-(ent rows i k)).toNat) m < _
  rw [Nat.pow_succ]
  generalize 2 ^ 90000 = z at a1 a2 ⊢
  omega
abbrev s_law_step : Stmt := topS 50
abbrev n_law_step : List Str := ["_law_ties", "_law_worths", "_law_place", "_law_fresh"]
theorem sc_law_step : FnScope n_law_step ["_law_ties", "_law_worths", "_law_place"] (defScope s_law_step) := ⟨rfl, rfl, rfl, by decide +kernel, rfl, by decide +kernel, by decide +kernel⟩
def spLStep : Sp := fun vs H Q _ => ∃ (a L : Addr) (rows : List (List Int)) (n m k : Nat) (w : Nat → Nat), vs = [.ref a, .ref L, .int k] ∧ TabAt H a rows ∧ StB n m rows w ∧ k < n ∧ WsAt H L m w ∧ w k ∣ sM m k (ent rows) w ∧
  ∀ (p b L' : Addr) (H' : Hp), Same H H' → H' p = some (.tup [.ref b, .ref L']) → TabAt H' b (turnT rows n k) → WsAt H' L' m (upW w k (sM m k (ent rows) w / w k)) → Q (.ref p) H'
theorem ok_lstep {f : Addr} {fd : FuncData} (F : Fun K "_law_step" "_law_step" s_law_step f fd) (T : Tx mg) (c_law_div : Cal P w K mg base CX0 3 "_law_div" ["_law_one", "_law_other"] spLDiv) (c_law_both : Cal P w K mg base CX0 4 "_law_both" ["_law_ties", "_law_worths", "_law_place"] spBoth) (c_law_turn : Cal P w K mg base CX0 1 "_law_turn" ["_law_ties", "_law_place"] spLTurn) : FnOk P w K mg base CX0 5 f fd ["_law_ties", "_law_worths", "_law_place"] spLStep := by
  refine F.ok sc_law_step (fun vs H Q E h => ?_) (fun cdv A outer s H vs Q E hr h => ?_)
  · obtain ⟨a, L, rows, n, m, k, w, rfl, _⟩ := h
    rfl
  · obtain ⟨a, L, rows, n, m, k, w, rfl, hT, B, hk, hL, hd, q⟩ := h
    refine ⟨_, (pss_cons (ps_set (i := 3) sc_law_step.nd rfl (.inl rfl) (pe_cal c_law_div (hr.mono (by decide)) (by rfl) (pa_cons (pe_cal c_law_both hr (by rfl) (pa_cons (pv 0) (pa_cons (pv 1) (pa_cons (pv 2) pa_nil)))) (pa_cons (pe_ix (i_list (K := K)) (pv 1) (pv 2) (fun _ _ => rfl)) pa_nil))))
  (pss_one (ps_ret (pe_tup (pa_cons (pe_cal c_law_turn (hr.mono (by decide)) (by rfl) (pa_cons (pv 0) (pa_cons (pv 2) pa_nil))) (pa_cons (pe_op op_cat (pe_op op_cat (pe_slice (l_list (K := K)) (pv 1) po_none (po_some (pv 2))) (pe_lst (pa_cons (pv 3) pa_nil))) (pe_slice (l_list (K := K)) (pv 1) (po_some (pe_op op_add (pv 2) pe_int)) po_none)) pa_nil)))))), ?_⟩
    have n1 := B.tab.n1
    have n4 := B.tab.n4
    have hl := B.tab.len
    have hl4 := B.tab.len4
    have hlm := B.len
    obtain ⟨rs, h1, h2, h3⟩ := id hL
    refine ⟨.ref a, rfl, .ref L, rfl, .int k, rfl, a, L, rows, n, m, k, w, rfl, hT, B, hk, hL, fun p1 H1 s1 hp1 => ?_⟩
    obtain ⟨rs', r, g1, g2, g3⟩ := (hL.same s1).at (show k < m by omega)
    refine ⟨.ref L, rfl, .int k, rfl, L, _, _, .ref r, rfl, rfl, SqL.of g1, atI_nat g2, p1, r, _, _, rfl, hp1, g3, sM_lt B hk, Nat.lt_trans (B.lt k) g60_lt, B.pos k, hd, fun p H2 s2 hp => ?_⟩
    have s02 := s1.trans s2
    refine ⟨.ref a, rfl, .int k, rfl, a, rows, n, k, rfl, hT.same s02, B.tab.wd, hk, fun b H3 s3 hTb => ?_⟩
    have s03 := s02.trans s3
    refine ⟨.ref L, rfl, .int k, rfl, k, rfl, ?_⟩
    dsimp only [tNoPart]
    refine ⟨L, _, rfl, SqL.of (s03 _ _ h1), fun c1 ec1 => ?_⟩
    rw [cut_take]
    have sc1 := same_upd (o := .lst ((rs.map V.ref).take k)) ec1
    refine ⟨.ref p, rfl, by show 1 ≤ sizeLine; decide, fun c2 ec2 => ?_⟩
    have sc2 := same_upd (o := .lst [V.ref p]) ec2
    refine ⟨c1, c2, _, _, rfl, rfl, sc2 _ _ upd_same, upd_same, by rw [List.length_take, List.length_map]; exact Nat.le_of_lt (small1000 (by show _ + 1 ≤ 1000; omega)), fun c3 ec3 => ?_⟩
    have sc3 := same_upd (o := .lst ((rs.map V.ref).take k ++ [V.ref p])) ec3
    have s13 := s03.trans ((sc1.trans sc2).trans sc3)
    refine ⟨.ref L, rfl, .int k, rfl, _, _, rfl, rfl, _, rfl, ?_⟩
    dsimp only [tNoPart]
    refine ⟨L, _, rfl, SqL.of (s13 _ _ h1), fun c4 ec4 => ?_⟩
    have e1 : ((k : Nat) : Int) + 1 = ((k + 1 : Nat) : Int) := by omega
    rw [e1, cut_drop]
    have sc4 := same_upd (o := .lst ((rs.map V.ref).drop (k + 1))) ec4
    refine ⟨c3, c4, _, _, rfl, rfl, sc4 _ _ upd_same, upd_same, by rw [List.length_append, List.length_take, List.length_drop, List.length_map]; exact Nat.le_of_lt (small1000 (by show _ + 1 + _ ≤ 1000; omega)), fun c5 ec5 => ?_⟩
    have sc5 := same_upd (o := .lst ((rs.map V.ref).take k ++ [V.ref p] ++ (rs.map V.ref).drop (k + 1))) ec5
    refine ⟨by show 2 ≤ sizeLine; decide, fun p9 ep9 => ?_⟩
    have sp9 := same_upd (o := .tup [V.ref b, .ref c5]) ep9
    have s59 := (((sc1.trans sc2).trans sc3).trans sc4).trans (sc5.trans sp9)
    have e5 := sp9 _ _ (upd_same (o := .lst ((rs.map V.ref).take k ++ [V.ref p] ++ (rs.map V.ref).drop (k + 1))) (a := c5) (H := _))
    exact q p9 b c5 _ (s03.trans s59) upd_same (hTb.same s59) (splice h2 (by omega) (fun j r e => (s03.trans s59) _ _ (h3 j r e)) ((s3.trans s59) _ _ hp) e5)
abbrev s_law_small : Stmt := topS 53
abbrev n_law_small : List Str := ["_law_feed_here", "_law_most_buds", "_law_most_roots", "_law_ties"]
theorem sc_law_small : FnScope n_law_small ["_law_feed_here", "_law_most_buds", "_law_most_roots"] (defScope s_law_small) := ⟨rfl, rfl, rfl, by decide +kernel, rfl, by decide +kernel, by decide +kernel⟩
def spSmall : Sp := fun vs H Q _ => ∃ (f l : Addr), vs = [.ref f, .int 4, .int 2] ∧ FeedAt H f l ∧
  ∀ (a : Addr) (rows : List (List Int)) (n : Nat) (H' : Hp), SameBut f H H' → FeedAt H' f l → TabAt H' a rows → StOk n rows.length (6 * n) 0 rows (fun _ => 1) → Q (.ref a) H'
theorem ok_small {f : Addr} {fd : FuncData} (F : Fun K "_law_small" "_law_small" s_law_small f fd) (T : Tx mg) (c_law_draw : Cal P w K mg base CX0 1 "_law_draw" ["_law_feed_here", "_law_many"] spDraw)
    (c_law_even : Cal P w K mg base CX0 3 "_law_even" ["_law_feed_here", "_law_many", "_law_reach"] spEven) (c_law_roots : Cal P w K mg base CX0 2 "_law_roots" ["_law_feed_here", "_law_ties", "_law_most", "_law_reach"] spRoots) :
    FnOk P w K mg base CX0 4 f fd ["_law_feed_here", "_law_most_buds", "_law_most_roots"] spSmall := by
  refine F.ok sc_law_small (fun vs H Q E h => ?_) (fun cdv A outer s H vs Q E hr h => ?_)
  · obtain ⟨f, l, rfl, _⟩ := h
    rfl
  · obtain ⟨f, l, rfl, hf, q⟩ := h
    refine ⟨_, (pss_cons (ps_set (i := 3) sc_law_small.nd rfl (.inl rfl) (pe_cal c_law_even hr (by rfl) (pa_cons (pv 0) (pa_cons (pe_op op_add pe_int (pe_cal c_law_draw (hr.mono (by decide)) (by rfl) (pa_cons (pv 0) (pa_cons (pv 1) pa_nil)))) (pa_cons pe_int pa_nil)))))
  (pss_one (ps_ret (pe_cal c_law_roots (hr.mono (by decide)) (by rfl) (pa_cons (pv 0) (pa_cons (pv 3) (pa_cons (pv 2) (pa_cons pe_int pa_nil)))))))), ?_⟩
    refine ⟨.ref f, rfl, .ref f, rfl, .int 4, rfl, f, l, _, rfl, hf, by omega, by omega, fun v H1 v0 v1 sb1 hf1 => ?_⟩
    obtain ⟨n, hn⟩ : ∃ n : Nat, 1 + v = (n : Int) := ⟨(1 + v).toNat, by omega⟩
    refine ⟨_, _, rfl, rfl, f, l, n, 1, by show [V.ref f, V.int (1 + v), V.int 1] = _; rw [hn], hf1, by omega, rfl, by decide, by decide, fun a ls B H2 sb2 hf2 hT2 g2 => ?_⟩
    have hw : ∀ x ∈ matRows n B, x.length = n := fun x hx => by
      unfold matRows at hx
      obtain ⟨i, hi, rfl⟩ := List.mem_map.mp hx
      exact matRow_len ..
    refine ⟨.ref f, rfl, .ref a, rfl, .int 2, rfl, f, l, a, _, n, 2, 1, rfl, hf2, hT2, by omega, by omega, by rw [matRows_len]; omega, by rw [matRows_len]; omega, hw, by decide, by decide, by decide, fun b more H3 sb3 hf3 hT3 hm hmo => ?_⟩
    have O := tabOk_drawn (more := more) (by omega) (by omega) g2.1 (by decide) (by decide) (by omega) fun x hx => ⟨(hmo x hx).1, fun t ht => by have := (hmo x hx).2 t ht; omega⟩
    refine q b _ n _ (sb1.trans (sb2.trans sb3)) hf3 hT3 ⟨⟨O, rfl, fun _ => by decide, fun _ => by decide +kernel⟩, fun _ _ => rfl, ?_⟩
    exact Wh_congr (by omega) (fun i j hi hj => (ent_mat hi hj).symm) (fun _ _ => rfl) (g2.2.wh g2.1.len (by omega) (by omega))
end
end Bw
set_option Elab.async false
set_option linter.all false
set_option maxRecDepth 100000
set_option maxHeartbeats 4000000
namespace Bw
open PySem PySem.Spec PyProof.Rows L2
/-! ### lines of worths -/
def LnsAt (H : Hp) (X : Addr) (r : Nat) (G : Nat → List Int) : Prop := ∃ ds : List Addr, H X = some (.lst (ds.map V.ref)) ∧ ds.length = r ∧ ∀ (i : Nat) (b : Addr), ds[i]? = some b → H b = some (.lst ((G i).map V.int))
theorem LnsAt.same {H H' : Hp} {X : Addr} {r : Nat} {G : Nat → List Int} (s : Same H H') (h : LnsAt H X r G) : LnsAt H' X r G := by
  obtain ⟨ds, h1, h2, h3⟩ := h
  exact ⟨ds, s _ _ h1, h2, fun i b e => s _ _ (h3 i b e)⟩
def wv (n m : Nat) (s : List (List Int) × (Nat → Nat)) (j : Nat) : Nat → Nat := match seqF n m s j with
  | some t => t.2
  | none => fun _ => 1
def lineG (n m : Nat) (s : List (List Int) × (Nat → Nat)) (i : Nat) : List Int := matRow n fun c => (wv n m s (i * n) c : Nat)
theorem rep_ref (m : Nat) (p : Addr) : (List.replicate m [V.ref p]).flatten = (List.replicate m p).map V.ref := by
  induction m with
  | zero => rfl
  | succ m ih =>
    rw [List.replicate_succ, List.flatten_cons, ih, List.replicate_succ]
    rfl
theorem rep_one (n : Nat) : (List.replicate n [V.int 1]).flatten = (matRow n fun _ => 1).map V.int := by
  have : ∀ n, (List.replicate n [V.int 1]).flatten = List.replicate n (V.int 1) := fun n => by
    induction n with
    | zero => rfl
    | succ n ih =>
      rw [List.replicate_succ, List.flatten_cons, ih]
      rfl
  rw [this]
  unfold matRow
  rw [List.map_map]
  exact (List.eq_replicate_iff.mpr ⟨by rw [List.length_map, List.length_range], fun b hb => by
    obtain ⟨_, _, rfl⟩ := List.mem_map.mp hb
    rfl⟩).symm
theorem WsAt.ones {H : Hp} {L p : Addr} {m : Nat} (h : H L = some (.lst ((List.replicate m p).map V.ref))) (hp : PartAt H p 1 1) : WsAt H L m fun _ => 1 := by
  refine ⟨_, h, List.length_replicate, fun j r e => ?_⟩
  rw [List.getElem?_replicate] at e
  split at e
  · cases e
    exact hp
  · cases e
theorem LnsAt.push {H : Hp} {X D : Addr} {r : Nat} {G : Nat → List Int} (h : LnsAt H X r G) (hD : H D = some (.lst ((G r).map V.int))) (ne : D ≠ X) (hx : ∀ (i : Nat) (b : Addr) (ds : List Addr), H X = some (.lst (ds.map V.ref)) → ds[i]? = some b → b ≠ X) :
    ∃ xs, H X = some (.lst xs) ∧ xs.length = r ∧ LnsAt (upd H X (.lst (xs ++ [.ref D]))) X (r + 1) G := by
  obtain ⟨ds, h1, h2, h3⟩ := h
  refine ⟨_, h1, by rw [List.length_map, h2], ds ++ [D], ?_, by rw [List.length_append, h2]; rfl, fun i b e => ?_⟩
  · rw [upd_same, List.map_append]
    rfl
  · rw [List.getElem?_append] at e
    split at e
    · rw [upd_ne (hx i b ds h1 e)]
      exact h3 i b e
    · next hi =>
      have h4 := (List.getElem?_eq_some_iff.mp e).1
      rw [List.length_singleton] at h4
      have hr : i = r := by omega
      subst hr
      rw [show i - ds.length = 0 by omega] at e
      have : D = b := Option.some.inj e
      subst this
      rw [upd_ne ne]
      exact hD
theorem LnsAt.ne {H : Hp} {X : Addr} {r : Nat} {G : Nat → List Int} {n : Nat} (h : LnsAt H X r G) (hG : ∀ i, i < r → ∃ z zs, G i = z :: zs) : ∀ (i : Nat) (b : Addr) (ds : List Addr), H X = some (.lst (ds.map V.ref)) → ds[i]? = some b → b ≠ X := fun i b ds h1 e z => by
  obtain ⟨ds', k1, k2, k3⟩ := h
  have e1 : ds.map V.ref = ds'.map V.ref := HO.lst.inj (Option.some.inj (h1.symm.trans k1))
  have e2 : (ds.map V.ref)[i]? = some (.ref b) := by rw [List.getElem?_map, e]; rfl
  rw [e1] at e2
  obtain ⟨b', e3, e4⟩ := ref_at e2
  cases e4
  have k := k3 i b e3
  rw [z, k1] at k
  have k := HO.lst.inj (Option.some.inj k)
  have hi : i < r := by
    have := (List.getElem?_eq_some_iff.mp e3).1
    omega
  obtain ⟨x, xs, ex⟩ := hG i hi
  rw [ex] at k
  cases ds' with
  | nil => cases k
  | cons a as => cases k
theorem ws_ne {H : Hp} {L X : Addr} {m r : Nat} {w : Nat → Nat} {G : Nat → List Int} (h : WsAt H L m w) (k : LnsAt H X r G) (r1 : 0 < r) (m1 : 0 < m) : L ≠ X := fun z => by
  obtain ⟨rs, h1, h2, h3⟩ := h
  obtain ⟨ds, k1, k2, k3⟩ := k
  rw [z, k1] at h1
  have em : ds.map V.ref = rs.map V.ref := HO.lst.inj (Option.some.inj h1)
  have g0 : (ds.map V.ref)[0]? = some (.ref (ds[0]'(by omega))) := by rw [List.getElem?_map, List.getElem?_eq_getElem]; rfl
  have h0 := k3 0 _ (List.getElem?_eq_getElem (show 0 < ds.length by omega))
  rw [em] at g0
  obtain ⟨r', er, e4⟩ := ref_at g0
  have e5 := h3 0 r' er
  rw [← V.ref.inj e4] at e5
  have e5 : H ds[0] = some (.tup [.int (w 0 : Nat), .int 1]) := e5
  rw [h0] at e5
  cases e5
/-- all that a list holds is new -/
def Frs (H H' : Hp) (X : Addr) : Prop := ∀ (ds : List Addr), H' X = some (.lst (ds.map V.ref)) → ∀ b ∈ ds, H b = none
theorem Frs.push {H H1 : Hp} {X D : Addr} {xs : List V} (h : Frs H H1 X) (e : H1 X = some (.lst xs)) (hD : H D = none) : Frs H (upd H1 X (.lst (xs ++ [.ref D]))) X := fun ds e1 b hb => by
  rw [upd_same] at e1
  have e1 := HO.lst.inj (Option.some.inj e1)
  obtain ⟨as, bs, rfl, ha, hb2⟩ := List.map_eq_append_iff.mp e1.symm
  rcases List.mem_append.mp hb with hb | hb
  · exact h as (by rw [e, ha]) b hb
  · have : V.ref b ∈ [V.ref D] := by
      rw [← hb2]
      exact List.mem_map.mpr ⟨b, hb, rfl⟩
    have := V.ref.inj (List.mem_singleton.mp this)
    rw [this]
    exact hD
theorem Frs.keep {H H1 H2 : Hp} {X : Addr} {xs : List V} (h : Frs H H1 X) (e : H1 X = some (.lst xs)) (s : Same H1 H2) : Frs H H2 X := fun ds e1 b hb => h ds (by
  have := s _ _ e
  rw [e1] at this
  rw [e]
  exact this.symm) b hb
section
variable {P : Program} {w : World} {K : PySem.W.Frag} {mg : Str → Option Value} {base : Heap}
abbrev s_frieze : Stmt := topS 35
abbrev n_frieze : List Str := ["table", "rounds", "many", "ties", "worths", "lines", "number", "place", "top", "under"]
theorem sc_frieze : FnScope n_frieze ["table", "rounds"] (defScope s_frieze) := ⟨rfl, rfl, rfl, by decide +kernel, rfl, by decide +kernel, by decide +kernel⟩
def spFrieze (C : Addr) : Sp := fun vs H Q E => ∃ (a : Addr) (rows : List (List Int)) (n R : Nat), vs = [.ref a, .int R] ∧ TabAt H a rows ∧ StOk n rows.length (6 * n) 0 rows (fun _ => 1) ∧ R ≤ 6 ∧
  (∀ t, seqF n rows.length (rows, fun _ => 1) (R * n) = some t → ∀ (X : Addr) (H' : Hp), Same H H' → LnsAt H' X (R + 1) (lineG n rows.length (rows, fun _ => 1)) → H X = none → Frs H H' X → Q (.ref X) H') ∧
  (seqF n rows.length (rows, fun _ => 1) (R * n) = none → ∀ (d : Addr) (H' : Hp), Same H H' → H' d = some (.xd greatFs) → E (.ref C) (some d) H')
theorem lt_mul {i p n R : Nat} (hi : i < R) (hp : p < n) : i * n + p + 1 ≤ R * n := by
  have h1 : (i + 1) * n ≤ R * n := Nat.mul_le_mul_right n hi
  rw [Nat.succ_mul] at h1
  omega
theorem ok_frieze {f C : Addr} {fd : FuncData} (F : Fun K "frieze" "frieze" s_frieze f fd) (T : Tx mg) (c_check_table : Cal P w K mg base CX0 5 "check_table" ["table"] spGood) (c_bud_count : Cal P w K mg base CX0 1 "bud_count" ["table"] spBuds) (c_worth_step : CalX P w K mg base 5 "worth_step" ["ties", "worths", "place"] (spStepW C)) : FnOk P w K mg base (L2.CX P w) 6 f fd ["table", "rounds"] (spFrieze C) := by
  refine F.okX sc_frieze (fun vs H Q E h => ?_) (fun cdv A outer s H vs Q E hr h => ?_)
  · obtain ⟨a, rows, n, R, rfl, _⟩ := h
    rfl
  · obtain ⟨a, rows, n, R, rfl, hT, S, hR6, q, qE⟩ := h
    refine ⟨_, (pss_cons (ps_expr (pe_cal c_check_table hr (by rfl) (pa_cons (pv 0) pa_nil)))
  (pss_cons (ps_set (i := 2) sc_frieze.nd rfl (.inl rfl) (pe_cal c_bud_count (hr.mono (by decide)) (by rfl) (pa_cons (pv 0) pa_nil)))
  (pss_cons (ps_set (i := 3) sc_frieze.nd rfl (.inl rfl) (pv 0))
  (pss_cons (ps_set (i := 4) sc_frieze.nd rfl (.inl rfl) (pe_op op_rep (pe_lst (pa_cons (pe_tup (pa_cons pe_int (pa_cons pe_int pa_nil))) pa_nil)) (pe_callB (c_len (K := K)) (by rfl) T.len PySem.boot_len (pa_cons (pv 0) pa_nil))))
  (pss_cons (ps_set (i := 5) sc_frieze.nd rfl (.inl rfl) (pe_lst (pa_cons (pe_op op_rep (pe_lst (pa_cons pe_int pa_nil)) (pv 2)) pa_nil)))
  (pss_cons (ps_for PassesOwn.leaving rfl (pi_range1 (by rfl) T.range (pa_cons (pv 1) pa_nil)) (pg_name (i := 6) sc_frieze.nd rfl (.inl rfl))
    (pss_cons (ps_for PassesOwn.leaving rfl (pi_range1 (by rfl) T.range (pa_cons (pv 2) pa_nil)) (pg_name (i := 7) sc_frieze.nd rfl (.inl rfl))
      (pss_one (ps_asg (pe_calX c_worth_step hr (by rfl) (passE rfl rfl rfl rfl) (pa_cons (pv 3) (pa_cons (pv 4) (pa_cons (pv 7) pa_nil)))) (g_tup (K := K) (n := 2) rfl (pgs_cons (pg_name (i := 3) sc_frieze.nd rfl (.inl rfl)) (pgs_cons (pg_name (i := 4) sc_frieze.nd rfl (.inl rfl)) pgs_nil))))))
    (pss_one (ps_expr (pe_bm PySem.F.plainAttrs_list PySem.F.slot_list_append PySem.F.type_list_append mt_append (pv 5) (pa_cons (pe_lc (own := [("top", 8), ("under", 9)]) (by rfl) sc_frieze.nd (p_list (K := K) (pe_slice (l_list (K := K)) (pv 4) po_none (po_some (pv 2)))) (blkOk_by (own := [("top", 8), ("under", 9)]) (N := n_frieze) (sc := defScope s_frieze) (by decide +kernel)) (fun _ _ _ _ _ => (g_tup (K := K) (n := 2) rfl (pgs_cons (pg_name (i := 8) sc_frieze.nd rfl (.inl rfl)) (pgs_cons (pg_name (i := 9) sc_frieze.nd rfl (.inl rfl)) pgs_nil)))) (fun _ _ _ _ _ => pts_nil) (fun _ _ _ _ _ => (pv 8))) pa_nil))))))
  (pss_one (ps_ret (pv 5))))))))), ?_⟩
    have O := S.b.tab
    have n1 := O.n1
    have n4 := O.n4
    have hl := O.len
    have hl4 := O.len4
    generalize hm : rows.length = m at *
    refine ⟨.ref a, rfl, a, rows, n, rfl, hT, O, fun H1 s1 => ?_⟩
    refine ⟨.ref a, rfl, a, rows, n, rfl, hT.same s1, by omega, O.wide, ?_⟩
    refine ⟨_, rfl, ?_⟩
    obtain ⟨as, ha, hRf⟩ := hT.refs
    have las : as.length = m := by rw [hRf.1, hm]
    -- worths
    refine ⟨by show 2 ≤ sizeLine; decide, fun p0 e0 => ⟨by show 1 ≤ sizeLine; decide, fun z ez => ?_⟩⟩
    have s2 := same_upd (o := .tup [V.int 1, .int 1]) e0
    have s3 := same_upd (o := .lst [V.ref p0]) ez
    have s13 := (s1.trans s2).trans s3
    refine ⟨.ref a, rfl, a, _, rfl, .inr (SqT.of (s13 _ _ ha)), ?_⟩
    rw [List.length_map, las]
    refine ⟨z, m, _, rfl, rfl, upd_same, by omega, by omega, ?_, fun L eL => ?_⟩
    · show 1 * ((m : Int)).toNat ≤ sizeLine
      exact Nat.le_of_lt (small1000 (by omega))
    have s4 := same_upd (o := .lst (List.replicate ((m : Int)).toNat [V.ref p0]).flatten) eL
    have hL0 := upd_same (H := upd (upd H1 p0 (.tup [V.int 1, .int 1])) z (.lst [V.ref p0])) (a := L) (o := .lst (List.replicate ((m : Int)).toNat [V.ref p0]).flatten)
    have hp0 : PartAt (upd (upd (upd H1 p0 (.tup [V.int 1, .int 1])) z (.lst [V.ref p0])) L (.lst (List.replicate ((m : Int)).toNat [V.ref p0]).flatten)) p0 1 1 := s4 _ _ (s3 _ _ upd_same)
    show tSeq _ _ _ _ (upd (upd (upd H1 p0 (.tup [V.int 1, .int 1])) z (.lst [V.ref p0])) L (.lst (List.replicate ((m : Int)).toNat [V.ref p0]).flatten))
    generalize upd (upd (upd H1 p0 (.tup [V.int 1, .int 1])) z (.lst [V.ref p0])) L (.lst (List.replicate ((m : Int)).toNat [V.ref p0]).flatten) = H4 at hL0 hp0 s4
    rw [Int.toNat_natCast, rep_ref] at hL0
    have hW4 := WsAt.ones hL0 hp0
    have s04 := s13.trans s4
    clear s4 hL0 hp0 eL s13 s3 s2 ez e0
    -- lines
    refine ⟨by show 1 ≤ sizeLine; decide, fun z ez => ⟨.int n, rfl, z, n, _, rfl, rfl, upd_same, by omega, by omega, ?_, fun b eb => ?_⟩⟩
    · show 1 * ((n : Int)).toNat ≤ sizeLine
      exact Nat.le_of_lt (small1000 (by omega))
    refine ⟨by show 1 ≤ sizeLine; decide, fun X eX => ?_⟩
    have s5 := same_upd (o := .lst [V.int 1]) ez
    have s6 := same_upd (o := .lst (List.replicate ((n : Int)).toNat [V.int 1]).flatten) eb
    have s7 := same_upd (o := .lst [V.ref b]) eX
    have nbX : b ≠ X := ne_of_none upd_same eX
    have hX0 : H X = none := s04.free (s5.free (s6.free eX))
    have gx : ∀ i, i < 1 → lineG n m (rows, fun _ => 1) i = matRow n fun _ => 1 := fun i hi => by
      have : i = 0 := by omega
      subst this
      unfold lineG wv
      rw [Nat.zero_mul]
      rfl
    have hLn : LnsAt (upd (upd (upd H4 z (.lst [V.int 1])) b (.lst (List.replicate ((n : Int)).toNat [V.int 1]).flatten)) X (.lst [V.ref b])) X 1 (lineG n m (rows, fun _ => 1)) := by
      refine ⟨[b], upd_same, rfl, fun i c e => ?_⟩
      have hi : i < 1 := (List.getElem?_eq_some_iff.mp e).1
      rw [gx i hi]
      have : i = 0 := by omega
      subst this
      cases e
      rw [upd_ne nbX, upd_same, Int.toNat_natCast, rep_one]
    have s47 := (s5.trans s6).trans s7
    have b0 : H b = none := s04.free (s5.free eb)
    have fr7 : Frs H (upd (upd (upd H4 z (.lst [V.int 1])) b (.lst (List.replicate ((n : Int)).toNat [V.int 1]).flatten)) X (.lst [V.ref b])) X := fun ds e c hc => by
      rw [upd_same] at e
      have e := HO.lst.inj (Option.some.inj e)
      have : V.ref c ∈ [V.ref b] := by
        rw [e]
        exact List.mem_map.mpr ⟨c, hc, rfl⟩
      have := V.ref.inj (List.mem_singleton.mp this)
      rw [this]
      exact b0
    have hT7 := hT.same (s04.trans s47)
    have hW7 := hW4.same s47
    have s07 := s04.trans s47
    show tSeq _ _ _ _ (upd (upd (upd H4 z (.lst [V.int 1])) b (.lst (List.replicate ((n : Int)).toNat [V.int 1]).flatten)) X (.lst [V.ref b]))
    generalize upd (upd (upd H4 z (.lst [V.int 1])) b (.lst (List.replicate ((n : Int)).toNat [V.int 1]).flatten)) X (.lst [V.ref b]) = H7 at hLn hT7 hW7 s07 fr7
    clear s47 s7 s6 s5 hW4 s04 nbX gx ez eb eX
    have neX : ∀ {r : Nat} {H' : Hp}, LnsAt H' X r (lineG n m (rows, fun _ => 1)) → ∀ (i : Nat) (b : Addr) (ds : List Addr), H' X = some (.lst (ds.map V.ref)) → ds[i]? = some b → b ≠ X := fun {r H'} h => by
      refine h.ne (n := n) fun i _ => ?_
      unfold lineG matRow
      cases n with
      | zero => omega
      | succ n => rw [List.range_succ_eq_map, List.map_cons]; exact ⟨_, _, rfl⟩
    -- the rounds
    refine ⟨.int R, rfl, R, rfl, by omega, by omega, ?_⟩
    refine for_range (fun i σ H' => ∃ (b L : Addr) (t : List (List Int) × (Nat → Nat)) (y6 y7 : Option V), σ = [some (.ref a), some (.int R), some (.int n), some (.ref b), some (.ref L), some (.ref X), y6, y7, none, none] ∧ seqF n m (rows, fun _ => 1) (i * n) = some t ∧ TabAt H' b t.1 ∧ WsAt H' L m t.2 ∧ LnsAt H' X (i + 1) (lineG n m (rows, fun _ => 1)) ∧ Same H H' ∧ Frs H H' X) ⟨a, L, (rows, fun _ => 1), none, none, rfl, by rw [Nat.zero_mul]; rfl, hT7, hW7, hLn, s07, fr7⟩ ?_ ?_
    · rintro i σ H8 hi ⟨b, L, t, y6, y7, rfl, et, hTb, hW, hLn, s8, fr8⟩
      have hi : i < R := hi
      have e0 : (0 : Int) + (i : Int) = (i : Int) := by omega
      rw [e0]
      refine ⟨.int n, rfl, n, rfl, by omega, by omega, ?_⟩
      refine for_range (fun p σ H' => ∃ (b L : Addr) (t : List (List Int) × (Nat → Nat)) (y7 : Option V), σ = [some (.ref a), some (.int R), some (.int n), some (.ref b), some (.ref L), some (.ref X), some (.int (i : Int)), y7, none, none] ∧ seqF n m (rows, fun _ => 1) (i * n + p) = some t ∧ TabAt H' b t.1 ∧ WsAt H' L m t.2 ∧ LnsAt H' X (i + 1) (lineG n m (rows, fun _ => 1)) ∧ Same H H' ∧ Frs H H' X) ⟨b, L, t, y7, rfl, et, hTb, hW, hLn, s8, fr8⟩ ?_ ?_
      · rintro p σ H9 hp ⟨b, L, t, y7, rfl, et, hTb, hW, hLn, s9, fr9⟩
        have hp : p < n := hp
        have e0 : (0 : Int) + (p : Int) = (p : Int) := by omega
        rw [e0]
        have hj := lt_mul hi hp
        have hR : R * n ≤ 6 * n := Nat.mul_le_mul_right n hR6
        have K1 := seq_ok n1 S (show i * n + p ≤ 6 * n by omega) et
        rw [at_mod hp] at K1
        obtain ⟨g, eg⟩ : ∃ g, 6 * n - (i * n + p) = g + 1 := ⟨6 * n - (i * n + p) - 1, by omega⟩
        rw [eg] at K1
        have nx := seq_next et
        rw [at_mod hp] at nx
        refine ⟨.ref b, rfl, .ref L, rfl, .int (p : Int), rfl, b, L, t.1, n, m, p, t.2, rfl, hTb, K1.b, hp, hW, fun hf => (K1.dvd hp hf).1, fun t' et' u b' L' H10 s10 hu hT' hW' => ?_, fun en d H10 s10 hd => ?_⟩
        · refine ⟨u, _, rfl, SqT.of hu, rfl, _, _, rfl, _, _, rfl, rfl, ?_⟩
          exact ⟨b', L', t', _, rfl, by rw [← Nat.add_assoc, nx]; exact et', hT', hW', hLn.same s10, s9.trans s10, fr9.keep hLn.choose_spec.1 s10⟩
        · rw [en] at nx
          exact qE (seq_none_le nx hj) d H10 (s9.trans s10) hd
      · rintro σ H9 ⟨b, L, t, y7, rfl, et, hTb, hW, hLn, s9, fr9⟩
        replace et : seqF n m (rows, fun _ => 1) (i * n + n) = some t := et
        obtain ⟨rs, h1, h2, h3⟩ := id hW
        obtain ⟨dsX, hx1, hx2, hx3⟩ := id hLn
        refine ⟨.ref X, rfl, .inl ⟨rfl, _, SqL.of hx1⟩, ?_⟩
        refine ⟨.ref L, rfl, .int n, rfl, n, rfl, ?_⟩
        dsimp only [tNoPart]
        refine ⟨L, _, rfl, SqL.of h1, fun c ec => ?_⟩
        rw [cut_take]
        refine ⟨c, rfl, ⟨_, SqL.of upd_same⟩, fun D eD => ?_⟩
        have sc := same_upd (o := .lst ((rs.map V.ref).take n)) ec
        have hc := upd_same (H := H9) (a := c) (o := .lst ((rs.map V.ref).take n))
        refine lc_list (K := K) (a := c) (xs := (rs.map V.ref).take n) (fun j H' => AccI (upd H9 c (.lst ((rs.map V.ref).take n))) H' D (fun j => (t.2 j : Nat)) j) AccI.zero (fun j H' _ hA => SqL.of (hA.stay eD hc)) ?_ ?_
        · rintro j v H10 hv hA
          rw [List.getElem?_take] at hv
          split at hv
          · next hjn =>
            obtain ⟨r, er, rfl⟩ := ref_at hv
            refine ⟨r, _, rfl, SqT.of (hA.stay eD (sc _ _ (h3 j r er))), rfl, _, _, rfl, _, _, rfl, rfl, rfl, .int (t.2 j : Nat), rfl, ?_⟩
            exact hA.next (.refl _) rfl (by omega)
          · cases hv
        · rintro H10 hA
          have lt : ((rs.map V.ref).take n).length = n := by rw [List.length_take, List.length_map]; omega
          rw [lt] at hA
          have s10 : Same (upd H9 c (.lst ((rs.map V.ref).take n))) H10 := fun b o e => hA.stay eD e
          have hD := hA.1
          clear hA
          have s910 := sc.trans s10
          have en : i * n + n = (i + 1) * n := (Nat.succ_mul i n).symm
          rw [en] at et
          have eG : (matRow n fun j => ((t.2 j : Nat) : Int)) = lineG n m (rows, fun _ => 1) (i + 1) := by
            unfold lineG wv
            rw [et]
          rw [eG] at hD
          have nDX : D ≠ X := (ne_of_none (sc _ _ hx1) eD).symm
          have hLn10 := hLn.same s910
          obtain ⟨xs, k1, k2, k3⟩ := LnsAt.push hLn10 hD nDX (neX hLn10)
          refine ⟨X, _, _, rfl, rfl, k1, by rw [k2]; exact small1000 (by omega), ?_⟩
          have kk : ∀ {b o}, H10 b = some o → b ≠ X → (upd H10 X (.lst (xs ++ [.ref D]))) b = some o := fun {b o} e ne => by
            rw [upd_ne ne]
            exact e
          refine ⟨b, L, t, _, _, rfl, et, ?_, ?_, k3, Same.updN (s9.trans s910) hX0, (fr9.keep hx1 s910).push k1 (s9.free (sc.free eD))⟩
          · obtain ⟨as', t1, t2, t3⟩ := hTb.same s910
            refine ⟨as', kk t1 (ne_of t1 k1 (by intro z; cases z)), t2, fun i r e => ?_⟩
            obtain ⟨b', e1, e2⟩ := t3 i r e
            exact ⟨b', e1, kk e2 (ne_of e2 k1 (by intro z; cases z))⟩
          · have nLX : L ≠ X := ws_ne hW hLn (by omega) (by omega)
            refine ⟨rs, kk (s910 _ _ h1) nLX, h2, fun j r e => ?_⟩
            have e2 := s910 _ _ (h3 j r e)
            exact kk e2 (ne_of e2 k1 (by intro z; cases z))
    · rintro σ H8 ⟨b, L, t, y6, y7, rfl, et, hTb, hW, hLn, s8, fr8⟩
      exact ⟨_, rfl, q t et X H8 s8 hLn hX0 fr8⟩
end
end Bw
set_option Elab.async false
set_option linter.all false
set_option maxRecDepth 100000
set_option maxHeartbeats 4000000
namespace Bw
open PySem PySem.Spec PyProof.Rows L2
section
variable {P : Program} {w : World} {K : PySem.W.Frag} {mg : Str → Option Value} {base : Heap}
abbrev s_law_same : Stmt := topS 40
abbrev n_law_same : List Str := ["_law_found", "_law_due", "_law_one", "_law_two"]
theorem sc_law_same : FnScope n_law_same ["_law_found", "_law_due"] (defScope s_law_same) := ⟨rfl, rfl, rfl, by decide +kernel, rfl, by decide +kernel, by decide +kernel⟩
def spSame (n : Nat) : Sp := fun vs H Q _ => ∃ x y : V, vs = [x, y] ∧ Al n H x y ∧ ∀ H', Same H H' → Q (.bl true) H'
theorem ok_same {f : Addr} {fd : FuncData} (F : Fun K "_law_same" "_law_same" s_law_same f fd) (T : Tx mg) (gf : mg "_law_same" = some (.ref f)) (bf : Binds K fd ["_law_found", "_law_due"] []) : ∀ n : Nat, FnOk P w K mg base CX0 (n + 1) f fd ["_law_found", "_law_due"] (spSame n)
  | 0 => F.ok sc_law_same (fun vs H Q E h => by
      obtain ⟨_, _, _, h, _⟩ := h
      exact h.elim) (fun cdv A outer s H vs Q E hr h => by
      obtain ⟨_, _, _, h, _⟩ := h
      exact h.elim)
  | n + 1 => by
    have c_law_same : Cal P w K mg base CX0 (n + 1) "_law_same" ["_law_found", "_law_due"] (spSame n) := ⟨f, fd, ok_same F T gf bf n, gf, F.kp, bf⟩
    refine F.ok sc_law_same (fun vs H Q E h => ?_) (fun cdv A outer s H vs Q E hr h => ?_)
    · obtain ⟨x, y, rfl, _⟩ := h
      rfl
    · obtain ⟨x, y, rfl, h, q⟩ := h
      refine ⟨_, (pss_cons (ps_if (pt_val (pe_callB (c_isi (K := K)) (by rfl) T.isinstance (by decide +kernel) (pa_cons (pv 1) (pa_cons (pe_bltn (v := .ty "dict") (by rfl) T.dict (by decide +kernel) rfl) pa_nil))))
    pss_never
    pss_nil)
  (pss_cons (ps_if (pt_cmpR op_ne (pe_callB (c_isi (K := K)) (by rfl) T.isinstance (by decide +kernel) (pa_cons (pv 1) (pa_cons (pe_bltn (v := .ty "tuple") (by rfl) T.tuple (by decide +kernel) rfl) pa_nil))) (pe_callB (c_isi (K := K)) (by rfl) T.isinstance (by decide +kernel) (pa_cons (pv 0) (pa_cons (pe_bltn (v := .ty "tuple") (by rfl) T.tuple (by decide +kernel) rfl) pa_nil))) (nomark _))
    (pss_one (ps_ret pe_bl))
    pss_nil)
  (pss_cons (ps_if (pt_cmpR op_ne (pe_callB (c_isi (K := K)) (by rfl) T.isinstance (by decide +kernel) (pa_cons (pv 1) (pa_cons (pe_bltn (v := .ty "list") (by rfl) T.list (by decide +kernel) rfl) pa_nil))) (pe_callB (c_isi (K := K)) (by rfl) T.isinstance (by decide +kernel) (pa_cons (pv 0) (pa_cons (pe_bltn (v := .ty "list") (by rfl) T.list (by decide +kernel) rfl) pa_nil))) (nomark _))
    (pss_one (ps_ret pe_bl))
    pss_nil)
  (pss_cons (ps_if (pt_val (pe_callB (c_isiT (K := K)) (by rfl) T.isinstance (by decide +kernel) (pa_cons (pv 1) (pa_cons (pe_tup (pa_cons (pe_bltn (v := .ty "list") (by rfl) T.list (by decide +kernel) rfl) (pa_cons (pe_bltn (v := .ty "tuple") (by rfl) T.tuple (by decide +kernel) rfl) pa_nil))) pa_nil))))
    (pss_one (ps_ret (pe_and (pe_cmpR op_eq (pe_callB (c_len (K := K)) (by rfl) T.len PySem.boot_len (pa_cons (pv 0) pa_nil)) (pe_callB (c_len (K := K)) (by rfl) T.len PySem.boot_len (pa_cons (pv 1) pa_nil)) (nomark _)) (pe_one (pe_callB (c_all (K := K) rfl) (by rfl) T.all (by decide +kernel) (pa_cons (pe_lc (own := [("_law_one", 2), ("_law_two", 3)]) (by rfl) sc_law_same.nd (RZ.pi_zipA (by rfl) T.zip (pa_cons (pv 0) (pa_cons (pv 1) pa_nil))) (blkOk_by (own := [("_law_one", 2), ("_law_two", 3)]) (N := n_law_same) (sc := defScope s_law_same) (by decide +kernel)) (fun _ _ _ _ _ => (g_tup (K := K) (n := 2) rfl (pgs_cons (pg_name (i := 2) sc_law_same.nd rfl (.inl rfl)) (pgs_cons (pg_name (i := 3) sc_law_same.nd rfl (.inl rfl)) pgs_nil)))) (fun _ _ _ _ _ => pts_nil) (fun _ _ _ _ _ => (pe_cal c_law_same hr (by rfl) (pa_cons (pv 2) (pa_cons (pv 3) pa_nil))))) pa_nil))))))
    pss_nil)
  (pss_cons (ps_if (pt_cmpR op_ne (pe_callB (c_isi (K := K)) (by rfl) T.isinstance (by decide +kernel) (pa_cons (pv 1) (pa_cons (pe_bltn (v := .ty "bool") (by rfl) T.bool (by decide +kernel) rfl) pa_nil))) (pe_callB (c_isi (K := K)) (by rfl) T.isinstance (by decide +kernel) (pa_cons (pv 0) (pa_cons (pe_bltn (v := .ty "bool") (by rfl) T.bool (by decide +kernel) rfl) pa_nil))) (nomark _))
    (pss_one (ps_ret pe_bl))
    pss_nil)
  (pss_cons (ps_if (pt_cmpR op_ne (pe_callB (c_isi (K := K)) (by rfl) T.isinstance (by decide +kernel) (pa_cons (pv 1) (pa_cons (pe_bltn (v := .ty "str") (by rfl) T.str (by decide +kernel) rfl) pa_nil))) (pe_callB (c_isi (K := K)) (by rfl) T.isinstance (by decide +kernel) (pa_cons (pv 0) (pa_cons (pe_bltn (v := .ty "str") (by rfl) T.str (by decide +kernel) rfl) pa_nil))) (nomark _))
    (pss_one (ps_ret pe_bl))
    pss_nil)
  (pss_one (ps_ret (pe_and (pe_cmpR op_eq (pe_cmpR op_isN (pv 1) pe_non (nomark _)) (pe_cmpR op_isN (pv 0) pe_non (nomark _)) (nomark _)) (pe_one (pe_cmpR op_eq (pv 0) (pv 1) (nomark _)))))))))))), ?_⟩
      rcases h with ⟨rfl, h⟩ | ⟨a, b, xs, ys, rfl, rfl, ha, hb, hl, hz, hi⟩ | ⟨a, b, xs, ys, rfl, rfl, ha, hb, hl, hz, hi⟩
      · -- numbers, texts, truths, None
        obtain ⟨t, b1, b2, ty, k1, k2, k3, k4, k5, hsc⟩ : ∃ (t : String) (b1 b2 : Bool), (∀ H', TyOf K H' x (.type t)) ∧ kitB t "dict" = some false ∧ kitB t "tuple" = some false ∧ kitB t "list" = some false ∧ kitB t "bool" = some b1 ∧ kitB t "str" = some b2 ∧ scal x x = true := by
          rcases h with ⟨i, rfl⟩ | ⟨z, rfl⟩ | ⟨b, rfl⟩ | rfl
          · exact ⟨"int", false, false, fun _ => .int i, by decide +kernel, by decide +kernel, by decide +kernel, by decide +kernel, by decide +kernel, rfl⟩
          · exact ⟨"str", false, true, fun _ => .str z, by decide +kernel, by decide +kernel, by decide +kernel, by decide +kernel, by decide +kernel, rfl⟩
          · exact ⟨"bool", true, false, fun _ => .bl b, by decide +kernel, by decide +kernel, by decide +kernel, by decide +kernel, by decide +kernel, rfl⟩
          · exact ⟨"NoneType", false, false, fun _ => .non, by decide +kernel, by decide +kernel, by decide +kernel, by decide +kernel, by decide +kernel, rfl⟩
        have kA : PySem.W.kitAny K (.type t) [.type "list", .type "tuple"] = some false := kitAny_cons (kit_ty k3) (fun _ => kitAny_cons (kit_ty k2) (fun _ => kitAny_nil) (fun z => by cases z)) (fun z => by cases z)
        refine ⟨x, rfl, _, _, _, _, false, rfl, .ty "dict", .base (ty _), kit_ty k1, false, rfl, iteF ?_⟩
        refine ⟨x, rfl, _, _, _, _, false, rfl, .ty "tuple", .base (ty _), kit_ty k2, x, rfl, _, _, _, _, false, rfl, .ty "tuple", .base (ty _), kit_ty k2, rfl, _, rfl, iteNS rfl ?_⟩
        refine ⟨x, rfl, _, _, _, _, false, rfl, .ty "list", .base (ty _), kit_ty k3, x, rfl, _, _, _, _, false, rfl, .ty "list", .base (ty _), kit_ty k3, rfl, _, rfl, iteNS rfl ?_⟩
        refine ⟨x, rfl, by show 2 ≤ sizeLine; decide, fun tp etp => ⟨x, tp, _, _, [.type "list", .type "tuple"], false, rfl, upd_same, .cons (.ty "list") (.cons (.ty "tuple") .nil), .base (ty _), kA, false, rfl, iteF ?_⟩⟩
        refine ⟨x, rfl, _, _, _, _, b1, rfl, .ty "bool", .base (ty _), kit_ty k4, x, rfl, _, _, _, _, b1, rfl, .ty "bool", .base (ty _), kit_ty k4, rfl, _, rfl, iteNS rfl ?_⟩
        refine ⟨x, rfl, _, _, _, _, b2, rfl, .ty "str", .base (ty _), kit_ty k5, x, rfl, _, _, _, _, b2, rfl, .ty "str", .base (ty _), kit_ty k5, rfl, _, rfl, iteNS rfl ?_⟩
        refine ⟨x, rfl, rfl, x, rfl, rfl, rfl, true, by rw [decide_eq_true rfl], iteT ⟨x, rfl, x, rfl, hsc, ?_⟩⟩
        rw [decide_eq_true rfl]
        exact q _ (same_upd etp)
      · -- two tuples
        have kA : PySem.W.kitAny K (.type "tuple") [.type "list", .type "tuple"] = some true := kitAny_cons (kit_ty (show kitB "tuple" "list" = some false by decide +kernel)) (fun _ => kitAny_cons (kit_ty (show kitB "tuple" "tuple" = some true by decide +kernel)) (fun z => by cases z) (fun _ => rfl)) (fun z => by cases z)
        refine ⟨.ref b, rfl, _, _, _, _, false, rfl, .ty "dict", .base (.tup hb), kit_ty (by decide +kernel), false, rfl, iteF ?_⟩
        refine ⟨.ref b, rfl, _, _, _, _, true, rfl, .ty "tuple", .base (.tup hb), kit_ty (by decide +kernel), .ref a, rfl, _, _, _, _, true, rfl, .ty "tuple", .base (.tup ha), kit_ty (by decide +kernel), rfl, _, rfl, iteNS rfl ?_⟩
        refine ⟨.ref b, rfl, _, _, _, _, false, rfl, .ty "list", .base (.tup hb), kit_ty (by decide +kernel), .ref a, rfl, _, _, _, _, false, rfl, .ty "list", .base (.tup ha), kit_ty (by decide +kernel), rfl, _, rfl, iteNS rfl ?_⟩
        refine ⟨.ref b, rfl, by show 2 ≤ sizeLine; decide, fun tp etp => ?_⟩
        have s1 := same_upd (o := .tup [.ty "list", .ty "tuple"]) etp
        have ha := s1 _ _ ha
        have hb := s1 _ _ hb
        refine ⟨.ref b, tp, _, _, [.type "list", .type "tuple"], true, rfl, upd_same, .cons (.ty "list") (.cons (.ty "tuple") .nil), .base (.tup hb), kA, true, rfl, iteT ?_⟩
        refine ⟨.ref a, rfl, a, _, rfl, .inr (SqT.of ha), .ref b, rfl, b, _, rfl, .inr (SqT.of hb), rfl, true, by rw [hl, decide_eq_true rfl], iteT ?_⟩
        refine ⟨.ref a, rfl, .ref b, rfl, a, b, xs, ys, rfl, .inr ⟨SqT.of ha, SqT.of hb, fun D eD => ?_⟩⟩
        have naD : a ≠ D := ne_of_none ha eD
        have nbD : b ≠ D := ne_of_none hb eD
        refine it_zipT hl (fun j H' => H' D = some (.lst ((List.replicate j true).map V.bl)) ∧ ∀ c o, c ≠ D → (upd H tp (.tup [.ty "list", .ty "tuple"])) c = some o → H' c = some o) ⟨upd_same, fun c o n e => by rw [upd_ne n]; exact e⟩ (fun j H' ⟨_, k⟩ => ⟨SqT.of (k _ _ naD ha), SqT.of (k _ _ nbD hb)⟩) ?_ ?_
        · rintro j u v Tt H1 hu hv ⟨e1, k1⟩ nT
          have hj := (List.getElem?_eq_some_iff.mp hu).1
          have sT := same_upd (o := .tup [u, v]) nT
          have sA : Same H (upd H1 Tt (.tup [u, v])) := fun c o e => sT _ _ (k1 _ _ (ne_of_none (s1 _ _ e) eD) (s1 _ _ e))
          refine ⟨Tt, [u, v], rfl, SqT.of upd_same, rfl, u, [v], rfl, v, [], rfl, rfl, rfl, u, rfl, v, rfl, u, v, rfl, (hi j u v hu hv).same sA, fun H2 s2 => ?_⟩
          refine ⟨_, s2 _ _ (sT _ _ e1), by rw [List.length_map, List.length_replicate]; exact small1000 (by omega), ?_, fun c o n e => ?_⟩
          · rw [upd_same, List.replicate_succ', List.map_append]
            rfl
          · rw [upd_ne n]
            exact s2 _ _ (sT _ _ (k1 _ _ n e))
        · rintro H1 ⟨e1, k1⟩
          refine ⟨D, _, rfl, SqL.of e1, ?_⟩
          rw [all_repS]
          exact q _ fun c o e => k1 _ _ (ne_of_none (s1 _ _ e) eD) (s1 _ _ e)
      · -- two lists
        have kA : PySem.W.kitAny K (.type "list") [.type "list", .type "tuple"] = some true := kitAny_cons (kit_ty (show kitB "list" "list" = some true by decide +kernel)) (fun z => by cases z) (fun _ => rfl)
        refine ⟨.ref b, rfl, _, _, _, _, false, rfl, .ty "dict", .base (.lst hb), kit_ty (by decide +kernel), false, rfl, iteF ?_⟩
        refine ⟨.ref b, rfl, _, _, _, _, false, rfl, .ty "tuple", .base (.lst hb), kit_ty (by decide +kernel), .ref a, rfl, _, _, _, _, false, rfl, .ty "tuple", .base (.lst ha), kit_ty (by decide +kernel), rfl, _, rfl, iteNS rfl ?_⟩
        refine ⟨.ref b, rfl, _, _, _, _, true, rfl, .ty "list", .base (.lst hb), kit_ty (by decide +kernel), .ref a, rfl, _, _, _, _, true, rfl, .ty "list", .base (.lst ha), kit_ty (by decide +kernel), rfl, _, rfl, iteNS rfl ?_⟩
        refine ⟨.ref b, rfl, by show 2 ≤ sizeLine; decide, fun tp etp => ?_⟩
        have s1 := same_upd (o := .tup [.ty "list", .ty "tuple"]) etp
        have ha := s1 _ _ ha
        have hb := s1 _ _ hb
        refine ⟨.ref b, tp, _, _, [.type "list", .type "tuple"], true, rfl, upd_same, .cons (.ty "list") (.cons (.ty "tuple") .nil), .base (.lst hb), kA, true, rfl, iteT ?_⟩
        refine ⟨.ref a, rfl, a, _, rfl, .inl (SqL.of ha), .ref b, rfl, b, _, rfl, .inl (SqL.of hb), rfl, true, by rw [hl, decide_eq_true rfl], iteT ?_⟩
        refine ⟨.ref a, rfl, .ref b, rfl, a, b, xs, ys, rfl, .inl ⟨SqL.of ha, SqL.of hb, fun D eD => ?_⟩⟩
        have naD : a ≠ D := ne_of_none ha eD
        have nbD : b ≠ D := ne_of_none hb eD
        refine it_zipL hl (fun j H' => H' D = some (.lst ((List.replicate j true).map V.bl)) ∧ ∀ c o, c ≠ D → (upd H tp (.tup [.ty "list", .ty "tuple"])) c = some o → H' c = some o) ⟨upd_same, fun c o n e => by rw [upd_ne n]; exact e⟩ (fun j H' ⟨_, k⟩ => ⟨SqL.of (k _ _ naD ha), SqL.of (k _ _ nbD hb)⟩) ?_ ?_
        · rintro j u v Tt H1 hu hv ⟨e1, k1⟩ nT
          have hj := (List.getElem?_eq_some_iff.mp hu).1
          have sT := same_upd (o := .tup [u, v]) nT
          have sA : Same H (upd H1 Tt (.tup [u, v])) := fun c o e => sT _ _ (k1 _ _ (ne_of_none (s1 _ _ e) eD) (s1 _ _ e))
          refine ⟨Tt, [u, v], rfl, SqT.of upd_same, rfl, u, [v], rfl, v, [], rfl, rfl, rfl, u, rfl, v, rfl, u, v, rfl, (hi j u v hu hv).same sA, fun H2 s2 => ?_⟩
          refine ⟨_, s2 _ _ (sT _ _ e1), by rw [List.length_map, List.length_replicate]; exact small1000 (by omega), ?_, fun c o n e => ?_⟩
          · rw [upd_same, List.replicate_succ', List.map_append]
            rfl
          · rw [upd_ne n]
            exact s2 _ _ (sT _ _ (k1 _ _ n e))
        · rintro H1 ⟨e1, k1⟩
          refine ⟨D, _, rfl, SqL.of e1, ?_⟩
          rw [all_repS]
          exact q _ fun c o e => k1 _ _ (ne_of_none (s1 _ _ e) eD) (s1 _ _ e)
end
end Bw
set_option Elab.async false
set_option linter.all false
set_option maxRecDepth 100000
set_option maxHeartbeats 4000000
namespace Bw
open PySem PySem.Spec PyProof.Rows L2 LamX
abbrev s_law_word : Stmt := topS 41
theorem sc_law_word : FnScope ["_law_asked", "e"] ["_law_asked"] (defScope s_law_word) := ⟨rfl, rfl, rfl, by decide +kernel, rfl, by decide +kernel, by decide +kernel⟩
structure WordW (K : PySem.W.Frag) (mg : Str → Option Value) (base : Heap) (T : List (Addr × Str)) (g CB c1 c2 c3 c4 c P : Addr) (q : Str) (fd : FuncData) : Prop where
  F : Fun K "_law_word" "_law_word" s_law_word g fd
  gg : mg "_law_word" = some (.ref g)
  bb : L2.Binds K fd ["_law_asked"] []
  gB : mg "BudError" = some (.ref CB)
  m1 : mg "NoPart" = some (.ref c1)
  m2 : mg "NoPlace" = some (.ref c2)
  m3 : mg "Lacking" = some (.ref c3)
  m4 : mg "NothingLeft" = some (.ref c4)
  TB : TabB base mg c P
  mem : (P, q) ∈ T
  un : ∀ p ∈ T, p.1 = P → p.2 = q
theorem pe_wd {X : Cx} {T : List (Addr × Str)} {g CB c1 c2 c3 c4 c P : Addr} {q : Str} {fd : FuncData} {k : Nat} {params : Arguments} {body : Expr} {scope : Scope} {t : XK → TE} {p lpos pos : Pos} (W : WordW X.K X.mg X.base T g CB c1 c2 c3 c4 c P q fd) (hcode : X.env.code = .ref c) (hr : Room (k + 2) X.A) (hg : Gl X "_law_word") (L : LamS X.env.scope scope)
    (hbody : ∀ (A : Around) (outer : List Env) (s : Shared) (H : Hp) (E : XK) (f c' : Addr), Room k (A.deeper (lamEnv X scope s.heap.objs.size f c')) → PE (lamCx X A outer s H E scope f c') body (t E)) (hq : X.env.qual ++ "<lambda>" = q := by rfl) (hdef : defaultsOf params X.env = ([], []) := by rfl)
    (hbind : ∀ (q : Str) (cl : List (Str × Addr)) (pm cv ctv : Value), bindArgs (PySem.W.kla_fn "<lambda>" q params body scope cl pm cv ctv) ⟨[], []⟩ = pure [] := by intros; rfl) :
    PE X (.Call (.Name "_law_word" p) [.Lambda params body scope lpos] [] pos) (tLam T (TWordW X.K CB [.ref c1, .ref c2, .ref c3, .ref c4]) t) := by
  have hm := W.mem
  have hun := W.un
  rw [← hq] at hm hun
  exact pe_wordW W.F W.gg W.bb sc_law_word (.inl rfl) (fun cdv => word_givesW rfl W.gB rfl W.m1 rfl W.m2 rfl W.m3 rfl W.m4 (by decide) rfl rfl (fun f => rfl)) W.TB hcode hm hun hr hg L hbody hdef hbind
end Bw
set_option Elab.async false
set_option linter.all false
set_option maxRecDepth 100000
set_option maxHeartbeats 0
namespace Bw
open PySem PySem.Spec PyProof.Rows L2 LamX
theorem LnsAt.congr {H : Hp} {X : Addr} {r : Nat} {G G' : Nat → List Int} (h : LnsAt H X r G) (e : ∀ i, i < r → G i = G' i) : LnsAt H X r G' := by
  obtain ⟨ds, h1, h2, h3⟩ := h
  refine ⟨ds, h1, h2, fun i b eb => ?_⟩
  have hi : i < r := by
    have := (List.getElem?_eq_some_iff.mp eb).1
    omega
  rw [← e i hi]
  exact h3 i b eb
theorem LnsAt.put {H : Hp} {X A : Addr} {r : Nat} {G : Nat → List Int} {xs : List V} {o : HO} (h : LnsAt H X r G) (hA : H A = some (.lst xs)) (nX : A ≠ X) (nd : ∀ i, i < r → (G i).map V.int ≠ xs) : LnsAt (upd H A o) X r G := by
  obtain ⟨ds, h1, h2, h3⟩ := h
  refine ⟨ds, (upd_ne (Ne.symm nX)).trans h1, h2, fun i b eb => ?_⟩
  have hb := h3 i b eb
  have hi : i < r := by
    have := (List.getElem?_eq_some_iff.mp eb).1
    omega
  rw [upd_ne (fun z => by
    rw [z, hA] at hb
    exact nd i hi (HO.lst.inj (Option.some.inj hb)).symm)]
  exact hb
theorem LnsAt.but {H H' : Hp} {X A : Addr} {r : Nat} {G : Nat → List Int} {xs : List V} (h : LnsAt H X r G) (s : SameBut A H H') (hA : H A = some (.lst xs)) (nX : A ≠ X) (nd : ∀ i, i < r → (G i).map V.int ≠ xs) : LnsAt H' X r G := by
  obtain ⟨ds, h1, h2, h3⟩ := h
  refine ⟨ds, s _ _ (Ne.symm nX) h1, h2, fun i b eb => ?_⟩
  have hb := h3 i b eb
  have hi : i < r := by
    have := (List.getElem?_eq_some_iff.mp eb).1
    omega
  exact s _ _ (fun z => by
    rw [z, hA] at hb
    exact nd i hi (HO.lst.inj (Option.some.inj hb)).symm) hb
theorem LnsAt.extN {H H' : Hp} {X : Addr} {r : Nat} {G : Nat → List Int} (s : ExtN H H') (h : LnsAt H X r G) : LnsAt H' X r G := by
  obtain ⟨ds, h1, h2, h3⟩ := h
  exact ⟨ds, s _ _ h1 (fun ps z => by cases z), h2, fun i b eb => s _ _ (h3 i b eb) (fun ps z => by cases z)⟩
theorem TabAt.keepT {H H' : Hp} {a : Addr} {rows : List (List Int)} (kt : ∀ b xs, H b = some (.tup xs) → H' b = some (.tup xs)) (h : TabAt H a rows) : TabAt H' a rows := by
  obtain ⟨as, e, l, hr⟩ := h
  refine ⟨as, kt _ _ e, l, fun i r e => ?_⟩
  obtain ⟨b, e1, e2⟩ := hr i r e
  exact ⟨b, e1, kt _ _ e2⟩
theorem TabAt.put {H : Hp} {a A : Addr} {rows : List (List Int)} {xs : List V} {o : HO} (h : TabAt H a rows) (hA : H A = some (.lst xs)) : TabAt (upd H A o) a rows := h.keepT fun b ys e => by
  rw [upd_ne (ne_of e hA (by intro z; cases z))]
  exact e
theorem TabAt.extN {H H' : Hp} {a : Addr} {rows : List (List Int)} (s : ExtN H H') (h : TabAt H a rows) : TabAt H' a rows := h.keepT fun b xs e => s _ _ e (fun ps z => by cases z)
theorem WsAt.put {H : Hp} {L A : Addr} {m : Nat} {w : Nat → Nat} {xs : List V} {o : HO} (h : WsAt H L m w) (hA : H A = some (.lst xs)) (nL : L ≠ A) : WsAt (upd H A o) L m w := by
  obtain ⟨rs, h1, h2, h3⟩ := h
  refine ⟨rs, (upd_ne nL).trans h1, h2, fun j r e => ?_⟩
  have := h3 j r e
  show (upd H A o) r = _
  rw [upd_ne (ne_of this hA (by intro z; cases z))]
  exact this
theorem al_lns {H : Hp} {X Y : Addr} {r : Nat} {G : Nat → List Int} (h : LnsAt H X r G) (k : LnsAt H Y r G) (hr : r ≤ 1000) (hG : ∀ i, i < r → (G i).length ≤ 1000) : Al 3 H (.ref X) (.ref Y) := by
  obtain ⟨ds, h1, h2, h3⟩ := h
  obtain ⟨es, k1, k2, k3⟩ := k
  refine .inr (.inr ⟨X, Y, _, _, rfl, rfl, h1, k1, by rw [List.length_map, List.length_map, h2, k2], by rw [List.length_map, h2]; exact hr, fun j u v hu hv => ?_⟩)
  obtain ⟨a, ea, rfl⟩ := ref_at hu
  obtain ⟨b, eb, rfl⟩ := ref_at hv
  have hj : j < r := by
    have := (List.getElem?_eq_some_iff.mp ea).1
    omega
  refine .inr (.inr ⟨a, b, _, _, rfl, rfl, h3 j a ea, k3 j b eb, rfl, by rw [List.length_map]; exact hG j hj, fun i u v hu hv => ?_⟩)
  obtain ⟨t, _, rfl⟩ := int_at hu
  rw [hu] at hv
  cases hv
  exact .inl ⟨rfl, .inl ⟨t, rfl⟩⟩
/-- two keywords, in the other order -/
def swapL {α : Type} : List α → List α → List α
  | [], [a, b] => [b, a]
  | _, _ => []
/-- the lines that are due -/
def Due (n m : Nat) (s : List (List Int) × (Nat → Nat)) (H : Hp) (X : Addr) (r : Nat) : Prop := ∃ G : Nat → List Int, LnsAt H X r G ∧ (∀ k, k < r → (G k).length = n) ∧ ∀ k, k < r → (∃ t, seqF n m s (k * n) = some t) → G k = lineG n m s k
theorem Due.same {n m : Nat} {s : List (List Int) × (Nat → Nat)} {H H' : Hp} {X : Addr} {r : Nat} (e : Same H H') (h : Due n m s H X r) : Due n m s H' X r := by
  obtain ⟨G, h1, h2, h3⟩ := h
  exact ⟨G, h1.same e, h2, h3⟩
theorem Due.push {n m : Nat} {s : List (List Int) × (Nat → Nat)} {H : Hp} {X D : Addr} {r : Nat} {g : List Int} (n1 : 1 ≤ n) (h : Due n m s H X r) (hD : H D = some (.lst (g.map V.int))) (ne : D ≠ X) (hg : g.length = n) (hs : (∃ t, seqF n m s (r * n) = some t) → g = lineG n m s r) :
    ∃ xs, H X = some (.lst xs) ∧ xs.length = r ∧ Due n m s (upd H X (.lst (xs ++ [.ref D]))) X (r + 1) := by
  obtain ⟨G, h1, h2, h3⟩ := h
  have k1 := h1.congr (G' := fun k => if k = r then g else G k) fun i hi => by rw [if_neg (by omega)]
  have k2 := k1.ne (n := n) fun i hi => by
    rw [if_neg (by omega)]
    have := h2 i hi
    cases e : G i with
    | nil =>
      rw [e] at this
      have : 0 = n := this
      omega
    | cons z zs => exact ⟨z, zs, rfl⟩
  obtain ⟨xs, e1, e2, e3⟩ := k1.push (by rw [if_pos rfl]; exact hD) ne k2
  refine ⟨xs, e1, e2, _, e3, fun k hk => ?_, fun k hk ht => ?_⟩
  · split
    · exact hg
    · exact h2 k (by omega)
  · split
    · next e =>
      subst e
      exact hs ht
    · exact h3 k (by omega) ht
/-- where the law's own walk stands -/
def Cur (n m : Nat) (s : List (List Int) × (Nat → Nat)) (H : Hp) (b L : Addr) (wd : Str) (j : Nat) : Prop := (wd = "" ∧ ∃ t, seqF n m s j = some t ∧ TabAt H b t.1 ∧ WsAt H L m t.2) ∨ (wd = "great" ∧ seqF n m s j = none ∧ ∃ w, WsAt H L m w)
theorem Cur.same {n m : Nat} {s : List (List Int) × (Nat → Nat)} {H H' : Hp} {b L : Addr} {wd : Str} {j : Nat} (e : Same H H') (h : Cur n m s H b L wd j) : Cur n m s H' b L wd j := by
  rcases h with ⟨h1, t, h2, h3, h4⟩ | ⟨h1, h2, w, h3⟩
  · exact .inl ⟨h1, t, h2, h3.same e, h4.same e⟩
  · exact .inr ⟨h1, h2, w, h3.same e⟩
theorem Cur.put {n m : Nat} {s : List (List Int) × (Nat → Nat)} {H : Hp} {b L A : Addr} {wd : Str} {j : Nat} {xs : List V} {o : HO} (h : Cur n m s H b L wd j) (hA : H A = some (.lst xs)) (nL : L ≠ A) : Cur n m s (upd H A o) b L wd j := by
  rcases h with ⟨h1, t, h2, h3, h4⟩ | ⟨h1, h2, w, h3⟩
  · exact .inl ⟨h1, t, h2, h3.put hA, h4.put hA nL⟩
  · exact .inr ⟨h1, h2, w, h3.put hA nL⟩
theorem Cur.ws {n m : Nat} {s : List (List Int) × (Nat → Nat)} {H : Hp} {b L : Addr} {wd : Str} {j : Nat} (h : Cur n m s H b L wd j) : ∃ w, WsAt H L m w ∧ ∀ t, seqF n m s j = some t → w = t.2 := by
  rcases h with ⟨h1, t, h2, h3, h4⟩ | ⟨h1, h2, w, h3⟩
  · refine ⟨t.2, h4, fun t' e => ?_⟩
    rw [h2] at e
    rw [Option.some.inj e]
  · refine ⟨w, h3, fun t' e => ?_⟩
    rw [h2] at e
    cases e
/-- where it stands behind the look at the ties -/
def Mid (n m : Nat) (s : List (List Int) × (Nat → Nat)) (H : Hp) (b L : Addr) (wd : Str) (j p : Nat) : Prop := (wd = "" ∧ ∃ t, seqF n m s j = some t ∧ fits t.1 n p ∧ TabAt H b t.1 ∧ WsAt H L m t.2) ∨ (wd = "great" ∧ seqF n m s (j + 1) = none ∧ ∃ w, WsAt H L m w)
structure Kp (t : Addr) (rows : List (List Int)) (Ts : List (Addr × Str)) (H : Hp) : Prop where
  tb : Tabs Ts H
  tab : TabAt H t rows
theorem Kp.same {t : Addr} {rows : List (List Int)} {Ts : List (Addr × Str)} {H H' : Hp} (s : Same H H') (h : Kp t rows Ts H) : Kp t rows Ts H' := ⟨h.tb.ext s, h.tab.same s⟩
theorem Kp.put {t A : Addr} {rows : List (List Int)} {Ts : List (Addr × Str)} {H : Hp} {xs : List V} {o : HO} (h : Kp t rows Ts H) (e : H A = some (.lst xs)) : Kp t rows Ts (upd H A o) := ⟨Tabs.put h.tb e, h.tab.put e⟩
theorem Kp.ext {t : Addr} {rows : List (List Int)} {Ts : List (Addr × Str)} {H H' : Hp} (s : ExtN H H') (tb : Tabs Ts H') (h : Kp t rows Ts H) : Kp t rows Ts H' := ⟨tb, h.tab.extN s⟩
section
variable {P : Program} {w : World} {K : PySem.W.Frag} {mg : Str → Option Value} {base : Heap} {CG fG CB c1 c2 c3 c4 : Addr}
abbrev s_law : Stmt := topS 54
abbrev n_law : List Str := ["_law_script", "_law_feed_here", "_law_ties", "_law_many", "_law_rounds_now", "_law_here", "_law_now", "_law_due", "_law_word_here", "_law_turn_here", "_law_place", "_law_told", "_law_one"]
theorem sc_law : FnScope n_law ["_law_script"] (defScope s_law) := ⟨rfl, rfl, rfl, by decide +kernel, rfl, by decide +kernel, by decide +kernel⟩
def spLaw (K : PySem.W.Frag) (Pt : Addr) : Sp := fun vs H Q _ => ∃ (a : Addr) (ns : List Int), vs = [.ref a] ∧ SqL K H a (ns.map V.int) ∧ ns.length ≤ 63 ∧ H Pt = some (.tbl #[]) ∧ ∀ H', Q (.bl true) H'
theorem ok_law {f fF gW cc Pt : Addr} {fdF fdW : FuncData} {oc kV doc pm ct : Value} {od an : Option Addr} {osl : Array (Option Value)} (lk : K.lookup f = some ⟨oc, od, .func (PySem.W.fnOf "law" "law" (defArgs s_law) (defBody s_law) (defScope s_law) .none kV doc pm an (.ref cc) ct), osl⟩) (hcd : PySem.W.codeIn K (.ref cc) "law" = true) (T : Tx mg)
    (c_law_feed : Cal P w K mg base CX0 1 "_law_feed" ["_law_script"] (spFeed K)) (c_law_draw : Cal P w K mg base CX0 1 "_law_draw" ["_law_feed_here", "_law_many"] spDraw) (c_law_small : Cal P w K mg base CX0 4 "_law_small" ["_law_feed_here", "_law_most_buds", "_law_most_roots"] spSmall)
    (c_law_turn : Cal P w K mg base CX0 1 "_law_turn" ["_law_ties", "_law_place"] spLTurn) (c_law_wide_ties : Cal P w K mg base CX0 1 "_law_wide_ties" ["_law_ties"] spWideT) (c_law_step : Cal P w K mg base CX0 5 "_law_step" ["_law_ties", "_law_worths", "_law_place"] spLStep)
    (c_law_same : Cal P w K mg base CX0 4 "_law_same" ["_law_found", "_law_due"] (spSame 3)) (c_frieze : CalX P w K mg base 6 "frieze" ["table", "rounds"] (spFrieze CG))
    (FF : FnOk P w K mg base (L2.CX P w) 6 fF fdF ["table", "rounds"] (spFrieze CG)) (gF : mg "frieze" = some (.ref fF)) (kF : PySem.W.keepIn K (.ref fF) = true) (kbF : KBinds K fdF ["table", "rounds"] ["rounds", "table"] swapL swapL) (TG : ErrC K mg "Great" CG fG CB)
    (WB : WordW K mg base [(Pt, qL "law")] gW CB c1 c2 c3 c4 cc Pt (qL "law") fdW) : FnOk P w K mg base CX0 10 f (PySem.W.fnOf "law" "law" (defArgs s_law) (defBody s_law) (defScope s_law) .none kV doc pm an (.ref cc) ct) ["_law_script"] (spLaw K Pt) := by
  refine fn_of lk hcd sc_law (fun vs H Q E h => ?_) (fun A outer s H vs Q E hr h => ?_)
  · obtain ⟨a, ns, rfl, _⟩ := h
    rfl
  · obtain ⟨a, ns, rfl, hS, hlen, hP, q⟩ := h
    suffices hh : ∃ t, PSs (cxOf CX0 P w K mg base n_law "law" (defScope s_law) f (.ref cc) A outer s H E).nox (defBody s_law) t ∧ t { nx := fun _ H' => Q .non H', rt := Q } (L2.start n_law [.ref a]) H by
      obtain ⟨t, h1, h2⟩ := hh
      exact ⟨t, h1.nox, h2⟩
    refine ⟨_, (pss_cons (ps_set (i := 1) sc_law.nd rfl (.inl rfl) (pe_cal c_law_feed (hr.mono (by decide)) (by rfl) (pa_cons (pv 0) pa_nil)))
  (pss_cons (ps_set (i := 2) sc_law.nd rfl (.inr rfl) (pe_cal c_law_small (hr.mono (by decide)) (by rfl) (pa_cons (pv 1) (pa_cons pe_int (pa_cons pe_int pa_nil)))))
  (pss_cons (ps_set (i := 3) sc_law.nd rfl (.inl rfl) (pe_callB (c_len (K := K)) (by rfl) T.len PySem.boot_len (pa_cons (pe_ix (i_tup (K := K)) (pv 2) pe_int (fun _ _ => rfl)) pa_nil)))
  (pss_cons (ps_set (i := 4) sc_law.nd rfl (.inr rfl) (pe_cal c_law_draw (hr.mono (by decide)) (by rfl) (pa_cons (pv 1) (pa_cons pe_int pa_nil))))
  (pss_cons (ps_asg (pe_tup (pa_cons (pv 2) (pa_cons (pe_op op_rep (pe_lst (pa_cons (pe_tup (pa_cons pe_int (pa_cons pe_int pa_nil))) pa_nil)) (pe_callB (c_len (K := K)) (by rfl) T.len PySem.boot_len (pa_cons (pv 2) pa_nil))) (pa_cons (pe_lst (pa_cons (pe_op op_rep (pe_lst (pa_cons pe_int pa_nil)) (pv 3)) pa_nil)) (pa_cons pe_str pa_nil))))) (g_tup (K := K) (n := 4) rfl (pgs_cons (pg_name (i := 5) sc_law.nd rfl (.inl rfl)) (pgs_cons (pg_name (i := 6) sc_law.nd rfl (.inl rfl)) (pgs_cons (pg_name (i := 7) sc_law.nd rfl (.inl rfl)) (pgs_cons (pg_name (i := 8) sc_law.nd rfl (.inl rfl)) pgs_nil))))))
  (pss_cons (ps_for PassesOwn.never rfl (pi_range1 (by rfl) T.range (pa_cons (pv 4) pa_nil)) (pg_name (i := 9) sc_law.nd rfl (.inl rfl))
    (pss_cons (ps_for PassesOwn.never rfl (pi_range1 (by rfl) T.range (pa_cons (pv 3) pa_nil)) (pg_name (i := 10) sc_law.nd rfl (.inl rfl))
      (C8.pss_cut (ps_if (PW.pt (pw_and (pt_cmpR op_eq (pv 8) pe_str (nomark _)) (pw_and1 (pt_cmpR op_gt (pe_cal c_law_wide_ties (hr.mono (by decide)) (by rfl) (pa_cons (pe_cal c_law_turn (hr.mono (by decide)) (by rfl) (pa_cons (pv 5) (pa_cons (pv 10) pa_nil))) pa_nil)) pe_int (nomark _)))))
        (pss_one (ps_set (i := 8) sc_law.nd rfl (.inl rfl) pe_str))
        pss_nil)
      (pss_one (ps_if (pt_cmpR op_eq (pv 8) pe_str (nomark _))
        (pss_cons (ps_asg (pe_cal c_law_step (hr.mono (by decide)) (by rfl) (pa_cons (pv 5) (pa_cons (pv 6) (pa_cons (pv 10) pa_nil)))) (g_tup (K := K) (n := 2) rfl (pgs_cons (pg_name (i := 5) sc_law.nd rfl (.inl rfl)) (pgs_cons (pg_name (i := 6) sc_law.nd rfl (.inl rfl)) pgs_nil))))
        (pss_one (ps_if (pt_cmpR op_ge (pe_ix (i_tup (K := K)) (pe_ix (i_list (K := K)) (pv 6) (pv 10) (fun _ _ => rfl)) pe_int (fun _ _ => rfl)) (pe_op op_pow pe_int pe_int) (nomark _))
          (pss_one (ps_set (i := 8) sc_law.nd rfl (.inl rfl) pe_str))
          pss_nil)))
        pss_nil))))
    (pss_cons (ps_expr (pe_bm PySem.F.plainAttrs_list PySem.F.slot_list_append PySem.F.type_list_append mt_append (pv 7) (pa_cons (pe_lc (own := [("_law_one", 12)]) (by rfl) sc_law.nd (p_list (K := K) (pe_slice (l_list (K := K)) (pv 6) po_none (po_some (pv 3)))) (blkOk_by (own := [("_law_one", 12)]) (N := n_law) (sc := defScope s_law) (by decide +kernel)) (fun _ _ _ _ _ => (pg_name (i := 12) sc_law.nd rfl (.inl rfl))) (fun _ _ _ _ _ => pts_nil) (fun _ _ _ _ _ => (pe_ix (i_tup (K := K)) (pv 12) pe_int (fun _ _ => rfl)))) pa_nil)))
    (pss_one (ps_if (PW.pt (pw_and (pt_cmpR op_eq (pv 8) pe_str (nomark _)) (pw_and1 (pt_not (pt_val (pe_callB (c_all (K := K) rfl) (by rfl) T.all (by decide +kernel) (pa_cons (pe_lc (own := [("_law_one", 12)]) (by rfl) sc_law.nd (p_list (K := K) (pv 6)) (blkOk_by (own := [("_law_one", 12)]) (N := n_law) (sc := defScope s_law) (by decide +kernel)) (fun _ _ _ _ _ => (pg_name (i := 12) sc_law.nd rfl (.inl rfl))) (fun _ _ _ _ _ => pts_nil) (fun _ _ _ _ _ => (pe_and (pe_cmpR op_eq (pe_ix (i_tup (K := K)) (pv 12) pe_int (fun _ _ => rfl)) pe_int (nomark _)) (pe_one (pe_cmpR op_gt (pe_ix (i_tup (K := K)) (pv 12) pe_int (fun _ _ => rfl)) pe_int (nomark _)))))) pa_nil)))))))
      (pss_one (ps_ret pe_bl))
      pss_nil)))))
  (pss_cons (ps_set (i := 11) sc_law.nd rfl (.inr rfl) (pe_lst pa_nil))
  (pss_cons (ps_if (pt_cmpR op_ne (pe_wd (k := 7) WB rfl hr (by rfl) (lamS_by (sc := defScope s_law) (by decide +kernel)) (fun A outer s H E f c' hr' => p_bmR (K := K) PySem.F.plainAttrs_list PySem.F.slot_list_append PySem.F.type_list_append mt_append (pv 11) (pa_cons (pe_calX c_frieze (hr'.mono (by decide)) (by rfl) (passE rfl rfl rfl rfl) (pa_cons (pv 2) (pa_cons (pv 4) pa_nil))) pa_nil))) (pv 8) (nomark _))
    (pss_one (ps_ret pe_bl))
    pss_nil)
  (pss_cons (ps_if (pt_cmpR op_ne (pv 8) pe_str (nomark _))
    (pss_one (ps_ret pe_bl))
    pss_nil)
  (pss_cons (ps_if (pt_not (pt_val (pe_cal c_law_same (hr.mono (by decide)) (by rfl) (pa_cons (pe_ix (i_list (K := K)) (pv 11) pe_int (fun _ _ => rfl)) (pa_cons (pv 7) pa_nil)))))
    (pss_one (ps_ret pe_bl))
    pss_nil)
  (pss_cons (ps_expr (pe_bm PySem.F.plainAttrs_list PySem.F.slot_list_append PySem.F.type_list_append mt_append (pe_ix (i_list (K := K)) (pe_ix (i_list (K := K)) (pv 11) pe_int (fun _ _ => rfl)) pe_int (fun _ _ => rfl)) (pa_cons pe_int pa_nil)))
  (pss_cons (ps_expr (pe_bm0 PySem.F.plainAttrs_list PySem.F.slot_list_clear PySem.F.type_list_clear mt_clear (pe_ix (i_list (K := K)) (pv 11) pe_int (fun _ _ => rfl))))
  (pss_one (ps_ret (pe_cal c_law_same (hr.mono (by decide)) (by rfl) (pa_cons (pe_callK0 FF (hr.mono (by decide)) (by rfl) gF kF kbF passL (pk_cons (pv 4) (pk_cons (pv 2) pk_nil))) (pa_cons (pv 7) pa_nil))))))))))))))))), ?_⟩
    have tb : Tabs [(Pt, qL "law")] H := fun p hp => ⟨#[], by rw [List.mem_singleton.mp hp]; exact hP, by first | exact .nil | trivial | simp [TriplesOk], fun pos cv h => by first | cases h | simp at h⟩
    refine ⟨.ref a, rfl, a, ns, rfl, hS, fun f l H1 s1 nf hf1 => ?_⟩
    have tb1 := tb.ext s1
    clear hS hlen s1 nf hP tb
    -- the table
    refine ⟨.ref f, rfl, f, l, rfl, hf1, fun t rows n H2 sb2 hf2 hT S => ?_⟩
    have tb2 := Tabs.but sb2 hf1 tb1
    have O := S.b.tab
    have n1 := O.n1
    have n4 := O.n4
    have hl := O.len
    have hl4 := O.len4
    clear sb2 hf1 tb1 H1
    obtain ⟨as, b0, e1, e2, e3⟩ := hT.row (show 0 < rows.length by omega)
    refine ⟨.ref t, rfl, t, _, 0, .ref b0, rfl, rfl, SqT.of e1, atI_nat (j := 0) e2, b0, _, rfl, .inr (SqT.of e3), ?_⟩
    rw [List.length_map, row_len O.wide (show 0 < rows.length by omega)]
    -- the rounds
    refine ⟨.ref f, rfl, f, l, _, rfl, hf2, by omega, by omega, fun v H3 v0 v1 sb3 hf3 => ?_⟩
    obtain ⟨R, rfl⟩ : ∃ R : Nat, v = (R : Int) := ⟨v.toNat, by omega⟩
    have tb3 := Tabs.but sb3 hf2 tb2
    have hT3 := hT.but sb3 hf2
    have las : as.length = rows.length := by
      have := hT.refs
      obtain ⟨as', x1, x2⟩ := this
      have : as'.map V.ref = as.map V.ref := HO.tup.inj (Option.some.inj (x1.symm.trans e1))
      have := congrArg List.length this
      rw [List.length_map, List.length_map] at this
      rw [← this, x2.1]
    have e13 := sb3 _ _ (hf2.tup e1) e1
    clear hT sb3 hf2 tb2 hf3 e1 e2 e3 b0
    generalize hm : rows.length = m at *
    have K3 : Kp t rows [(Pt, qL "law")] H3 := ⟨tb3, hT3⟩
    clear tb3 hT3
    -- here, now, due, word
    refine ⟨.ref t, rfl, ?_⟩
    refine ⟨by show 2 ≤ sizeLine; decide, fun p0 e0 => ⟨by show 1 ≤ sizeLine; decide, fun z ez => ?_⟩⟩
    have s2 := same_upd (o := .tup [V.int 1, .int 1]) e0
    have s3 := same_upd (o := .lst [V.ref p0]) ez
    have s13 := s2.trans s3
    refine ⟨.ref t, rfl, t, _, rfl, .inr (SqT.of (s13 _ _ e13)), ?_⟩
    rw [List.length_map, las]
    refine ⟨z, m, _, rfl, rfl, upd_same, by omega, by omega, ?_, fun L eL => ?_⟩
    · show 1 * ((m : Int)).toNat ≤ sizeLine
      exact Nat.le_of_lt (small1000 (by omega))
    have s4 := same_upd (o := .lst (List.replicate ((m : Int)).toNat [V.ref p0]).flatten) eL
    have hL0 := upd_same (H := upd (upd H3 p0 (.tup [V.int 1, .int 1])) z (.lst [V.ref p0])) (a := L) (o := .lst (List.replicate ((m : Int)).toNat [V.ref p0]).flatten)
    have hp0 : PartAt (upd (upd (upd H3 p0 (.tup [V.int 1, .int 1])) z (.lst [V.ref p0])) L (.lst (List.replicate ((m : Int)).toNat [V.ref p0]).flatten)) p0 1 1 := s4 _ _ (s3 _ _ upd_same)
    generalize upd (upd (upd H3 p0 (.tup [V.int 1, .int 1])) z (.lst [V.ref p0])) L (.lst (List.replicate ((m : Int)).toNat [V.ref p0]).flatten) = H4 at hL0 hp0 s4
    rw [Int.toNat_natCast, rep_ref] at hL0
    have hW4 := WsAt.ones hL0 hp0
    have K4 := (K3.same s13).same s4
    clear s4 hL0 hp0 eL s13 s3 s2 ez e0 K3
    refine ⟨by show 1 ≤ sizeLine; decide, fun z ez => ⟨.int n, rfl, z, n, _, rfl, rfl, upd_same, by omega, by omega, ?_, fun b eb => ?_⟩⟩
    · show 1 * ((n : Int)).toNat ≤ sizeLine
      exact Nat.le_of_lt (small1000 (by omega))
    refine ⟨by show 1 ≤ sizeLine; decide, fun X eX => ?_⟩
    have s5 := same_upd (o := .lst [V.int 1]) ez
    have s6 := same_upd (o := .lst (List.replicate ((n : Int)).toNat [V.int 1]).flatten) eb
    have s7 := same_upd (o := .lst [V.ref b]) eX
    have nbX : b ≠ X := ne_of_none upd_same eX
    have gx : ∀ i, i < 1 → lineG n m (rows, fun _ => 1) i = matRow n fun _ => 1 := fun i hi => by
      have : i = 0 := by omega
      subst this
      unfold lineG wv
      rw [Nat.zero_mul]
      rfl
    have hLn : LnsAt (upd (upd (upd H4 z (.lst [V.int 1])) b (.lst (List.replicate ((n : Int)).toNat [V.int 1]).flatten)) X (.lst [V.ref b])) X 1 (lineG n m (rows, fun _ => 1)) := by
      refine ⟨[b], upd_same, rfl, fun i c e => ?_⟩
      have hi : i < 1 := (List.getElem?_eq_some_iff.mp e).1
      rw [gx i hi]
      have : i = 0 := by omega
      subst this
      cases e
      rw [upd_ne nbX, upd_same, Int.toNat_natCast, rep_one]
    have hD : Due n m (rows, fun _ => 1) (upd (upd (upd H4 z (.lst [V.int 1])) b (.lst (List.replicate ((n : Int)).toNat [V.int 1]).flatten)) X (.lst [V.ref b])) X 1 := ⟨_, hLn, fun k _ => by unfold lineG; rw [matRow_len], fun _ _ _ => rfl⟩
    have s47 := (s5.trans s6).trans s7
    have K7 := K4.same s47
    have hW7 := hW4.same s47
    generalize upd (upd (upd H4 z (.lst [V.int 1])) b (.lst (List.replicate ((n : Int)).toNat [V.int 1]).flatten)) X (.lst [V.ref b]) = H7 at hD K7 hW7
    clear hLn s47 s7 s6 s5 hW4 nbX gx ez eb eX K4
    refine ⟨by show 4 ≤ sizeLine; decide, fun w0 ew => ?_⟩
    have sw := same_upd (o := .tup [V.ref t, .ref L, .ref X, .str ""]) ew
    refine ⟨w0, _, rfl, SqT.of upd_same, rfl, _, _, rfl, _, _, rfl, _, _, rfl, _, _, rfl, rfl, ?_⟩
    have K8 := K7.same sw
    have hW8 := hW7.same sw
    have hD8 := hD.same sw
    show tSeq _ _ _ _ (upd H7 w0 (.tup [V.ref t, .ref L, .ref X, .str ""]))
    generalize upd H7 w0 (.tup [V.ref t, .ref L, .ref X, .str ""]) = H8 at K8 hW8 hD8
    clear sw ew K7 hW7 hD
    have hC8 : Cur n m (rows, fun _ => 1) H8 t L "" (0 * n) := .inl ⟨rfl, (rows, fun _ => 1), by rw [Nat.zero_mul]; rfl, K8.tab, hW8⟩
    have hR6 : R ≤ 6 := by omega
    -- the walk
    refine ⟨.int R, rfl, R, rfl, by omega, by omega, ?_⟩
    refine for_range (fun i σ H' => ∃ (b L : Addr) (wd : Str) (y9 y10 : Option V), σ = [some (.ref a), some (.ref f), some (.ref t), some (.int n), some (.int R), some (.ref b), some (.ref L), some (.ref X), some (.str wd), y9, y10, none, none] ∧ Cur n m (rows, fun _ => 1) H' b L wd (i * n) ∧ Due n m (rows, fun _ => 1) H' X (i + 1) ∧ Kp t rows [(Pt, qL "law")] H') ⟨t, L, "", none, none, rfl, hC8, hD8, K8⟩ ?_ ?_
    · rintro i σ H9 hi ⟨b, L, wd, y9, y10, rfl, hC, hD, hK⟩
      have hi : i < R := hi
      have e0 : (0 : Int) + (i : Int) = (i : Int) := by omega
      rw [e0]
      refine ⟨.int n, rfl, n, rfl, by omega, by omega, ?_⟩
      refine for_range (fun p σ H' => ∃ (b L : Addr) (wd : Str) (y10 : Option V), σ = [some (.ref a), some (.ref f), some (.ref t), some (.int n), some (.int R), some (.ref b), some (.ref L), some (.ref X), some (.str wd), some (.int (i : Int)), y10, none, none] ∧ Cur n m (rows, fun _ => 1) H' b L wd (i * n + p) ∧ Due n m (rows, fun _ => 1) H' X (i + 1) ∧ Kp t rows [(Pt, qL "law")] H') ⟨b, L, wd, y10, rfl, hC, hD, hK⟩ ?_ ?_
      · rintro p σ H10 hp ⟨b, L, wd, y10, rfl, hC, hD, hK⟩
        have hp : p < n := hp
        have e0 : (0 : Int) + (p : Int) = (p : Int) := by omega
        rw [e0]
        have hj := lt_mul hi hp
        have hRn : R * n ≤ 6 * n := Nat.mul_le_mul_right n hR6
        obtain ⟨g, eg⟩ : ∃ g, 6 * n - (i * n + p) = g + 1 := ⟨6 * n - (i * n + p) - 1, by omega⟩
        have St : ∀ u, seqF n m (rows, fun _ => 1) (i * n + p) = some u → StOk n m (g + 1) p u.1 u.2 ∧ seqF n m (rows, fun _ => 1) (i * n + p + 1) = stepF n m u p := fun u eu => by
          have K1 := seq_ok n1 S (show i * n + p ≤ 6 * n by omega) eu
          rw [at_mod hp, eg] at K1
          have nx := seq_next eu
          rw [at_mod hp] at nx
          exact ⟨K1, nx⟩
        refine ⟨fun σ H' => ∃ wd1 : Str, σ = [some (.ref a), some (.ref f), some (.ref t), some (.int n), some (.int R), some (.ref b), some (.ref L), some (.ref X), some (.str wd1), some (.int (i : Int)), some (.int (p : Int)), none, none] ∧ Mid n m (rows, fun _ => 1) H' b L wd1 (i * n + p) p ∧ Due n m (rows, fun _ => 1) H' X (i + 1) ∧ Kp t rows [(Pt, qL "law")] H', ?_, ?_⟩
        · rcases hC with ⟨rfl, u, eu, hTb, hW⟩ | ⟨rfl, en, w', hW⟩
          · obtain ⟨SO, nx⟩ := St u eu
            refine ⟨.str "", rfl, rfl, _, rfl, ite2 (fun _ => ?_) (fun z => absurd (decide_eq_true rfl) z)⟩
            refine ⟨.ref b, rfl, .int (p : Int), rfl, b, u.1, n, p, rfl, hTb, SO.b.tab.wd, hp, fun c H11 s11 hTc => ?_⟩
            have tl := turnT_len u.1 n p
            have ul := SO.b.len
            refine ⟨c, turnT u.1 n p, n, rfl, hTc, n1, n4, by omega, by omega, turnT_wide, fun mm H12 s12 hmm => ?_⟩
            have s1012 := s11.trans s12
            refine ⟨_, _, rfl, rfl, _, rfl, ite2 (fun z => ?_) (fun z => ?_)⟩
            · have z := of_decide_eq_true z
              have nf : ¬ fits u.1 n p := fun hf => by
                have := hmm.mpr ((bigR_iff _).mpr hf)
                omega
              refine ⟨"great", rfl, .inr ⟨rfl, ?_, _, hW.same s1012⟩, hD.same s1012, hK.same s1012⟩
              rw [nx]
              unfold stepF
              rw [if_neg (fun y => nf (fitB_iff.mp y.1))]
            · have z : ¬ mm > 50 := fun h => z (decide_eq_true h)
              have hf : fits u.1 n p := (bigR_iff _).mp (hmm.mp (by omega))
              exact ⟨"", rfl, .inl ⟨rfl, u, eu, hf, hTb.same s1012, hW.same s1012⟩, hD.same s1012, hK.same s1012⟩
          · refine ⟨.str "great", rfl, rfl, _, rfl, ite2 (fun z => absurd (of_decide_eq_true z) (by decide +kernel)) (fun _ => ?_)⟩
            exact ⟨"great", rfl, .inr ⟨rfl, seq_none_le en (Nat.le_succ _), w', hW⟩, hD, hK⟩
        · rintro σ H11 ⟨wd1, rfl, hM, hD, hK⟩
          rcases hM with ⟨rfl, u, eu, hf, hTb, hW⟩ | ⟨rfl, en, w', hW⟩
          · obtain ⟨SO, nx⟩ := St u eu
            refine ⟨.str "", rfl, rfl, _, rfl, ite2 (fun _ => ?_) (fun z => absurd (decide_eq_true rfl) z)⟩
            obtain ⟨hdv, _⟩ := SO.dvd hp hf
            refine ⟨.ref b, rfl, .ref L, rfl, .int (p : Int), rfl, b, L, u.1, n, m, p, u.2, rfl, hTb, SO.b, hp, hW, hdv, fun pr' b' L' H12 s12 hpr hTb' hW' => ?_⟩
            refine ⟨pr', _, rfl, SqT.of hpr, rfl, _, _, rfl, _, _, rfl, rfl, ?_⟩
            obtain ⟨rs, r, g1, g2, g3⟩ := hW'.at (show p < m by omega)
            refine ⟨.ref L', rfl, .int (p : Int), rfl, L', _, _, .ref r, rfl, rfl, SqL.of g1, atI_nat g2, r, _, 0, .int _, rfl, rfl, SqT.of g3, rfl, ?_⟩
            have eW : upW u.2 p (sM m p (ent u.1) u.2 / u.2 p) p = sM m p (ent u.1) u.2 / u.2 p := if_pos rfl
            refine ⟨_, _, rfl, rfl, ⟨by decide, by decide, by decide⟩, _, _, rfl, rfl, _, rfl, ite2 (fun z => ?_) (fun z => ?_)⟩
            · have z := of_decide_eq_true z
              have nlt : ¬ sM m p (ent u.1) u.2 / u.2 p < g60 := fun h => by
                rw [← eW] at h
                have z2 : (10 : Int) ^ Int.toNat 60 ≤ ((upW u.2 p (sM m p (ent u.1) u.2 / u.2 p) p : Nat) : Int) := z
                have e10 : (10 : Int) ^ Int.toNat 60 = (1000000000000000000000000000000000000000000000000000000000000 : Nat) := by decide +kernel
                rw [e10] at z2
                have h2 : upW u.2 p (sM m p (ent u.1) u.2 / u.2 p) p < 1000000000000000000000000000000000000000000000000000000000000 := h
                omega
              refine ⟨b', L', "great", _, rfl, .inr ⟨rfl, ?_, _, hW'⟩, hD.same s12, hK.same s12⟩
              rw [← Nat.add_assoc, nx]
              unfold stepF
              rw [if_neg (fun y => nlt y.2)]
            · have hlt : sM m p (ent u.1) u.2 / u.2 p < g60 := by
                rw [← eW]
                have z3 : ¬ (10 : Int) ^ Int.toNat 60 ≤ ((upW u.2 p (sM m p (ent u.1) u.2 / u.2 p) p : Nat) : Int) := fun h => z (decide_eq_true h)
                have e10 : (10 : Int) ^ Int.toNat 60 = (1000000000000000000000000000000000000000000000000000000000000 : Nat) := by decide +kernel
                rw [e10] at z3
                show upW u.2 p (sM m p (ent u.1) u.2 / u.2 p) p < 1000000000000000000000000000000000000000000000000000000000000
                omega
              refine ⟨b', L', "", _, rfl, .inl ⟨rfl, (turnT u.1 n p, upW u.2 p (sM m p (ent u.1) u.2 / u.2 p)), ?_, hTb', hW'⟩, hD.same s12, hK.same s12⟩
              rw [← Nat.add_assoc, nx]
              unfold stepF
              rw [if_pos ⟨fitB_iff.mpr hf, hlt⟩]
          · refine ⟨.str "great", rfl, rfl, _, rfl, ite2 (fun z => absurd (of_decide_eq_true z) (by decide +kernel)) (fun _ => ?_)⟩
            exact ⟨b, L, "great", _, rfl, .inr ⟨rfl, en, w', hW⟩, hD, hK⟩
      · rintro σ H10 ⟨b, L, wd, y10, rfl, hC, hD, hK⟩
        replace hC : Cur n m (rows, fun _ => 1) H10 b L wd (i * n + n) := hC
        have en : i * n + n = (i + 1) * n := (Nat.succ_mul i n).symm
        rw [en] at hC
        obtain ⟨w', hW, hw'⟩ := hC.ws
        obtain ⟨rs, h1, h2, h3⟩ := id hW
        obtain ⟨G, hLn, hG1, hG2⟩ := id hD
        obtain ⟨ds, hx1, hx2, hx3⟩ := id hLn
        have nLX : L ≠ X := ws_ne hW hLn (by omega) (by omega)
        refine ⟨.ref X, rfl, .inl ⟨rfl, _, SqL.of hx1⟩, ?_⟩
        refine ⟨.ref L, rfl, .int n, rfl, n, rfl, ?_⟩
        dsimp only [tNoPart]
        refine ⟨L, _, rfl, SqL.of h1, fun c ec => ?_⟩
        rw [cut_take]
        refine ⟨c, rfl, ⟨_, SqL.of upd_same⟩, fun D eD => ?_⟩
        have sc := same_upd (o := .lst ((rs.map V.ref).take n)) ec
        have hc := upd_same (H := H10) (a := c) (o := .lst ((rs.map V.ref).take n))
        refine lc_list (K := K) (a := c) (xs := (rs.map V.ref).take n) (fun j H' => AccI (upd H10 c (.lst ((rs.map V.ref).take n))) H' D (fun j => (w' j : Nat)) j) AccI.zero (fun j H' _ hA => SqL.of (hA.stay eD hc)) ?_ ?_
        · rintro j v H11 hv hA
          rw [List.getElem?_take] at hv
          split at hv
          · next hjn =>
            obtain ⟨r, er, rfl⟩ := ref_at hv
            refine ⟨rfl, .ref r, rfl, r, _, 0, .int (w' j : Nat), rfl, rfl, SqT.of (hA.stay eD (sc _ _ (h3 j r er))), rfl, ?_⟩
            exact hA.next (.refl _) rfl (by omega)
          · cases hv
        · rintro H11 hA
          have lt : ((rs.map V.ref).take n).length = n := by rw [List.length_take, List.length_map]; omega
          rw [lt] at hA
          have s11 : Same (upd H10 c (.lst ((rs.map V.ref).take n))) H11 := fun b o e => hA.stay eD e
          have hDD := hA.1
          clear hA
          have s1011 := sc.trans s11
          have nDX : D ≠ X := (ne_of_none (sc _ _ hx1) eD).symm
          obtain ⟨xs, k1, k2, k3⟩ := Due.push n1 (hD.same s1011) hDD nDX (matRow_len _ _) fun ⟨u, eu⟩ => by
            rw [hw' u eu]
            unfold lineG wv
            rw [eu]
          refine ⟨X, _, _, rfl, rfl, k1, by rw [k2]; exact small1000 (by omega), ?_⟩
          have C12 := (hC.same s1011).put (o := .lst (xs ++ [.ref D])) k1 nLX
          have K12 := (hK.same s1011).put (o := .lst (xs ++ [.ref D])) k1
          have W12 := (hW.same s1011).put (o := .lst (xs ++ [.ref D])) k1 nLX
          generalize upd H11 X (.lst (xs ++ [.ref D])) = H12 at k3 C12 K12 W12
          rcases id C12 with ⟨rfl, u, eu, hTb, hWu⟩ | ⟨rfl, en', w'', hW''⟩
          · have SO := seq_ok n1 S (show (i + 1) * n ≤ 6 * n from Nat.mul_le_mul_right n (by omega)) eu
            refine ⟨.str "", rfl, rfl, _, rfl, ite2 (fun _ => ?_) (fun z => absurd (decide_eq_true rfl) z)⟩
            obtain ⟨rs2, g1, g2, g3⟩ := hWu
            refine ⟨.ref L, rfl, L, rfl, ⟨_, SqL.of g1⟩, fun D2 eD2 => ?_⟩
            refine lc_list (K := K) (a := L) (xs := rs2.map V.ref) (fun j H' => H' D2 = some (.lst ((List.replicate j true).map V.bl)) ∧ Same H12 H') ⟨upd_same, same_upd eD2⟩ (fun j H' _ ⟨_, s⟩ => SqL.of (s _ _ g1)) ?_ ?_
            · rintro j v H13 hv ⟨k1, s13⟩
              obtain ⟨r, er, rfl⟩ := ref_at hv
              have hj2 : j < m := by
                have := (List.getElem?_eq_some_iff.mp er).1
                omega
              have hr3 := s13 _ _ (g3 j r er)
              refine ⟨rfl, .ref r, rfl, r, _, 1, .int 1, rfl, rfl, SqT.of hr3, rfl, rfl, true, by rw [decide_eq_true rfl], iteT ?_⟩
              refine ⟨.ref r, rfl, r, _, 0, .int (u.2 j : Nat), rfl, rfl, SqT.of hr3, rfl, _, _, rfl, rfl, ?_⟩
              have ed : decide ((0 : Int) < ((u.2 j : Nat) : Int)) = true := decide_eq_true (by have := SO.b.pos j; omega)
              dsimp only
              rw [ed]
              refine ⟨_, k1, by rw [List.length_map, List.length_replicate]; exact small1000 (by omega), ?_, Same.updN s13 eD2⟩
              rw [upd_same, List.replicate_succ', List.map_append]
              rfl
            · rintro H13 ⟨k1, s13⟩
              refine ⟨D2, _, rfl, SqL.of k1, ?_⟩
              rw [all_repS]
              refine ⟨true, rfl, iteF ?_⟩
              exact ⟨b, L, "", _, _, rfl, C12.same s13, k3.same s13, K12.same s13⟩
          · refine ⟨.str "great", rfl, rfl, _, rfl, ite2 (fun z => absurd (of_decide_eq_true z) (by decide +kernel)) (fun _ => ?_)⟩
            exact ⟨b, L, "great", _, _, rfl, C12, k3, K12⟩
    · rintro σ H9 ⟨b, L, wd, y9, y10, rfl, hC, hD, hK⟩
      replace hC : Cur n m (rows, fun _ => 1) H9 b L wd (R * n) := hC
      replace hD : Due n m (rows, fun _ => 1) H9 X (R + 1) := hD
      -- told
      refine ⟨Nat.zero_le _, fun L0 eL0 => ?_⟩
      have sL := same_upd (o := .lst []) eL0
      have hL0 := upd_same (H := H9) (a := L0) (o := .lst [])
      have K10 := hK.same sL
      have D10 := hD.same sL
      have nXL : X ≠ L0 := fun z => by
        obtain ⟨G, hLn, _⟩ := hD
        obtain ⟨ds, k1, _⟩ := hLn
        rw [z, eL0] at k1
        cases k1
      show tSeq _ _ _ _ (upd H9 L0 (.lst []))
      generalize upd H9 L0 (.lst []) = H10 at hL0 K10 D10
      have hE : (wd = "" ∧ ∃ u, seqF n m (rows, fun _ => 1) (R * n) = some u) ∨ (wd = "great" ∧ seqF n m (rows, fun _ => 1) (R * n) = none) := by
        rcases hC with ⟨h1, u, h2, _⟩ | ⟨h1, h2, _⟩
        · exact .inl ⟨h1, u, h2⟩
        · exact .inr ⟨h1, h2⟩
      clear sL eL0 hD hK hC
      refine ⟨K10.tb, fun H11 x11 tb11 => ?_⟩
      have hL11 := x11 _ _ hL0 (fun ps z => by cases z)
      have K11 := K10.ext x11 tb11
      have D11 : Due n m (rows, fun _ => 1) H11 X (R + 1) := by
        obtain ⟨G, g1, g2, g3⟩ := D10
        exact ⟨G, g1.extN x11, g2, g3⟩
      clear K10 D10 hL0 x11
      refine ⟨.ref L0, rfl, .inl ⟨rfl, _, SqL.of hL11⟩, ?_⟩
      refine ⟨.ref t, rfl, .int R, rfl, t, rows, n, R, rfl, K11.tab, by rw [hm]; exact S, hR6, fun u eu X' H12 s12 hX' fX' fr' => ?_, fun en d H12 s12 hd => ?_⟩
      · rw [hm] at eu hX'
        have hwd : wd = "" := by
          rcases hE with ⟨h, _⟩ | ⟨_, en⟩
          · exact h
          · rw [en] at eu
            cases eu
        subst hwd
        have D12 : LnsAt H12 X (R + 1) (lineG n m (rows, fun _ => 1)) := by
          obtain ⟨G, g1, g2, g3⟩ := D11
          exact (g1.congr fun k hk => g3 k hk (seq_some_le eu (Nat.mul_le_mul_right n (by omega)))).same s12
        have K12 := K11.same s12
        have hL12 := s12 _ _ hL11
        have nX'L : X' ≠ L0 := fun z => by
          rw [z, hL11] at fX'
          cases fX'
        have glen : ∀ i, (lineG n m (rows, fun _ => 1) i).length = n := fun i => by unfold lineG; rw [matRow_len]
        have gne : ∀ i, (lineG n m (rows, fun _ => 1) i).map V.int ≠ [] := fun i e => by
          have := congrArg List.length e
          rw [List.length_map, glen] at this
          have : n = 0 := this
          omega
        refine ⟨L0, _, _, rfl, rfl, hL12, by show 0 < sizeLine; decide, ?_⟩
        have D13 := D12.put (o := .lst ([] ++ [V.ref X'])) hL12 (Ne.symm nXL) fun i _ => gne i
        have X13 := hX'.put (o := .lst ([] ++ [V.ref X'])) hL12 (Ne.symm nX'L) fun i _ => gne i
        have K13 := K12.put (o := .lst ([] ++ [V.ref X'])) hL12
        have hL13 := upd_same (H := H12) (a := L0) (o := .lst ([] ++ [V.ref X']))
        have b13 : SameBut L0 H11 (upd H12 L0 (.lst ([] ++ [V.ref X']))) := fun b o nb e => by
          rw [upd_ne nb]
          exact s12 _ _ e
        have D11' : LnsAt H11 X (R + 1) (lineG n m (rows, fun _ => 1)) := by
          obtain ⟨G, g1, g2, g3⟩ := D11
          exact g1.congr fun k hk => g3 k hk (seq_some_le eu (Nat.mul_le_mul_right n (by omega)))
        have fr13 : Frs H11 (upd H12 L0 (.lst ([] ++ [V.ref X']))) X' := fun ds e => fr' ds (by rw [upd_ne nX'L] at e; exact e)
        have kR : R + 1 ≤ 1000 := by omega
        have kG : ∀ i, i < R + 1 → (lineG n m (rows, fun _ => 1) i).length ≤ 1000 := fun i _ => by rw [glen]; omega
        have tk : Tabs [(Pt, qL "law")] (upd H12 L0 (.lst ([] ++ [V.ref X']))) := K13.tb
        generalize upd H12 L0 (.lst ([] ++ [V.ref X'])) = H13 at D13 X13 K13 hL13 b13 fr13
        replace hL13 : H13 L0 = some (.lst [.ref X']) := hL13
        refine ⟨.str "", rfl, rfl, _, rfl, ite2 (fun z => ?_) (fun _ => ?_)⟩
        · exact absurd z (by decide +kernel)
        refine ⟨.str "", rfl, rfl, _, rfl, ite2 (fun z => ?_) (fun _ => ?_)⟩
        · exact absurd z (by decide +kernel)
        -- the same
        refine ⟨.ref L0, rfl, L0, _, 0, .ref X', rfl, rfl, SqL.of hL13, rfl, .ref X, rfl, _, _, rfl, al_lns X13 D13 kR kG, fun H14 s14 => ?_⟩
        refine ⟨true, rfl, iteF ?_⟩
        have hL14 := s14 _ _ hL13
        obtain ⟨ds, hx1, hx2, hx3⟩ := X13.same s14
        have dk : ds[0]? = some ds[0] := List.getElem?_eq_getElem (by omega)
        have hd0 := hx3 0 _ dk
        have f0 : H11 ds[0] = none := (fr13.keep X13.choose_spec.1 s14) ds hx1 _ (List.getElem_mem _)
        -- spoiled
        refine ⟨.ref L0, rfl, L0, _, 0, .ref X', rfl, rfl, SqL.of hL14, rfl, X', _, 0, .ref ds[0], rfl, rfl, SqL.of hx1, atI_nat (j := 0) (by rw [List.getElem?_map, dk]; rfl), .inl ⟨rfl, _, SqL.of hd0⟩, ds[0], _, _, rfl, rfl, hd0, by rw [List.length_map, glen]; exact small1000 (by omega), ?_⟩
        have b14 : SameBut L0 H11 H14 := fun b o nb e => s14 _ _ (b13 b o nb e)
        have b15 := b14.updN (o := .lst ((lineG n m (rows, fun _ => 1) 0).map V.int ++ [V.int 7])) f0
        have K14 := K13.same s14
        have K15 := K14.put (o := .lst ((lineG n m (rows, fun _ => 1) 0).map V.int ++ [V.int 7])) hd0
        have n0L : L0 ≠ ds[0] := ne_of_none hL11 f0
        have n0X : X' ≠ ds[0] := fun z => by
          rw [← z, hx1] at hd0
          have e := HO.lst.inj (Option.some.inj hd0)
          cases hds : ds with
          | nil =>
            rw [hds] at hx2
            have : 0 = R + 1 := hx2
            omega
          | cons x xs =>
            rw [hds] at e
            have hl1 := glen 0
            cases hg : lineG n m (rows, fun _ => 1) 0 with
            | nil =>
              rw [hg] at e
              cases e
            | cons y ys =>
              rw [hg] at e
              cases e
        have hL15 : (upd H14 ds[0] (.lst ((lineG n m (rows, fun _ => 1) 0).map V.int ++ [V.int 7]))) L0 = some (.lst [.ref X']) := (upd_ne n0L).trans hL14
        have hX15 : (upd H14 ds[0] (.lst ((lineG n m (rows, fun _ => 1) 0).map V.int ++ [V.int 7]))) X' = some (.lst (ds.map V.ref)) := (upd_ne n0X).trans hx1
        generalize upd H14 ds[0] (.lst ((lineG n m (rows, fun _ => 1) 0).map V.int ++ [V.int 7])) = H15 at b15 K15 hL15 hX15
        refine ⟨.ref L0, rfl, L0, _, 0, .ref X', rfl, rfl, SqL.of hL15, rfl, .inl ⟨rfl, _, SqL.of hX15⟩, X', _, rfl, rfl, hX15, ?_⟩
        have b16 := b15.updN (o := .lst []) fX'
        have K16 := K15.put (o := .lst []) hX15
        generalize upd H15 X' (.lst []) = H16 at b16 K16
        have D16 := D11'.but b16 hL11 (Ne.symm nXL) fun i _ => gne i
        refine ⟨.int R, rfl, .ref t, rfl, t, rows, n, R, rfl, K16.tab, by rw [hm]; exact S, hR6, fun u2 eu2 X2 H17 s17 hX2 _ _ => ?_, fun en2 => ?_⟩
        · rw [hm] at hX2
          exact ⟨.ref X, rfl, _, _, rfl, al_lns hX2 (D16.same s17) kR kG, fun H18 _ => q H18⟩
        · rw [hm, eu] at en2
          cases en2
      · rw [hm] at en
        refine ⟨.str "great", (TG.at hd).wide, ?_⟩
        rcases hE with ⟨_, u, eu⟩ | ⟨rfl, _⟩
        · rw [en] at eu
          cases eu
        refine ⟨.str "great", rfl, rfl, _, rfl, ite2 (fun z => ?_) (fun _ => ?_)⟩
        · exact absurd z (by decide +kernel)
        · refine ⟨.str "great", rfl, rfl, _, rfl, ite2 (fun _ => q _) (fun z => ?_)⟩
          exact absurd (by decide +kernel) z
end
end Bw
set_option Elab.async false
set_option linter.all false
set_option maxRecDepth 100000
set_option maxHeartbeats 2000000
/-! ### the end where several defs hold lambdas -/
namespace LamX
open PySem PySem.Spec PyProof.Rows L2
theorem walk_ofOwns {l : PySem.W.OpenLaw} {n k : Nat} {q : Program} {loose : List Str} {XP : (Str → Option Value) → Heap → Prop} {YP : World → Heap → Prop} {d : DefRec} {K : Params → PySem.W.Frag} {CX : World → CXT} {x : Str}
    (hn : l.most = some n) (hn2 : n ≤ sizeLine) (hdf : d.params.defaults = []) (hr : Room k callerA) (hY : ∀ (w : World) (h : Heap), YP w h → (K w.params).In h)
    (F : ∀ (w : World) (mg : Str → Option Value) (fa : Addr) (h : Heap), YP w h → (K w.params).In h → h.Ns mainGlobals mg → mg d.name = some (.ref fa) → (∀ (y : Str) (f : Addr), ((recsOf q).any fun e => e.name == y) = true → mg y = some (.ref f) → OwnTab (K w.params) f h) → LawAtS l w (K w.params) (CX w) k n x mg fa h)
    (hCX : ∀ (w : World) (H : Hp) (s : Shared) (e : Value) (s' : Shared), CX w [] H s (fun _ _ _ => False) e s' → False) :
    PySem.W.WalkO q loose XP YP l.row.toRowW d [] (fun f vs => PySem.call f vs) := by
  refine Att.attach_callB hn hdf fun w s₀ s₁ mg mb fa o pm cd doc a vs ns G Y ho hd hcd hmg hobj hints hlen hbits hg => ?_
  have KX := hY w _ Y
  have own : ∀ (y : Str) (f : Addr), ((recsOf q).any fun e => e.name == y) = true → mg y = some (.ref f) → OwnTab (K w.params) f s₁.heap := fun y f hrec hmy c P o1 fd1 e dd vs1 sl k1 k2 k3 k4 k5 => by
    obtain ⟨dL, hm, hn1⟩ := List.any_eq_true.mp hrec
    have hn2 : dL.name = y := beq_iff_eq.mp hn1
    obtain ⟨a', o', fd', c', P', h1, h2, h3, h4, h5, h6⟩ := G.T.tab dL hm
    rw [hn2, hmy] at h1
    cases h1
    have g1 := KX _ _ k1
    rw [g1] at h2
    cases h2
    rw [k2] at h3
    cases h3
    rw [k3] at h4
    cases h4
    obtain ⟨⟨oc, vc, e1, _, e3, e4⟩, hP⟩ := h6
    have g2 := KX _ _ k4
    rw [g2] at e1
    cases e1
    cases e3
    rw [k5] at e4
    cases e4
    exact hP
  obtain ⟨fd, cs, sp, hT, nT, C, hb, hsp, hF⟩ := F w mg fa _ Y KX G.T.g hmg own
  exact law_callTs KX G.T.g G.T.b G.T.builtins G.T.nolimit hg hT nT C G.T.bmain hobj hints (Nat.le_trans hlen hn2) hr hF hb (fun H hH hS => hsp H a ns hlen hbits hH hS) fun H e s' => hCX w H s₁ e s'
end LamX
set_option Elab.async false
set_option linter.all false
set_option maxRecDepth 100000
set_option maxHeartbeats 4000000
namespace Bw
open PySem PySem.Spec PyProof.Rows L2
theorem all_mk {l : PySem.W.OpenLaw} {w : World} {K : PySem.W.Frag} {h : Heap} {mg : Str → Option Value} {fa : Addr} (X : K.In h) (G : h.Ns mainGlobals mg) (hfa : mg "law" = some (.ref fa)) (own : LamX.OwnTab K fa h)
    {C_BudError : Addr}
    {C_Great : Addr}
    {C_NoPart : Addr}
    {C_NoPlace : Addr}
    {C_Lacking : Addr}
    {C_NothingLeft : Addr}
    {od_common an_common : Option Addr} {sl_common : Array (Option Value)} {oc_common kV_common dc_common pm_common cd_common ct_common : Value} {f_common : Addr}
    {od_power_of an_power_of : Option Addr} {sl_power_of : Array (Option Value)} {oc_power_of kV_power_of dc_power_of pm_power_of cd_power_of ct_power_of : Value} {f_power_of : Addr}
    {od_lowest_terms an_lowest_terms : Option Addr} {sl_lowest_terms : Array (Option Value)} {oc_lowest_terms kV_lowest_terms dc_lowest_terms pm_lowest_terms cd_lowest_terms ct_lowest_terms : Value} {f_lowest_terms : Addr}
    {od_is_number an_is_number : Option Addr} {sl_is_number : Array (Option Value)} {oc_is_number kV_is_number dc_is_number pm_is_number cd_is_number ct_is_number : Value} {f_is_number : Addr}
    {od_is_row an_is_row : Option Addr} {sl_is_row : Array (Option Value)} {oc_is_row kV_is_row dc_is_row pm_is_row cd_is_row ct_is_row : Value} {f_is_row : Addr}
    {od_check_form an_check_form : Option Addr} {sl_check_form : Array (Option Value)} {oc_check_form kV_check_form dc_check_form pm_check_form cd_check_form ct_check_form : Value} {f_check_form : Addr}
    {od_check_table an_check_table : Option Addr} {sl_check_table : Array (Option Value)} {oc_check_table kV_check_table dc_check_table pm_check_table cd_check_table ct_check_table : Value} {f_check_table : Addr}
    {od_check_bud an_check_bud : Option Addr} {sl_check_bud : Array (Option Value)} {oc_check_bud kV_check_bud dc_check_bud pm_check_bud cd_check_bud ct_check_bud : Value} {f_check_bud : Addr}
    {od_bud_count an_bud_count : Option Addr} {sl_bud_count : Array (Option Value)} {oc_bud_count kV_bud_count dc_bud_count pm_bud_count cd_bud_count ct_bud_count : Value} {f_bud_count : Addr}
    {od_unlike_rows an_unlike_rows : Option Addr} {sl_unlike_rows : Array (Option Value)} {oc_unlike_rows kV_unlike_rows dc_unlike_rows pm_unlike_rows cd_unlike_rows ct_unlike_rows : Value} {f_unlike_rows : Addr}
    {od_pair_bars an_pair_bars : Option Addr} {sl_pair_bars : Array (Option Value)} {oc_pair_bars kV_pair_bars dc_pair_bars pm_pair_bars cd_pair_bars ct_pair_bars : Value} {f_pair_bars : Addr}
    {od_ring_bars an_ring_bars : Option Addr} {sl_ring_bars : Array (Option Value)} {oc_ring_bars kV_ring_bars dc_ring_bars pm_ring_bars cd_ring_bars ct_ring_bars : Value} {f_ring_bars : Addr}
    {od_barred an_barred : Option Addr} {sl_barred : Array (Option Value)} {oc_barred kV_barred dc_barred pm_barred cd_barred ct_barred : Value} {f_barred : Addr}
    {od_turned_row an_turned_row : Option Addr} {sl_turned_row : Array (Option Value)} {oc_turned_row kV_turned_row dc_turned_row pm_turned_row cd_turned_row ct_turned_row : Value} {f_turned_row : Addr}
    {od_turned_table an_turned_table : Option Addr} {sl_turned_table : Array (Option Value)} {oc_turned_table kV_turned_table dc_turned_table pm_turned_table cd_turned_table ct_turned_table : Value} {f_turned_table : Addr}
    {od_side_worth an_side_worth : Option Addr} {sl_side_worth : Array (Option Value)} {oc_side_worth kV_side_worth dc_side_worth pm_side_worth cd_side_worth ct_side_worth : Value} {f_side_worth : Addr}
    {od_new_worth an_new_worth : Option Addr} {sl_new_worth : Array (Option Value)} {oc_new_worth kV_new_worth dc_new_worth pm_new_worth cd_new_worth ct_new_worth : Value} {f_new_worth : Addr}
    {od_worth_step an_worth_step : Option Addr} {sl_worth_step : Array (Option Value)} {oc_worth_step kV_worth_step dc_worth_step pm_worth_step cd_worth_step ct_worth_step : Value} {f_worth_step : Addr}
    {od_frieze an_frieze : Option Addr} {sl_frieze : Array (Option Value)} {oc_frieze kV_frieze dc_frieze pm_frieze cd_frieze ct_frieze : Value} {f_frieze : Addr}
    {od_law_feed an_law_feed : Option Addr} {sl_law_feed : Array (Option Value)} {oc_law_feed kV_law_feed dc_law_feed pm_law_feed cd_law_feed ct_law_feed : Value} {f_law_feed : Addr}
    {od_law_draw an_law_draw : Option Addr} {sl_law_draw : Array (Option Value)} {oc_law_draw kV_law_draw dc_law_draw pm_law_draw cd_law_draw ct_law_draw : Value} {f_law_draw : Addr}
    {od_law_pick an_law_pick : Option Addr} {sl_law_pick : Array (Option Value)} {oc_law_pick kV_law_pick dc_law_pick pm_law_pick cd_law_pick ct_law_pick : Value} {f_law_pick : Addr}
    {od_law_same an_law_same : Option Addr} {sl_law_same : Array (Option Value)} {oc_law_same kV_law_same dc_law_same pm_law_same cd_law_same ct_law_same : Value} {f_law_same : Addr}
    {od_law_word an_law_word : Option Addr} {sl_law_word : Array (Option Value)} {oc_law_word kV_law_word dc_law_word pm_law_word cd_law_word ct_law_word : Value} {f_law_word : Addr}
    {od_law_gcd an_law_gcd : Option Addr} {sl_law_gcd : Array (Option Value)} {oc_law_gcd kV_law_gcd dc_law_gcd pm_law_gcd cd_law_gcd ct_law_gcd : Value} {f_law_gcd : Addr}
    {od_law_low an_law_low : Option Addr} {sl_law_low : Array (Option Value)} {oc_law_low kV_law_low dc_law_low pm_law_low cd_law_low ct_law_low : Value} {f_law_low : Addr}
    {od_law_add an_law_add : Option Addr} {sl_law_add : Array (Option Value)} {oc_law_add kV_law_add dc_law_add pm_law_add cd_law_add ct_law_add : Value} {f_law_add : Addr}
    {od_law_div an_law_div : Option Addr} {sl_law_div : Array (Option Value)} {oc_law_div kV_law_div dc_law_div pm_law_div cd_law_div ct_law_div : Value} {f_law_div : Addr}
    {od_law_pow an_law_pow : Option Addr} {sl_law_pow : Array (Option Value)} {oc_law_pow kV_law_pow dc_law_pow pm_law_pow cd_law_pow ct_law_pow : Value} {f_law_pow : Addr}
    {od_law_turn an_law_turn : Option Addr} {sl_law_turn : Array (Option Value)} {oc_law_turn kV_law_turn dc_law_turn pm_law_turn cd_law_turn ct_law_turn : Value} {f_law_turn : Addr}
    {od_law_wide_ties an_law_wide_ties : Option Addr} {sl_law_wide_ties : Array (Option Value)} {oc_law_wide_ties kV_law_wide_ties dc_law_wide_ties pm_law_wide_ties cd_law_wide_ties ct_law_wide_ties : Value} {f_law_wide_ties : Addr}
    {od_law_both an_law_both : Option Addr} {sl_law_both : Array (Option Value)} {oc_law_both kV_law_both dc_law_both pm_law_both cd_law_both ct_law_both : Value} {f_law_both : Addr}
    {od_law_step an_law_step : Option Addr} {sl_law_step : Array (Option Value)} {oc_law_step kV_law_step dc_law_step pm_law_step cd_law_step ct_law_step : Value} {f_law_step : Addr}
    {od_law_even an_law_even : Option Addr} {sl_law_even : Array (Option Value)} {oc_law_even kV_law_even dc_law_even pm_law_even cd_law_even ct_law_even : Value} {f_law_even : Addr}
    {od_law_roots an_law_roots : Option Addr} {sl_law_roots : Array (Option Value)} {oc_law_roots kV_law_roots dc_law_roots pm_law_roots cd_law_roots ct_law_roots : Value} {f_law_roots : Addr}
    {od_law_small an_law_small : Option Addr} {sl_law_small : Array (Option Value)} {oc_law_small kV_law_small dc_law_small pm_law_small cd_law_small ct_law_small : Value} {f_law_small : Addr}
    {od_law an_law : Option Addr} {sl_law : Array (Option Value)} {oc_law kV_law dc_law pm_law ct_law : Value} {f_law : Addr}
    {cc_law Pt_law : Addr} {oc2_law : Value} {od2_law : Option Addr} {vs_law : Array Value} {sl2_law : Array (Option Value)}
    {od_bud_init an_bud_init : Option Addr} {sl_bud_init : Array (Option Value)} {oc_bud_init kV_bud_init dc_bud_init pm_bud_init cd_bud_init ct_bud_init : Value} {f_bud_init : Addr}
    {od_great_init an_great_init : Option Addr} {sl_great_init : Array (Option Value)} {oc_great_init kV_great_init dc_great_init pm_great_init cd_great_init ct_great_init : Value} {f_great_init : Addr}
    {t_MOST_TIE : Tok}
    {t_MOST_BUDS : Tok}
    {t_MOST_ROOTS : Tok}
    {t_GREAT_WORTH : Tok}
    {nm_Great q_Great : Str} {N_Great : Addr} {bs_Great : List Value} {sn_Great : List Str} {sub_Great : List Value} {ab_Great : Bool} {col_Great : Option Bool} {dd_Great : Option Addr} {m0_Great m1_Great m2_Great m3_Great m5_Great : Option Value}
    (a_BudError : PySem.W.nsIn K mainGlobals "BudError" = some (some (.ref C_BudError)))
    (a_Great : PySem.W.nsIn K mainGlobals "Great" = some (some (.ref C_Great)))
    (a_NoPart : PySem.W.nsIn K mainGlobals "NoPart" = some (some (.ref C_NoPart)))
    (a_NoPlace : PySem.W.nsIn K mainGlobals "NoPlace" = some (some (.ref C_NoPlace)))
    (a_Lacking : PySem.W.nsIn K mainGlobals "Lacking" = some (some (.ref C_Lacking)))
    (a_NothingLeft : PySem.W.nsIn K mainGlobals "NothingLeft" = some (some (.ref C_NothingLeft)))
    (a_common : PySem.W.nsIn K mainGlobals "common" = some (some (.ref f_common)))
    (l_common : K.lookup f_common = some ⟨oc_common, od_common, .func (PySem.W.fnOf "common" "common" (defArgs s_common) (defBody s_common) (defScope s_common) .none kV_common dc_common pm_common an_common cd_common ct_common), sl_common⟩)
    (c_common : PySem.W.codeIn K cd_common "common" = true)
    (k_common : PySem.W.keepIn K (.ref f_common) = true)
    (a_power_of : PySem.W.nsIn K mainGlobals "power_of" = some (some (.ref f_power_of)))
    (l_power_of : K.lookup f_power_of = some ⟨oc_power_of, od_power_of, .func (PySem.W.fnOf "power_of" "power_of" (defArgs s_power_of) (defBody s_power_of) (defScope s_power_of) .none kV_power_of dc_power_of pm_power_of an_power_of cd_power_of ct_power_of), sl_power_of⟩)
    (c_power_of : PySem.W.codeIn K cd_power_of "power_of" = true)
    (k_power_of : PySem.W.keepIn K (.ref f_power_of) = true)
    (a_lowest_terms : PySem.W.nsIn K mainGlobals "lowest_terms" = some (some (.ref f_lowest_terms)))
    (l_lowest_terms : K.lookup f_lowest_terms = some ⟨oc_lowest_terms, od_lowest_terms, .func (PySem.W.fnOf "lowest_terms" "lowest_terms" (defArgs s_lowest_terms) (defBody s_lowest_terms) (defScope s_lowest_terms) .none kV_lowest_terms dc_lowest_terms pm_lowest_terms an_lowest_terms cd_lowest_terms ct_lowest_terms), sl_lowest_terms⟩)
    (c_lowest_terms : PySem.W.codeIn K cd_lowest_terms "lowest_terms" = true)
    (k_lowest_terms : PySem.W.keepIn K (.ref f_lowest_terms) = true)
    (a_is_number : PySem.W.nsIn K mainGlobals "is_number" = some (some (.ref f_is_number)))
    (l_is_number : K.lookup f_is_number = some ⟨oc_is_number, od_is_number, .func (PySem.W.fnOf "is_number" "is_number" (defArgs s_is_number) (defBody s_is_number) (defScope s_is_number) .none kV_is_number dc_is_number pm_is_number an_is_number cd_is_number ct_is_number), sl_is_number⟩)
    (c_is_number : PySem.W.codeIn K cd_is_number "is_number" = true)
    (k_is_number : PySem.W.keepIn K (.ref f_is_number) = true)
    (a_is_row : PySem.W.nsIn K mainGlobals "is_row" = some (some (.ref f_is_row)))
    (l_is_row : K.lookup f_is_row = some ⟨oc_is_row, od_is_row, .func (PySem.W.fnOf "is_row" "is_row" (defArgs s_is_row) (defBody s_is_row) (defScope s_is_row) .none kV_is_row dc_is_row pm_is_row an_is_row cd_is_row ct_is_row), sl_is_row⟩)
    (c_is_row : PySem.W.codeIn K cd_is_row "is_row" = true)
    (k_is_row : PySem.W.keepIn K (.ref f_is_row) = true)
    (a_check_form : PySem.W.nsIn K mainGlobals "check_form" = some (some (.ref f_check_form)))
    (l_check_form : K.lookup f_check_form = some ⟨oc_check_form, od_check_form, .func (PySem.W.fnOf "check_form" "check_form" (defArgs s_check_form) (defBody s_check_form) (defScope s_check_form) .none kV_check_form dc_check_form pm_check_form an_check_form cd_check_form ct_check_form), sl_check_form⟩)
    (c_check_form : PySem.W.codeIn K cd_check_form "check_form" = true)
    (k_check_form : PySem.W.keepIn K (.ref f_check_form) = true)
    (a_check_table : PySem.W.nsIn K mainGlobals "check_table" = some (some (.ref f_check_table)))
    (l_check_table : K.lookup f_check_table = some ⟨oc_check_table, od_check_table, .func (PySem.W.fnOf "check_table" "check_table" (defArgs s_check_table) (defBody s_check_table) (defScope s_check_table) .none kV_check_table dc_check_table pm_check_table an_check_table cd_check_table ct_check_table), sl_check_table⟩)
    (c_check_table : PySem.W.codeIn K cd_check_table "check_table" = true)
    (k_check_table : PySem.W.keepIn K (.ref f_check_table) = true)
    (a_check_bud : PySem.W.nsIn K mainGlobals "check_bud" = some (some (.ref f_check_bud)))
    (l_check_bud : K.lookup f_check_bud = some ⟨oc_check_bud, od_check_bud, .func (PySem.W.fnOf "check_bud" "check_bud" (defArgs s_check_bud) (defBody s_check_bud) (defScope s_check_bud) .none kV_check_bud dc_check_bud pm_check_bud an_check_bud cd_check_bud ct_check_bud), sl_check_bud⟩)
    (c_check_bud : PySem.W.codeIn K cd_check_bud "check_bud" = true)
    (k_check_bud : PySem.W.keepIn K (.ref f_check_bud) = true)
    (a_bud_count : PySem.W.nsIn K mainGlobals "bud_count" = some (some (.ref f_bud_count)))
    (l_bud_count : K.lookup f_bud_count = some ⟨oc_bud_count, od_bud_count, .func (PySem.W.fnOf "bud_count" "bud_count" (defArgs s_bud_count) (defBody s_bud_count) (defScope s_bud_count) .none kV_bud_count dc_bud_count pm_bud_count an_bud_count cd_bud_count ct_bud_count), sl_bud_count⟩)
    (c_bud_count : PySem.W.codeIn K cd_bud_count "bud_count" = true)
    (k_bud_count : PySem.W.keepIn K (.ref f_bud_count) = true)
    (a_unlike_rows : PySem.W.nsIn K mainGlobals "unlike_rows" = some (some (.ref f_unlike_rows)))
    (l_unlike_rows : K.lookup f_unlike_rows = some ⟨oc_unlike_rows, od_unlike_rows, .func (PySem.W.fnOf "unlike_rows" "unlike_rows" (defArgs s_unlike_rows) (defBody s_unlike_rows) (defScope s_unlike_rows) .none kV_unlike_rows dc_unlike_rows pm_unlike_rows an_unlike_rows cd_unlike_rows ct_unlike_rows), sl_unlike_rows⟩)
    (c_unlike_rows : PySem.W.codeIn K cd_unlike_rows "unlike_rows" = true)
    (k_unlike_rows : PySem.W.keepIn K (.ref f_unlike_rows) = true)
    (a_pair_bars : PySem.W.nsIn K mainGlobals "pair_bars" = some (some (.ref f_pair_bars)))
    (l_pair_bars : K.lookup f_pair_bars = some ⟨oc_pair_bars, od_pair_bars, .func (PySem.W.fnOf "pair_bars" "pair_bars" (defArgs s_pair_bars) (defBody s_pair_bars) (defScope s_pair_bars) .none kV_pair_bars dc_pair_bars pm_pair_bars an_pair_bars cd_pair_bars ct_pair_bars), sl_pair_bars⟩)
    (c_pair_bars : PySem.W.codeIn K cd_pair_bars "pair_bars" = true)
    (k_pair_bars : PySem.W.keepIn K (.ref f_pair_bars) = true)
    (a_ring_bars : PySem.W.nsIn K mainGlobals "ring_bars" = some (some (.ref f_ring_bars)))
    (l_ring_bars : K.lookup f_ring_bars = some ⟨oc_ring_bars, od_ring_bars, .func (PySem.W.fnOf "ring_bars" "ring_bars" (defArgs s_ring_bars) (defBody s_ring_bars) (defScope s_ring_bars) .none kV_ring_bars dc_ring_bars pm_ring_bars an_ring_bars cd_ring_bars ct_ring_bars), sl_ring_bars⟩)
    (c_ring_bars : PySem.W.codeIn K cd_ring_bars "ring_bars" = true)
    (k_ring_bars : PySem.W.keepIn K (.ref f_ring_bars) = true)
    (a_barred : PySem.W.nsIn K mainGlobals "barred" = some (some (.ref f_barred)))
    (l_barred : K.lookup f_barred = some ⟨oc_barred, od_barred, .func (PySem.W.fnOf "barred" "barred" (defArgs s_barred) (defBody s_barred) (defScope s_barred) .none kV_barred dc_barred pm_barred an_barred cd_barred ct_barred), sl_barred⟩)
    (c_barred : PySem.W.codeIn K cd_barred "barred" = true)
    (k_barred : PySem.W.keepIn K (.ref f_barred) = true)
    (a_turned_row : PySem.W.nsIn K mainGlobals "turned_row" = some (some (.ref f_turned_row)))
    (l_turned_row : K.lookup f_turned_row = some ⟨oc_turned_row, od_turned_row, .func (PySem.W.fnOf "turned_row" "turned_row" (defArgs s_turned_row) (defBody s_turned_row) (defScope s_turned_row) .none kV_turned_row dc_turned_row pm_turned_row an_turned_row cd_turned_row ct_turned_row), sl_turned_row⟩)
    (c_turned_row : PySem.W.codeIn K cd_turned_row "turned_row" = true)
    (k_turned_row : PySem.W.keepIn K (.ref f_turned_row) = true)
    (a_turned_table : PySem.W.nsIn K mainGlobals "turned_table" = some (some (.ref f_turned_table)))
    (l_turned_table : K.lookup f_turned_table = some ⟨oc_turned_table, od_turned_table, .func (PySem.W.fnOf "turned_table" "turned_table" (defArgs s_turned_table) (defBody s_turned_table) (defScope s_turned_table) .none kV_turned_table dc_turned_table pm_turned_table an_turned_table cd_turned_table ct_turned_table), sl_turned_table⟩)
    (c_turned_table : PySem.W.codeIn K cd_turned_table "turned_table" = true)
    (k_turned_table : PySem.W.keepIn K (.ref f_turned_table) = true)
    (a_side_worth : PySem.W.nsIn K mainGlobals "side_worth" = some (some (.ref f_side_worth)))
    (l_side_worth : K.lookup f_side_worth = some ⟨oc_side_worth, od_side_worth, .func (PySem.W.fnOf "side_worth" "side_worth" (defArgs s_side_worth) (defBody s_side_worth) (defScope s_side_worth) .none kV_side_worth dc_side_worth pm_side_worth an_side_worth cd_side_worth ct_side_worth), sl_side_worth⟩)
    (c_side_worth : PySem.W.codeIn K cd_side_worth "side_worth" = true)
    (k_side_worth : PySem.W.keepIn K (.ref f_side_worth) = true)
    (a_new_worth : PySem.W.nsIn K mainGlobals "new_worth" = some (some (.ref f_new_worth)))
    (l_new_worth : K.lookup f_new_worth = some ⟨oc_new_worth, od_new_worth, .func (PySem.W.fnOf "new_worth" "new_worth" (defArgs s_new_worth) (defBody s_new_worth) (defScope s_new_worth) .none kV_new_worth dc_new_worth pm_new_worth an_new_worth cd_new_worth ct_new_worth), sl_new_worth⟩)
    (c_new_worth : PySem.W.codeIn K cd_new_worth "new_worth" = true)
    (k_new_worth : PySem.W.keepIn K (.ref f_new_worth) = true)
    (a_worth_step : PySem.W.nsIn K mainGlobals "worth_step" = some (some (.ref f_worth_step)))
    (l_worth_step : K.lookup f_worth_step = some ⟨oc_worth_step, od_worth_step, .func (PySem.W.fnOf "worth_step" "worth_step" (defArgs s_worth_step) (defBody s_worth_step) (defScope s_worth_step) .none kV_worth_step dc_worth_step pm_worth_step an_worth_step cd_worth_step ct_worth_step), sl_worth_step⟩)
    (c_worth_step : PySem.W.codeIn K cd_worth_step "worth_step" = true)
    (k_worth_step : PySem.W.keepIn K (.ref f_worth_step) = true)
    (a_frieze : PySem.W.nsIn K mainGlobals "frieze" = some (some (.ref f_frieze)))
    (l_frieze : K.lookup f_frieze = some ⟨oc_frieze, od_frieze, .func (PySem.W.fnOf "frieze" "frieze" (defArgs s_frieze) (defBody s_frieze) (defScope s_frieze) .none kV_frieze dc_frieze pm_frieze an_frieze cd_frieze ct_frieze), sl_frieze⟩)
    (c_frieze : PySem.W.codeIn K cd_frieze "frieze" = true)
    (k_frieze : PySem.W.keepIn K (.ref f_frieze) = true)
    (a_law_feed : PySem.W.nsIn K mainGlobals "_law_feed" = some (some (.ref f_law_feed)))
    (l_law_feed : K.lookup f_law_feed = some ⟨oc_law_feed, od_law_feed, .func (PySem.W.fnOf "_law_feed" "_law_feed" (defArgs s_law_feed) (defBody s_law_feed) (defScope s_law_feed) .none kV_law_feed dc_law_feed pm_law_feed an_law_feed cd_law_feed ct_law_feed), sl_law_feed⟩)
    (c_law_feed : PySem.W.codeIn K cd_law_feed "_law_feed" = true)
    (k_law_feed : PySem.W.keepIn K (.ref f_law_feed) = true)
    (a_law_draw : PySem.W.nsIn K mainGlobals "_law_draw" = some (some (.ref f_law_draw)))
    (l_law_draw : K.lookup f_law_draw = some ⟨oc_law_draw, od_law_draw, .func (PySem.W.fnOf "_law_draw" "_law_draw" (defArgs s_law_draw) (defBody s_law_draw) (defScope s_law_draw) .none kV_law_draw dc_law_draw pm_law_draw an_law_draw cd_law_draw ct_law_draw), sl_law_draw⟩)
    (c_law_draw : PySem.W.codeIn K cd_law_draw "_law_draw" = true)
    (k_law_draw : PySem.W.keepIn K (.ref f_law_draw) = true)
    (a_law_pick : PySem.W.nsIn K mainGlobals "_law_pick" = some (some (.ref f_law_pick)))
    (l_law_pick : K.lookup f_law_pick = some ⟨oc_law_pick, od_law_pick, .func (PySem.W.fnOf "_law_pick" "_law_pick" (defArgs s_law_pick) (defBody s_law_pick) (defScope s_law_pick) .none kV_law_pick dc_law_pick pm_law_pick an_law_pick cd_law_pick ct_law_pick), sl_law_pick⟩)
    (c_law_pick : PySem.W.codeIn K cd_law_pick "_law_pick" = true)
    (k_law_pick : PySem.W.keepIn K (.ref f_law_pick) = true)
    (a_law_same : PySem.W.nsIn K mainGlobals "_law_same" = some (some (.ref f_law_same)))
    (l_law_same : K.lookup f_law_same = some ⟨oc_law_same, od_law_same, .func (PySem.W.fnOf "_law_same" "_law_same" (defArgs s_law_same) (defBody s_law_same) (defScope s_law_same) .none kV_law_same dc_law_same pm_law_same an_law_same cd_law_same ct_law_same), sl_law_same⟩)
    (c_law_same : PySem.W.codeIn K cd_law_same "_law_same" = true)
    (k_law_same : PySem.W.keepIn K (.ref f_law_same) = true)
    (a_law_word : PySem.W.nsIn K mainGlobals "_law_word" = some (some (.ref f_law_word)))
    (l_law_word : K.lookup f_law_word = some ⟨oc_law_word, od_law_word, .func (PySem.W.fnOf "_law_word" "_law_word" (defArgs s_law_word) (defBody s_law_word) (defScope s_law_word) .none kV_law_word dc_law_word pm_law_word an_law_word cd_law_word ct_law_word), sl_law_word⟩)
    (c_law_word : PySem.W.codeIn K cd_law_word "_law_word" = true)
    (k_law_word : PySem.W.keepIn K (.ref f_law_word) = true)
    (a_law_gcd : PySem.W.nsIn K mainGlobals "_law_gcd" = some (some (.ref f_law_gcd)))
    (l_law_gcd : K.lookup f_law_gcd = some ⟨oc_law_gcd, od_law_gcd, .func (PySem.W.fnOf "_law_gcd" "_law_gcd" (defArgs s_law_gcd) (defBody s_law_gcd) (defScope s_law_gcd) .none kV_law_gcd dc_law_gcd pm_law_gcd an_law_gcd cd_law_gcd ct_law_gcd), sl_law_gcd⟩)
    (c_law_gcd : PySem.W.codeIn K cd_law_gcd "_law_gcd" = true)
    (k_law_gcd : PySem.W.keepIn K (.ref f_law_gcd) = true)
    (a_law_low : PySem.W.nsIn K mainGlobals "_law_low" = some (some (.ref f_law_low)))
    (l_law_low : K.lookup f_law_low = some ⟨oc_law_low, od_law_low, .func (PySem.W.fnOf "_law_low" "_law_low" (defArgs s_law_low) (defBody s_law_low) (defScope s_law_low) .none kV_law_low dc_law_low pm_law_low an_law_low cd_law_low ct_law_low), sl_law_low⟩)
    (c_law_low : PySem.W.codeIn K cd_law_low "_law_low" = true)
    (k_law_low : PySem.W.keepIn K (.ref f_law_low) = true)
    (a_law_add : PySem.W.nsIn K mainGlobals "_law_add" = some (some (.ref f_law_add)))
    (l_law_add : K.lookup f_law_add = some ⟨oc_law_add, od_law_add, .func (PySem.W.fnOf "_law_add" "_law_add" (defArgs s_law_add) (defBody s_law_add) (defScope s_law_add) .none kV_law_add dc_law_add pm_law_add an_law_add cd_law_add ct_law_add), sl_law_add⟩)
    (c_law_add : PySem.W.codeIn K cd_law_add "_law_add" = true)
    (k_law_add : PySem.W.keepIn K (.ref f_law_add) = true)
    (a_law_div : PySem.W.nsIn K mainGlobals "_law_div" = some (some (.ref f_law_div)))
    (l_law_div : K.lookup f_law_div = some ⟨oc_law_div, od_law_div, .func (PySem.W.fnOf "_law_div" "_law_div" (defArgs s_law_div) (defBody s_law_div) (defScope s_law_div) .none kV_law_div dc_law_div pm_law_div an_law_div cd_law_div ct_law_div), sl_law_div⟩)
    (c_law_div : PySem.W.codeIn K cd_law_div "_law_div" = true)
    (k_law_div : PySem.W.keepIn K (.ref f_law_div) = true)
    (a_law_pow : PySem.W.nsIn K mainGlobals "_law_pow" = some (some (.ref f_law_pow)))
    (l_law_pow : K.lookup f_law_pow = some ⟨oc_law_pow, od_law_pow, .func (PySem.W.fnOf "_law_pow" "_law_pow" (defArgs s_law_pow) (defBody s_law_pow) (defScope s_law_pow) .none kV_law_pow dc_law_pow pm_law_pow an_law_pow cd_law_pow ct_law_pow), sl_law_pow⟩)
    (c_law_pow : PySem.W.codeIn K cd_law_pow "_law_pow" = true)
    (k_law_pow : PySem.W.keepIn K (.ref f_law_pow) = true)
    (a_law_turn : PySem.W.nsIn K mainGlobals "_law_turn" = some (some (.ref f_law_turn)))
    (l_law_turn : K.lookup f_law_turn = some ⟨oc_law_turn, od_law_turn, .func (PySem.W.fnOf "_law_turn" "_law_turn" (defArgs s_law_turn) (defBody s_law_turn) (defScope s_law_turn) .none kV_law_turn dc_law_turn pm_law_turn an_law_turn cd_law_turn ct_law_turn), sl_law_turn⟩)
    (c_law_turn : PySem.W.codeIn K cd_law_turn "_law_turn" = true)
    (k_law_turn : PySem.W.keepIn K (.ref f_law_turn) = true)
    (a_law_wide_ties : PySem.W.nsIn K mainGlobals "_law_wide_ties" = some (some (.ref f_law_wide_ties)))
    (l_law_wide_ties : K.lookup f_law_wide_ties = some ⟨oc_law_wide_ties, od_law_wide_ties, .func (PySem.W.fnOf "_law_wide_ties" "_law_wide_ties" (defArgs s_law_wide_ties) (defBody s_law_wide_ties) (defScope s_law_wide_ties) .none kV_law_wide_ties dc_law_wide_ties pm_law_wide_ties an_law_wide_ties cd_law_wide_ties ct_law_wide_ties), sl_law_wide_ties⟩)
    (c_law_wide_ties : PySem.W.codeIn K cd_law_wide_ties "_law_wide_ties" = true)
    (k_law_wide_ties : PySem.W.keepIn K (.ref f_law_wide_ties) = true)
    (a_law_both : PySem.W.nsIn K mainGlobals "_law_both" = some (some (.ref f_law_both)))
    (l_law_both : K.lookup f_law_both = some ⟨oc_law_both, od_law_both, .func (PySem.W.fnOf "_law_both" "_law_both" (defArgs s_law_both) (defBody s_law_both) (defScope s_law_both) .none kV_law_both dc_law_both pm_law_both an_law_both cd_law_both ct_law_both), sl_law_both⟩)
    (c_law_both : PySem.W.codeIn K cd_law_both "_law_both" = true)
    (k_law_both : PySem.W.keepIn K (.ref f_law_both) = true)
    (a_law_step : PySem.W.nsIn K mainGlobals "_law_step" = some (some (.ref f_law_step)))
    (l_law_step : K.lookup f_law_step = some ⟨oc_law_step, od_law_step, .func (PySem.W.fnOf "_law_step" "_law_step" (defArgs s_law_step) (defBody s_law_step) (defScope s_law_step) .none kV_law_step dc_law_step pm_law_step an_law_step cd_law_step ct_law_step), sl_law_step⟩)
    (c_law_step : PySem.W.codeIn K cd_law_step "_law_step" = true)
    (k_law_step : PySem.W.keepIn K (.ref f_law_step) = true)
    (a_law_even : PySem.W.nsIn K mainGlobals "_law_even" = some (some (.ref f_law_even)))
    (l_law_even : K.lookup f_law_even = some ⟨oc_law_even, od_law_even, .func (PySem.W.fnOf "_law_even" "_law_even" (defArgs s_law_even) (defBody s_law_even) (defScope s_law_even) .none kV_law_even dc_law_even pm_law_even an_law_even cd_law_even ct_law_even), sl_law_even⟩)
    (c_law_even : PySem.W.codeIn K cd_law_even "_law_even" = true)
    (k_law_even : PySem.W.keepIn K (.ref f_law_even) = true)
    (a_law_roots : PySem.W.nsIn K mainGlobals "_law_roots" = some (some (.ref f_law_roots)))
    (l_law_roots : K.lookup f_law_roots = some ⟨oc_law_roots, od_law_roots, .func (PySem.W.fnOf "_law_roots" "_law_roots" (defArgs s_law_roots) (defBody s_law_roots) (defScope s_law_roots) .none kV_law_roots dc_law_roots pm_law_roots an_law_roots cd_law_roots ct_law_roots), sl_law_roots⟩)
    (c_law_roots : PySem.W.codeIn K cd_law_roots "_law_roots" = true)
    (k_law_roots : PySem.W.keepIn K (.ref f_law_roots) = true)
    (a_law_small : PySem.W.nsIn K mainGlobals "_law_small" = some (some (.ref f_law_small)))
    (l_law_small : K.lookup f_law_small = some ⟨oc_law_small, od_law_small, .func (PySem.W.fnOf "_law_small" "_law_small" (defArgs s_law_small) (defBody s_law_small) (defScope s_law_small) .none kV_law_small dc_law_small pm_law_small an_law_small cd_law_small ct_law_small), sl_law_small⟩)
    (c_law_small : PySem.W.codeIn K cd_law_small "_law_small" = true)
    (k_law_small : PySem.W.keepIn K (.ref f_law_small) = true)
    (a_law : PySem.W.nsIn K mainGlobals "law" = some (some (.ref f_law)))
    (l_law : K.lookup f_law = some ⟨oc_law, od_law, .func (PySem.W.fnOf "law" "law" (defArgs s_law) (defBody s_law) (defScope s_law) .none kV_law dc_law pm_law an_law (.ref cc_law) ct_law), sl_law⟩)
    (c_law : PySem.W.codeIn K (.ref cc_law) "law" = true)
    (k_law : PySem.W.keepIn K (.ref f_law) = true)
    (a_bud_init : PySem.W.findIn K (.ref C_BudError) "__init__" = some (some (.ref f_bud_init)))
    (l_bud_init : K.lookup f_bud_init = some ⟨oc_bud_init, od_bud_init, .func (PySem.W.fnOf "__init__" "BudError.__init__" (defArgs s_bud_init) (defBody s_bud_init) (defScope s_bud_init) .none kV_bud_init dc_bud_init pm_bud_init an_bud_init cd_bud_init ct_bud_init), sl_bud_init⟩)
    (c_bud_init : PySem.W.codeIn K cd_bud_init "BudError.__init__" = true)
    (k_bud_init : PySem.W.keepIn K (.ref f_bud_init) = true)
    (a_great_init : PySem.W.findIn K (.ref C_Great) "__init__" = some (some (.ref f_great_init)))
    (l_great_init : K.lookup f_great_init = some ⟨oc_great_init, od_great_init, .func (PySem.W.fnOf "__init__" "Great.__init__" (defArgs s_great_init) (defBody s_great_init) (defScope s_great_init) .none kV_great_init dc_great_init pm_great_init an_great_init cd_great_init ct_great_init), sl_great_init⟩)
    (c_great_init : PySem.W.codeIn K cd_great_init "Great.__init__" = true)
    (k_great_init : PySem.W.keepIn K (.ref f_great_init) = true)
    (z_len : PySem.W.nsIn K mainGlobals "len" = some none)
    (z_range : PySem.W.nsIn K mainGlobals "range" = some none)
    (z_zip : PySem.W.nsIn K mainGlobals "zip" = some none)
    (z_abs : PySem.W.nsIn K mainGlobals "abs" = some none)
    (z_all : PySem.W.nsIn K mainGlobals "all" = some none)
    (z_any : PySem.W.nsIn K mainGlobals "any" = some none)
    (z_max : PySem.W.nsIn K mainGlobals "max" = some none)
    (z_min : PySem.W.nsIn K mainGlobals "min" = some none)
    (z_sorted : PySem.W.nsIn K mainGlobals "sorted" = some none)
    (z_isinstance : PySem.W.nsIn K mainGlobals "isinstance" = some none)
    (z_int : PySem.W.nsIn K mainGlobals "int" = some none)
    (z_bool : PySem.W.nsIn K mainGlobals "bool" = some none)
    (z_tuple : PySem.W.nsIn K mainGlobals "tuple" = some none)
    (z_list : PySem.W.nsIn K mainGlobals "list" = some none)
    (z_dict : PySem.W.nsIn K mainGlobals "dict" = some none)
    (z_str : PySem.W.nsIn K mainGlobals "str" = some none)
    (z_ValueError : PySem.W.nsIn K mainGlobals "ValueError" = some none)
    (z_IndexError : PySem.W.nsIn K mainGlobals "IndexError" = some none)
    (z_enumerate : PySem.W.nsIn K mainGlobals "enumerate" = some none)
    (z_sum : PySem.W.nsIn K mainGlobals "sum" = some none)
    (i_MOST_TIE : PySem.W.nsIn K mainGlobals "MOST_TIE" = some (some (.int 50 t_MOST_TIE)))
    (i_MOST_BUDS : PySem.W.nsIn K mainGlobals "MOST_BUDS" = some (some (.int 4 t_MOST_BUDS)))
    (i_MOST_ROOTS : PySem.W.nsIn K mainGlobals "MOST_ROOTS" = some (some (.int 4 t_MOST_ROOTS)))
    (i_GREAT_WORTH : PySem.W.nsIn K mainGlobals "GREAT_WORTH" = some (some (.int 1000000000000000000000000000000000000000000000000000000000000 t_GREAT_WORTH)))
    (sg : PySem.W.specialIn K (.ref C_BudError) "__getattribute__" = some (some (.builtin "type.__getattribute__")))
    (tyB : PySem.W.typeIn K (.ref C_BudError) = some (.type "type"))
    (rdB : PySem.W.readsIn K C_BudError (.type "type") = true)
    (fcB : PySem.W.findCls K (.ref C_BudError) (.type "type") "__init__" = some (.val (.ref f_bud_init)))
    (vv : PySem.W.findCls K (.type "ValueError") (.type "type") "__init__" = some (.val (.builtin "ValueError.__init__")))
    (eB : PySem.W.subIn K (.ref C_BudError) (.type "BaseException") = some true)
    (hB : PySem.W.hasDictIn K C_BudError = true)
    (eC_NoPart : PySem.W.subIn K (.ref C_NoPart) (.type "BaseException") = some true)
    (tC_NoPart : PySem.W.typeIn K (.ref C_NoPart) = some (.type "type"))
    (hC_NoPart : PySem.W.hasDictIn K C_NoPart = true)
    (eC_NoPlace : PySem.W.subIn K (.ref C_NoPlace) (.type "BaseException") = some true)
    (tC_NoPlace : PySem.W.typeIn K (.ref C_NoPlace) = some (.type "type"))
    (hC_NoPlace : PySem.W.hasDictIn K C_NoPlace = true)
    (eC_Lacking : PySem.W.subIn K (.ref C_Lacking) (.type "BaseException") = some true)
    (tC_Lacking : PySem.W.typeIn K (.ref C_Lacking) = some (.type "type"))
    (hC_Lacking : PySem.W.hasDictIn K C_Lacking = true)
    (eC_NothingLeft : PySem.W.subIn K (.ref C_NothingLeft) (.type "BaseException") = some true)
    (tC_NothingLeft : PySem.W.typeIn K (.ref C_NothingLeft) = some (.type "type"))
    (hC_NothingLeft : PySem.W.hasDictIn K C_NothingLeft = true)
    (xL_Great : K.lookup C_Great = some (excClassObj nm_Great q_Great C_Great N_Great bs_Great [.ref C_BudError, .type "ValueError", .type "Exception", .type "BaseException", .type "object"] true sn_Great sub_Great ab_Great col_Great dd_Great m0_Great m1_Great m2_Great m3_Great m5_Great "ValueError.__new__"))
    (sa_Great : PySem.W.findIn K (.ref C_Great) "__setattr__" = some (some (.builtin "object.__setattr__")))
    (ga_Great : PySem.W.findIn K (.ref C_Great) "__getattribute__" = some (some (.builtin "BaseException.__getattribute__")))
    (gg_Great : PySem.W.findIn K (.ref C_Great) "__getattr__" = some none)
    (nw_Great : PySem.W.findIn K (.ref C_Great) "word" = some none)
    (tI_Great : PySem.W.typeIn K (.ref f_great_init) = some (.type "function"))
    (kC_Great : PySem.W.keepIn K (.ref C_Great) = true)
    (eC_Great : PySem.W.subIn K (.ref C_Great) (.type "BaseException") = some true)
    (tC_Great : PySem.W.typeIn K (.ref C_Great) = some (.type "type"))
    (hC_Great : PySem.W.hasDictIn K C_Great = true)
    (sC_Great : PySem.W.subIn K (.ref C_Great) (.ref C_BudError) = some true)
    (sl_Great : PySem.W.subIn K (.ref C_Great) (.ref C_Great) = some true)
    (cl_law : K.lookup cc_law = some ⟨oc2_law, od2_law, .fields vs_law, sl2_law⟩)
    (v11_law : vs_law[11]? = some (.ref Pt_law))
    (hd_law : PySem.W.codeHdIn K cc_law Pt_law = true)
    (nP_law : K.lookup Pt_law = none)
    : LamX.LawAtS l w K CX0 10 63 "_law_script" mg fa h := by
  have e := hfa.symm.trans (PySem.W.mg_of X G a_law)
  cases e
  have T : Tx mg := { len := PySem.W.mg_none_of X G z_len, range := PySem.W.mg_none_of X G z_range, zip := PySem.W.mg_none_of X G z_zip, abs := PySem.W.mg_none_of X G z_abs, all := PySem.W.mg_none_of X G z_all, any := PySem.W.mg_none_of X G z_any, max := PySem.W.mg_none_of X G z_max, min := PySem.W.mg_none_of X G z_min, sorted := PySem.W.mg_none_of X G z_sorted, isinstance := PySem.W.mg_none_of X G z_isinstance, int := PySem.W.mg_none_of X G z_int, bool := PySem.W.mg_none_of X G z_bool, tuple := PySem.W.mg_none_of X G z_tuple, list := PySem.W.mg_none_of X G z_list, dict := PySem.W.mg_none_of X G z_dict, str := PySem.W.mg_none_of X G z_str, ValueError := PySem.W.mg_none_of X G z_ValueError, IndexError := PySem.W.mg_none_of X G z_IndexError, enumerate := PySem.W.mg_none_of X G z_enumerate, sum := PySem.W.mg_none_of X G z_sum, MOST_TIE := ⟨_, PySem.W.mg_of X G i_MOST_TIE⟩, MOST_BUDS := ⟨_, PySem.W.mg_of X G i_MOST_BUDS⟩, MOST_ROOTS := ⟨_, PySem.W.mg_of X G i_MOST_ROOTS⟩, GREAT_WORTH := ⟨_, PySem.W.mg_of X G i_GREAT_WORTH⟩ }
  have F_common := fun_mk (st := s_common) l_common c_common k_common
  have b_common := F_common.binds (ps := ["one", "other"]) fun _ _ _ _ _ _ us hl => match us, hl with | [_, _], _ => rfl
  have F_power_of := fun_mk (st := s_power_of) l_power_of c_power_of k_power_of
  have b_power_of := F_power_of.binds (ps := ["base", "many"]) fun _ _ _ _ _ _ us hl => match us, hl with | [_, _], _ => rfl
  have F_lowest_terms := fun_mk (st := s_lowest_terms) l_lowest_terms c_lowest_terms k_lowest_terms
  have b_lowest_terms := F_lowest_terms.binds (ps := ["top", "under", "root"]) fun _ _ _ _ _ _ us hl => match us, hl with | [_, _, _], _ => rfl
  have F_is_number := fun_mk (st := s_is_number) l_is_number c_is_number k_is_number
  have b_is_number := F_is_number.binds (ps := ["thing"]) fun _ _ _ _ _ _ us hl => match us, hl with | [_], _ => rfl
  have F_is_row := fun_mk (st := s_is_row) l_is_row c_is_row k_is_row
  have b_is_row := F_is_row.binds (ps := ["row", "many"]) fun _ _ _ _ _ _ us hl => match us, hl with | [_, _], _ => rfl
  have F_check_form := fun_mk (st := s_check_form) l_check_form c_check_form k_check_form
  have b_check_form := F_check_form.binds (ps := ["table"]) fun _ _ _ _ _ _ us hl => match us, hl with | [_], _ => rfl
  have F_check_table := fun_mk (st := s_check_table) l_check_table c_check_table k_check_table
  have b_check_table := F_check_table.binds (ps := ["table"]) fun _ _ _ _ _ _ us hl => match us, hl with | [_], _ => rfl
  have F_check_bud := fun_mk (st := s_check_bud) l_check_bud c_check_bud k_check_bud
  have b_check_bud := F_check_bud.binds (ps := ["table", "place"]) fun _ _ _ _ _ _ us hl => match us, hl with | [_, _], _ => rfl
  have F_bud_count := fun_mk (st := s_bud_count) l_bud_count c_bud_count k_bud_count
  have b_bud_count := F_bud_count.binds (ps := ["table"]) fun _ _ _ _ _ _ us hl => match us, hl with | [_], _ => rfl
  have F_unlike_rows := fun_mk (st := s_unlike_rows) l_unlike_rows c_unlike_rows k_unlike_rows
  have b_unlike_rows := F_unlike_rows.binds (ps := ["many", "length"]) fun _ _ _ _ _ _ us hl => match us, hl with | [_, _], _ => rfl
  have F_pair_bars := fun_mk (st := s_pair_bars) l_pair_bars c_pair_bars k_pair_bars
  have b_pair_bars := F_pair_bars.binds (ps := ["table", "i", "j"]) fun _ _ _ _ _ _ us hl => match us, hl with | [_, _, _], _ => rfl
  have F_ring_bars := fun_mk (st := s_ring_bars) l_ring_bars c_ring_bars k_ring_bars
  have b_ring_bars := F_ring_bars.binds (ps := ["table", "ring"]) fun _ _ _ _ _ _ us hl => match us, hl with | [_, _], _ => rfl
  have F_barred := fun_mk (st := s_barred) l_barred c_barred k_barred
  have b_barred := F_barred.binds (ps := ["table"]) fun _ _ _ _ _ _ us hl => match us, hl with | [_], _ => rfl
  have F_turned_row := fun_mk (st := s_turned_row) l_turned_row c_turned_row k_turned_row
  have b_turned_row := F_turned_row.binds (ps := ["row", "up", "down", "place"]) fun _ _ _ _ _ _ us hl => match us, hl with | [_, _, _, _], _ => rfl
  have F_turned_table := fun_mk (st := s_turned_table) l_turned_table c_turned_table k_turned_table
  have b_turned_table := F_turned_table.binds (ps := ["table", "place"]) fun _ _ _ _ _ _ us hl => match us, hl with | [_, _], _ => rfl
  have F_side_worth := fun_mk (st := s_side_worth) l_side_worth c_side_worth k_side_worth
  have b_side_worth := F_side_worth.binds (ps := ["worths", "column"]) fun _ _ _ _ _ _ us hl => match us, hl with | [_, _], _ => rfl
  have F_new_worth := fun_mk (st := s_new_worth) l_new_worth c_new_worth k_new_worth
  have b_new_worth := F_new_worth.binds (ps := ["ties", "worths", "place"]) fun _ _ _ _ _ _ us hl => match us, hl with | [_, _, _], _ => rfl
  have F_worth_step := fun_mk (st := s_worth_step) l_worth_step c_worth_step k_worth_step
  have b_worth_step := F_worth_step.binds (ps := ["ties", "worths", "place"]) fun _ _ _ _ _ _ us hl => match us, hl with | [_, _, _], _ => rfl
  have F_frieze := fun_mk (st := s_frieze) l_frieze c_frieze k_frieze
  have b_frieze := F_frieze.binds (ps := ["table", "rounds"]) fun _ _ _ _ _ _ us hl => match us, hl with | [_, _], _ => rfl
  have F_law_feed := fun_mk (st := s_law_feed) l_law_feed c_law_feed k_law_feed
  have b_law_feed := F_law_feed.binds (ps := ["_law_script"]) fun _ _ _ _ _ _ us hl => match us, hl with | [_], _ => rfl
  have F_law_draw := fun_mk (st := s_law_draw) l_law_draw c_law_draw k_law_draw
  have b_law_draw := F_law_draw.binds (ps := ["_law_feed_here", "_law_many"]) fun _ _ _ _ _ _ us hl => match us, hl with | [_, _], _ => rfl
  have F_law_pick := fun_mk (st := s_law_pick) l_law_pick c_law_pick k_law_pick
  have b_law_pick := F_law_pick.binds (ps := ["_law_feed_here", "_law_row"]) fun _ _ _ _ _ _ us hl => match us, hl with | [_, _], _ => rfl
  have F_law_same := fun_mk (st := s_law_same) l_law_same c_law_same k_law_same
  have b_law_same := F_law_same.binds (ps := ["_law_found", "_law_due"]) fun _ _ _ _ _ _ us hl => match us, hl with | [_, _], _ => rfl
  have F_law_word := fun_mk (st := s_law_word) l_law_word c_law_word k_law_word
  have b_law_word := F_law_word.binds (ps := ["_law_asked"]) fun _ _ _ _ _ _ us hl => match us, hl with | [_], _ => rfl
  have F_law_gcd := fun_mk (st := s_law_gcd) l_law_gcd c_law_gcd k_law_gcd
  have b_law_gcd := F_law_gcd.binds (ps := ["_law_one", "_law_other"]) fun _ _ _ _ _ _ us hl => match us, hl with | [_, _], _ => rfl
  have F_law_low := fun_mk (st := s_law_low) l_law_low c_law_low k_law_low
  have b_law_low := F_law_low.binds (ps := ["_law_top", "_law_under"]) fun _ _ _ _ _ _ us hl => match us, hl with | [_, _], _ => rfl
  have F_law_add := fun_mk (st := s_law_add) l_law_add c_law_add k_law_add
  have b_law_add := F_law_add.binds (ps := ["_law_one", "_law_other"]) fun _ _ _ _ _ _ us hl => match us, hl with | [_, _], _ => rfl
  have F_law_div := fun_mk (st := s_law_div) l_law_div c_law_div k_law_div
  have b_law_div := F_law_div.binds (ps := ["_law_one", "_law_other"]) fun _ _ _ _ _ _ us hl => match us, hl with | [_, _], _ => rfl
  have F_law_pow := fun_mk (st := s_law_pow) l_law_pow c_law_pow k_law_pow
  have b_law_pow := F_law_pow.binds (ps := ["_law_one", "_law_many"]) fun _ _ _ _ _ _ us hl => match us, hl with | [_, _], _ => rfl
  have F_law_turn := fun_mk (st := s_law_turn) l_law_turn c_law_turn k_law_turn
  have b_law_turn := F_law_turn.binds (ps := ["_law_ties", "_law_place"]) fun _ _ _ _ _ _ us hl => match us, hl with | [_, _], _ => rfl
  have F_law_wide_ties := fun_mk (st := s_law_wide_ties) l_law_wide_ties c_law_wide_ties k_law_wide_ties
  have b_law_wide_ties := F_law_wide_ties.binds (ps := ["_law_ties"]) fun _ _ _ _ _ _ us hl => match us, hl with | [_], _ => rfl
  have F_law_both := fun_mk (st := s_law_both) l_law_both c_law_both k_law_both
  have b_law_both := F_law_both.binds (ps := ["_law_ties", "_law_worths", "_law_place"]) fun _ _ _ _ _ _ us hl => match us, hl with | [_, _, _], _ => rfl
  have F_law_step := fun_mk (st := s_law_step) l_law_step c_law_step k_law_step
  have b_law_step := F_law_step.binds (ps := ["_law_ties", "_law_worths", "_law_place"]) fun _ _ _ _ _ _ us hl => match us, hl with | [_, _, _], _ => rfl
  have F_law_even := fun_mk (st := s_law_even) l_law_even c_law_even k_law_even
  have b_law_even := F_law_even.binds (ps := ["_law_feed_here", "_law_many", "_law_reach"]) fun _ _ _ _ _ _ us hl => match us, hl with | [_, _, _], _ => rfl
  have F_law_roots := fun_mk (st := s_law_roots) l_law_roots c_law_roots k_law_roots
  have b_law_roots := F_law_roots.binds (ps := ["_law_feed_here", "_law_ties", "_law_most", "_law_reach"]) fun _ _ _ _ _ _ us hl => match us, hl with | [_, _, _, _], _ => rfl
  have F_law_small := fun_mk (st := s_law_small) l_law_small c_law_small k_law_small
  have b_law_small := F_law_small.binds (ps := ["_law_feed_here", "_law_most_buds", "_law_most_roots"]) fun _ _ _ _ _ _ us hl => match us, hl with | [_, _, _], _ => rfl
  have F_law := fun_mk (st := s_law) l_law c_law k_law
  have F_bud_init := fun_mk (st := s_bud_init) l_bud_init c_bud_init k_bud_init
  have b_bud_init := F_bud_init.binds (ps := ["self", "word"]) fun _ _ _ _ _ _ us hl => match us, hl with | [_, _], _ => rfl
  have F_great_init := fun_mk (st := s_great_init) l_great_init c_great_init k_great_init
  have b_great_init := F_great_init.binds (ps := ["self"]) fun _ _ _ _ _ _ us hl => match us, hl with | [_], _ => rfl
  have g_common := PySem.W.mg_of X G a_common
  have g_power_of := PySem.W.mg_of X G a_power_of
  have g_lowest_terms := PySem.W.mg_of X G a_lowest_terms
  have g_is_number := PySem.W.mg_of X G a_is_number
  have g_is_row := PySem.W.mg_of X G a_is_row
  have g_check_form := PySem.W.mg_of X G a_check_form
  have g_check_table := PySem.W.mg_of X G a_check_table
  have g_check_bud := PySem.W.mg_of X G a_check_bud
  have g_bud_count := PySem.W.mg_of X G a_bud_count
  have g_unlike_rows := PySem.W.mg_of X G a_unlike_rows
  have g_pair_bars := PySem.W.mg_of X G a_pair_bars
  have g_ring_bars := PySem.W.mg_of X G a_ring_bars
  have g_barred := PySem.W.mg_of X G a_barred
  have g_turned_row := PySem.W.mg_of X G a_turned_row
  have g_turned_table := PySem.W.mg_of X G a_turned_table
  have g_side_worth := PySem.W.mg_of X G a_side_worth
  have g_new_worth := PySem.W.mg_of X G a_new_worth
  have g_worth_step := PySem.W.mg_of X G a_worth_step
  have g_frieze := PySem.W.mg_of X G a_frieze
  have g_law_feed := PySem.W.mg_of X G a_law_feed
  have g_law_draw := PySem.W.mg_of X G a_law_draw
  have g_law_pick := PySem.W.mg_of X G a_law_pick
  have g_law_same := PySem.W.mg_of X G a_law_same
  have g_law_word := PySem.W.mg_of X G a_law_word
  have g_law_gcd := PySem.W.mg_of X G a_law_gcd
  have g_law_low := PySem.W.mg_of X G a_law_low
  have g_law_add := PySem.W.mg_of X G a_law_add
  have g_law_div := PySem.W.mg_of X G a_law_div
  have g_law_pow := PySem.W.mg_of X G a_law_pow
  have g_law_turn := PySem.W.mg_of X G a_law_turn
  have g_law_wide_ties := PySem.W.mg_of X G a_law_wide_ties
  have g_law_both := PySem.W.mg_of X G a_law_both
  have g_law_step := PySem.W.mg_of X G a_law_step
  have g_law_even := PySem.W.mg_of X G a_law_even
  have g_law_roots := PySem.W.mg_of X G a_law_roots
  have g_law_small := PySem.W.mg_of X G a_law_small
  have g_law := PySem.W.mg_of X G a_law
  have TB : ClsFn K mg "BudError" "__init__" C_BudError f_bud_init := ⟨PySem.W.mg_of X G a_BudError, sg, tyB, rdB, fcB, k_bud_init⟩
  have ox_Great : OexC K C_Great := ⟨⟨nm_Great, q_Great, N_Great, bs_Great, _, sn_Great, sub_Great, ab_Great, col_Great, dd_Great, m0_Great, m1_Great, m2_Great, m3_Great, m5_Great, xL_Great, rfl⟩, sa_Great, eC_Great, tC_Great, kC_Great⟩
  have T_Great : ErrC K mg "Great" C_Great f_great_init C_BudError := ⟨PySem.W.mg_of X G a_Great, ox_Great, a_great_init, tI_Great, nw_Great, ⟨ga_Great, gg_Great, eC_Great, hC_Great⟩, PySem.W.exm_ref eB hB tyB sC_Great⟩
  have te_Great : PySem.W.exmOne K (.ref C_Great) (.ref C_Great) = some true := PySem.W.exm_ref eC_Great hC_Great tC_Great sl_Great
  have TGC : GreatC K mg C_Great f_great_init := ⟨T_Great.g, T_Great.oex, T_Great.iC, T_Great.tI, T_Great.nw, te_Great⟩
  have kbF : KBinds K (PySem.W.fnOf "frieze" "frieze" (defArgs s_frieze) (defBody s_frieze) (defScope s_frieze) .none kV_frieze dc_frieze pm_frieze an_frieze cd_frieze ct_frieze) ["table", "rounds"] ["rounds", "table"] swapL swapL := by
    refine ⟨fun s us ws _ hl => ?_, fun {vs us zs ws} r1 r2 => ?_⟩
    · match us, ws, hl with
      | [], [_, _], _ => exact .of_eq rfl
    · match vs, us, zs, ws, r1, r2 with
      | _, _, _, _, .nil, .cons a (.cons b .nil) => exact .cons b (.cons a .nil)
      | _, _, _, _, .nil, .nil => exact .nil
      | _, _, _, _, .nil, .cons _ .nil => exact .nil
      | _, _, _, _, .nil, .cons _ (.cons _ (.cons _ _)) => exact .nil
      | _, _, _, _, .cons _ _, _ => exact .nil
  have hcs : ∀ p ∈ [(cc_law, Pt_law)], p = (cc_law, Pt_law) := fun p hp => by
    simpa using hp
  refine ⟨PySem.W.fnOf "law" "law" (defArgs s_law) (defBody s_law) (defScope s_law) .none kV_law dc_law pm_law an_law (.ref cc_law) ct_law, [(cc_law, Pt_law)], spLaw K Pt_law, fun p hp => ?_, fun p hp => ?_, fun p hp => ?_, fun s v => .of_eq rfl, fun H a ns hl _ hT hS => ⟨a, ns, rfl, hS, hl, hT _ (List.mem_cons_self ..), fun _ => rfl⟩, fun base _ _ TBs => ?_⟩
  · rcases hcs p hp with e
    · rw [e]
      exact own cc_law Pt_law _ _ _ _ _ _ l_law rfl rfl cl_law v11_law
  · rcases hcs p hp with e
    · rw [e]
      exact nP_law
  · rcases hcs p hp with e
    · rw [e]
      exact PySem.W.codeHd_of_K X hd_law
  have FBI : FnOk l.prog w K mg base CX0 1 f_bud_init _ ["self", "word"] (spBudInit K) := ok_budinit F_bud_init T vv
  have FG : FnOk l.prog w K mg base CX0 2 f_great_init _ ["self"] (spGreatInit K) := ok_greatinit F_great_init T TB FBI b_bud_init
  have cDraw : Cal l.prog w K mg base CX0 1 "_law_draw" ["_law_feed_here", "_law_many"] spDraw := ⟨_, _, ok_draw F_law_draw T, g_law_draw, k_law_draw, b_law_draw⟩
  have cFeed : Cal l.prog w K mg base CX0 1 "_law_feed" ["_law_script"] (spFeed K) := ⟨_, _, ok_feed F_law_feed T, g_law_feed, k_law_feed, b_law_feed⟩
  have cPick : Cal l.prog w K mg base CX0 2 "_law_pick" ["_law_feed_here", "_law_row"] spPick := ⟨_, _, ok_pick (j := 0) F_law_pick T cDraw, g_law_pick, k_law_pick, b_law_pick⟩
  have cSame : Cal l.prog w K mg base CX0 4 "_law_same" ["_law_found", "_law_due"] (spSame 3) := ⟨_, _, ok_same F_law_same T g_law_same b_law_same 3, g_law_same, k_law_same, b_law_same⟩
  have cGcd : Cal l.prog w K mg base CX0 1 "_law_gcd" ["_law_one", "_law_other"] spCom := ⟨_, _, ok_lgcd (k := 0) F_law_gcd T, g_law_gcd, k_law_gcd, b_law_gcd⟩
  have cGcdN : Cal l.prog w K mg base CX0 1 "_law_gcd" ["_law_one", "_law_other"] spGcd := ⟨_, _, gcd_nat (ok_lgcd (k := 0) F_law_gcd T), g_law_gcd, k_law_gcd, b_law_gcd⟩
  have cEven : Cal l.prog w K mg base CX0 3 "_law_even" ["_law_feed_here", "_law_many", "_law_reach"] spEven := ⟨_, _, ok_even (k := 0) F_law_even T cDraw cPick cGcdN, g_law_even, k_law_even, b_law_even⟩
  have cRoots : Cal l.prog w K mg base CX0 2 "_law_roots" ["_law_feed_here", "_law_ties", "_law_most", "_law_reach"] spRoots := ⟨_, _, ok_roots (k := 0) F_law_roots T cDraw, g_law_roots, k_law_roots, b_law_roots⟩
  have cSmall : Cal l.prog w K mg base CX0 4 "_law_small" ["_law_feed_here", "_law_most_buds", "_law_most_roots"] spSmall := ⟨_, _, ok_small F_law_small T cDraw cEven cRoots, g_law_small, k_law_small, b_law_small⟩
  have cLTurn : Cal l.prog w K mg base CX0 1 "_law_turn" ["_law_ties", "_law_place"] spLTurn := ⟨_, _, ok_lturn F_law_turn T, g_law_turn, k_law_turn, b_law_turn⟩
  have cWide : Cal l.prog w K mg base CX0 1 "_law_wide_ties" ["_law_ties"] spWideT := ⟨_, _, ok_wideT F_law_wide_ties T, g_law_wide_ties, k_law_wide_ties, b_law_wide_ties⟩
  have cLow : Cal l.prog w K mg base CX0 2 "_law_low" ["_law_top", "_law_under"] spLLow := ⟨_, _, ok_llow F_law_low T cGcd, g_law_low, k_law_low, b_law_low⟩
  have cLAdd : Cal l.prog w K mg base CX0 3 "_law_add" ["_law_one", "_law_other"] spLAdd := ⟨_, _, ok_ladd F_law_add T cLow, g_law_add, k_law_add, b_law_add⟩
  have cLDiv : Cal l.prog w K mg base CX0 3 "_law_div" ["_law_one", "_law_other"] spLDiv := ⟨_, _, ok_ldiv F_law_div T cLow, g_law_div, k_law_div, b_law_div⟩
  have cLPow : Cal l.prog w K mg base CX0 3 "_law_pow" ["_law_one", "_law_many"] spLPow := ⟨_, _, ok_lpow F_law_pow T, g_law_pow, k_law_pow, b_law_pow⟩
  have cBoth : Cal l.prog w K mg base CX0 4 "_law_both" ["_law_ties", "_law_worths", "_law_place"] spBoth := ⟨_, _, ok_both F_law_both T cLPow cLAdd, g_law_both, k_law_both, b_law_both⟩
  have cLStep : Cal l.prog w K mg base CX0 5 "_law_step" ["_law_ties", "_law_worths", "_law_place"] spLStep := ⟨_, _, ok_lstep F_law_step T cLDiv cBoth cLTurn, g_law_step, k_law_step, b_law_step⟩
  have cNum : Cal l.prog w K mg base CX0 1 "is_number" ["thing"] spIsNum := ⟨_, _, ok_isnum F_is_number T, g_is_number, k_is_number, b_is_number⟩
  have cRow : Cal l.prog w K mg base CX0 2 "is_row" ["row", "many"] spIsRow := ⟨_, _, ok_isrow F_is_row T cNum, g_is_row, k_is_row, b_is_row⟩
  have cForm : Cal l.prog w K mg base CX0 3 "check_form" ["table"] spGood := ⟨_, _, ok_form F_check_form T cRow, g_check_form, k_check_form, b_check_form⟩
  have cBuds : Cal l.prog w K mg base CX0 1 "bud_count" ["table"] spBuds := ⟨_, _, ok_buds F_bud_count T, g_bud_count, k_bud_count, b_bud_count⟩
  have cPair : Cal l.prog w K mg base CX0 1 "pair_bars" ["table", "i", "j"] spPair := ⟨_, _, ok_pair F_pair_bars T, g_pair_bars, k_pair_bars, b_pair_bars⟩
  have cUnl : Cal l.prog w K mg base CX0 1 "unlike_rows" ["many", "length"] spUnlike := ⟨_, _, ok_unlike F_unlike_rows T, g_unlike_rows, k_unlike_rows, b_unlike_rows⟩
  have cRing : Cal l.prog w K mg base CX0 1 "ring_bars" ["table", "ring"] spRing := ⟨_, _, ok_ring F_ring_bars T, g_ring_bars, k_ring_bars, b_ring_bars⟩
  have cBar : Cal l.prog w K mg base CX0 4 "barred" ["table"] spGood := ⟨_, _, ok_barred F_barred T cForm cBuds cPair cUnl cRing, g_barred, k_barred, b_barred⟩
  have cChk : Cal l.prog w K mg base CX0 5 "check_table" ["table"] spGood := ⟨_, _, ok_check F_check_table T cBar, g_check_table, k_check_table, b_check_table⟩
  have cCkB : Cal l.prog w K mg base CX0 2 "check_bud" ["table", "place"] spCkGood := ⟨_, _, ok_ckbud F_check_bud T cNum cBuds, g_check_bud, k_check_bud, b_check_bud⟩
  have cTRow : Cal l.prog w K mg base CX0 1 "turned_row" ["row", "up", "down", "place"] spTRow := ⟨_, _, ok_trow F_turned_row T, g_turned_row, k_turned_row, b_turned_row⟩
  have cTT : CalX l.prog w K mg base 4 "turned_table" ["table", "place"] (spTurn C_Great) := ⟨_, _, ok_turn F_turned_table T cTRow TGC FG b_great_init, g_turned_table, k_turned_table, b_turned_table⟩
  have cCom : Cal l.prog w K mg base CX0 1 "common" ["one", "other"] spCom := ⟨_, _, ok_common (k := 0) F_common T, g_common, k_common, b_common⟩
  have cPow : Cal l.prog w K mg base CX0 1 "power_of" ["base", "many"] spPow := ⟨_, _, ok_power F_power_of T, g_power_of, k_power_of, b_power_of⟩
  have cLT : Cal l.prog w K mg base CX0 2 "lowest_terms" ["top", "under", "root"] spLow := ⟨_, _, ok_lowest F_lowest_terms T cCom, g_lowest_terms, k_lowest_terms, b_lowest_terms⟩
  have cSide : Cal l.prog w K mg base CX0 2 "side_worth" ["worths", "column"] spSide := ⟨_, _, ok_side F_side_worth T cPow, g_side_worth, k_side_worth, b_side_worth⟩
  have cNew : CalX l.prog w K mg base 4 "new_worth" ["ties", "worths", "place"] (spNewW C_Great) := ⟨_, _, ok_new F_new_worth T cSide cLT TGC FG b_great_init, g_new_worth, k_new_worth, b_new_worth⟩
  have cStep : CalX l.prog w K mg base 5 "worth_step" ["ties", "worths", "place"] (spStepW C_Great) := ⟨_, _, ok_wstep F_worth_step T cCkB cTT cNew, g_worth_step, k_worth_step, b_worth_step⟩
  have FF : FnOk l.prog w K mg base (L2.CX l.prog w) 6 f_frieze _ ["table", "rounds"] (spFrieze C_Great) := ok_frieze F_frieze T cChk cBuds cStep
  have cFz : CalX l.prog w K mg base 6 "frieze" ["table", "rounds"] (spFrieze C_Great) := ⟨_, _, FF, g_frieze, k_frieze, b_frieze⟩
  have un_law : ∀ p ∈ ([(Pt_law, qL "law")] : List (Addr × Str)), p.1 = Pt_law → p.2 = qL "law" := fun p hp e => by
    simp only [List.mem_cons, List.not_mem_nil, or_false] at hp
    rcases hp with rfl
    · rfl
  exact ok_law l_law c_law T cFeed cDraw cSmall cLTurn cWide cLStep cSame cFz FF g_frieze k_frieze kbF T_Great ⟨F_law_word, g_law_word, b_law_word, PySem.W.mg_of X G a_BudError, PySem.W.mg_of X G a_NoPart, PySem.W.mg_of X G a_NoPlace, PySem.W.mg_of X G a_Lacking, PySem.W.mg_of X G a_NothingLeft, TBs _ (List.mem_cons_self ..), List.mem_cons_self .., un_law⟩
end Bw
set_option Elab.async false
set_option linter.all false
open PySem PySem.W PyProof.Rows
set_option maxRecDepth 100000 in
set_option maxHeartbeats 0 in
theorem PySem.Challenge.cw_budwright_k36_whole_friezes_are_whole_holds : PySem.Challenge.rw_budwright_k36_whole_friezes_are_whole.Holds := by
  w_on; o_law
  refine HandSHeadRun.head_any (r := OpenLaw.row PySem.Challenge.rw_budwright_k36_whole_friezes_are_whole) (q := Hd.qv) (H := Hd.hk) (ob := Hd.ob) (M := 4000) (loose := Hd.names) (d := HandSHeadRun.topDef (OpenLaw.row PySem.Challenge.rw_budwright_k36_whole_friezes_are_whole).prog 54) (kwd := []) Hd.ob_eq (by kernel_rfl) (fun s => by kernel_rfl) Hd.run (by kernel_rfl) (by kernel_rfl) (by kernel_rfl) (by rfl) (by first | assumption | decide +kernel) (by decide +kernel) ⟨rfl, rfl, rfl, rfl, rfl, by decide +kernel⟩ ?hw ?hc
  case hw => w_witness2
  refine LamX.walk_ofOwns (l := PySem.Challenge.rw_budwright_k36_whole_friezes_are_whole) (n := 63) (k := 10) (x := "_law_script") (K := Hd.K) (CX := fun _ => L2.CX0) rfl (by decide) (by kernel_rfl) ⟨rfl, by decide, by decide⟩ (fun w h Y => PySem.W.kIn_of Y) ?F (fun _ _ _ _ _ h => h)
  case F =>
    k_fill
    intro w mg fa h YP KX G hmg0 own
    have hmg : mg ("law" : PySem.Str) = some (.ref fa) := by
      have e : (HandSHeadRun.topDef (OpenLaw.row PySem.Challenge.rw_budwright_k36_whole_friezes_are_whole).prog 54).name = ("law" : PySem.Str) := by kernel_rfl
      rw [← e]
      exact hmg0
    refine' Bw.all_mk KX G hmg (own "law" _ (by first | rfl | decide +kernel) hmg) ?a_BudError ?a_Great ?a_NoPart ?a_NoPlace ?a_Lacking ?a_NothingLeft ?a_common ?l_common ?c_common ?k_common ?a_power_of ?l_power_of ?c_power_of ?k_power_of ?a_lowest_terms ?l_lowest_terms ?c_lowest_terms ?k_lowest_terms ?a_is_number ?l_is_number ?c_is_number ?k_is_number ?a_is_row ?l_is_row ?c_is_row ?k_is_row ?a_check_form ?l_check_form ?c_check_form ?k_check_form ?a_check_table ?l_check_table ?c_check_table ?k_check_table ?a_check_bud ?l_check_bud ?c_check_bud ?k_check_bud ?a_bud_count ?l_bud_count ?c_bud_count ?k_bud_count ?a_unlike_rows ?l_unlike_rows ?c_unlike_rows ?k_unlike_rows ?a_pair_bars ?l_pair_bars ?c_pair_bars ?k_pair_bars ?a_ring_bars ?l_ring_bars ?c_ring_bars ?k_ring_bars ?a_barred ?l_barred ?c_barred ?k_barred ?a_turned_row ?l_turned_row ?c_turned_row ?k_turned_row ?a_turned_table ?l_turned_table ?c_turned_table ?k_turned_table ?a_side_worth ?l_side_worth ?c_side_worth ?k_side_worth ?a_new_worth ?l_new_worth ?c_new_worth ?k_new_worth ?a_worth_step ?l_worth_step ?c_worth_step ?k_worth_step ?a_frieze ?l_frieze ?c_frieze ?k_frieze ?a_law_feed ?l_law_feed ?c_law_feed ?k_law_feed ?a_law_draw ?l_law_draw ?c_law_draw ?k_law_draw ?a_law_pick ?l_law_pick ?c_law_pick ?k_law_pick ?a_law_same ?l_law_same ?c_law_same ?k_law_same ?a_law_word ?l_law_word ?c_law_word ?k_law_word ?a_law_gcd ?l_law_gcd ?c_law_gcd ?k_law_gcd ?a_law_low ?l_law_low ?c_law_low ?k_law_low ?a_law_add ?l_law_add ?c_law_add ?k_law_add ?a_law_div ?l_law_div ?c_law_div ?k_law_div ?a_law_pow ?l_law_pow ?c_law_pow ?k_law_pow ?a_law_turn ?l_law_turn ?c_law_turn ?k_law_turn ?a_law_wide_ties ?l_law_wide_ties ?c_law_wide_ties ?k_law_wide_ties ?a_law_both ?l_law_both ?c_law_both ?k_law_both ?a_law_step ?l_law_step ?c_law_step ?k_law_step ?a_law_even ?l_law_even ?c_law_even ?k_law_even ?a_law_roots ?l_law_roots ?c_law_roots ?k_law_roots ?a_law_small ?l_law_small ?c_law_small ?k_law_small ?a_law ?l_law ?c_law ?k_law ?a_bud_init ?l_bud_init ?c_bud_init ?k_bud_init ?a_great_init ?l_great_init ?c_great_init ?k_great_init ?z_len ?z_range ?z_zip ?z_abs ?z_all ?z_any ?z_max ?z_min ?z_sorted ?z_isinstance ?z_int ?z_bool ?z_tuple ?z_list ?z_dict ?z_str ?z_ValueError ?z_IndexError ?z_enumerate ?z_sum ?i_MOST_TIE ?i_MOST_BUDS ?i_MOST_ROOTS ?i_GREAT_WORTH ?sg ?tyB ?rdB ?fcB ?vv ?eB ?hB ?eC_NoPart ?tC_NoPart ?hC_NoPart ?eC_NoPlace ?tC_NoPlace ?hC_NoPlace ?eC_Lacking ?tC_Lacking ?hC_Lacking ?eC_NothingLeft ?tC_NothingLeft ?hC_NothingLeft ?xL_Great ?sa_Great ?ga_Great ?gg_Great ?nw_Great ?tI_Great ?kC_Great ?eC_Great ?tC_Great ?hC_Great ?sC_Great ?sl_Great ?cl_law ?v11_law ?hd_law ?nP_law
    (case a_BudError => k_is)
    (case a_Great => k_is)
    (case a_NoPart => k_is)
    (case a_NoPlace => k_is)
    (case a_Lacking => k_is)
    (case a_NothingLeft => k_is)
    (case a_common => k_is)
    (case l_common => k_is)
    (case c_common => k_is)
    (case k_common => k_is)
    (case a_power_of => k_is)
    (case l_power_of => k_is)
    (case c_power_of => k_is)
    (case k_power_of => k_is)
    (case a_lowest_terms => k_is)
    (case l_lowest_terms => k_is)
    (case c_lowest_terms => k_is)
    (case k_lowest_terms => k_is)
    (case a_is_number => k_is)
    (case l_is_number => k_is)
    (case c_is_number => k_is)
    (case k_is_number => k_is)
    (case a_is_row => k_is)
    (case l_is_row => k_is)
    (case c_is_row => k_is)
    (case k_is_row => k_is)
    (case a_check_form => k_is)
    (case l_check_form => k_is)
    (case c_check_form => k_is)
    (case k_check_form => k_is)
    (case a_check_table => k_is)
    (case l_check_table => k_is)
    (case c_check_table => k_is)
    (case k_check_table => k_is)
    (case a_check_bud => k_is)
    (case l_check_bud => k_is)
    (case c_check_bud => k_is)
    (case k_check_bud => k_is)
    (case a_bud_count => k_is)
    (case l_bud_count => k_is)
    (case c_bud_count => k_is)
    (case k_bud_count => k_is)
    (case a_unlike_rows => k_is)
    (case l_unlike_rows => k_is)
    (case c_unlike_rows => k_is)
    (case k_unlike_rows => k_is)
    (case a_pair_bars => k_is)
    (case l_pair_bars => k_is)
    (case c_pair_bars => k_is)
    (case k_pair_bars => k_is)
    (case a_ring_bars => k_is)
    (case l_ring_bars => k_is)
    (case c_ring_bars => k_is)
    (case k_ring_bars => k_is)
    (case a_barred => k_is)
    (case l_barred => k_is)
    (case c_barred => k_is)
    (case k_barred => k_is)
    (case a_turned_row => k_is)
    (case l_turned_row => k_is)
    (case c_turned_row => k_is)
    (case k_turned_row => k_is)
    (case a_turned_table => k_is)
    (case l_turned_table => k_is)
    (case c_turned_table => k_is)
    (case k_turned_table => k_is)
    (case a_side_worth => k_is)
    (case l_side_worth => k_is)
    (case c_side_worth => k_is)
    (case k_side_worth => k_is)
    (case a_new_worth => k_is)
    (case l_new_worth => k_is)
    (case c_new_worth => k_is)
    (case k_new_worth => k_is)
    (case a_worth_step => k_is)
    (case l_worth_step => k_is)
    (case c_worth_step => k_is)
    (case k_worth_step => k_is)
    (case a_frieze => k_is)
    (case l_frieze => k_is)
    (case c_frieze => k_is)
    (case k_frieze => k_is)
    (case a_law_feed => k_is)
    (case l_law_feed => k_is)
    (case c_law_feed => k_is)
    (case k_law_feed => k_is)
    (case a_law_draw => k_is)
    (case l_law_draw => k_is)
    (case c_law_draw => k_is)
    (case k_law_draw => k_is)
    (case a_law_pick => k_is)
    (case l_law_pick => k_is)
    (case c_law_pick => k_is)
    (case k_law_pick => k_is)
    (case a_law_same => k_is)
    (case l_law_same => k_is)
    (case c_law_same => k_is)
    (case k_law_same => k_is)
    (case a_law_word => k_is)
    (case l_law_word => k_is)
    (case c_law_word => k_is)
    (case k_law_word => k_is)
    (case a_law_gcd => k_is)
    (case l_law_gcd => k_is)
    (case c_law_gcd => k_is)
    (case k_law_gcd => k_is)
    (case a_law_low => k_is)
    (case l_law_low => k_is)
    (case c_law_low => k_is)
    (case k_law_low => k_is)
    (case a_law_add => k_is)
    (case l_law_add => k_is)
    (case c_law_add => k_is)
    (case k_law_add => k_is)
    (case a_law_div => k_is)
    (case l_law_div => k_is)
    (case c_law_div => k_is)
    (case k_law_div => k_is)
    (case a_law_pow => k_is)
    (case l_law_pow => k_is)
    (case c_law_pow => k_is)
    (case k_law_pow => k_is)
    (case a_law_turn => k_is)
    (case l_law_turn => k_is)
    (case c_law_turn => k_is)
    (case k_law_turn => k_is)
    (case a_law_wide_ties => k_is)
    (case l_law_wide_ties => k_is)
    (case c_law_wide_ties => k_is)
    (case k_law_wide_ties => k_is)
    (case a_law_both => k_is)
    (case l_law_both => k_is)
    (case c_law_both => k_is)
    (case k_law_both => k_is)
    (case a_law_step => k_is)
    (case l_law_step => k_is)
    (case c_law_step => k_is)
    (case k_law_step => k_is)
    (case a_law_even => k_is)
    (case l_law_even => k_is)
    (case c_law_even => k_is)
    (case k_law_even => k_is)
    (case a_law_roots => k_is)
    (case l_law_roots => k_is)
    (case c_law_roots => k_is)
    (case k_law_roots => k_is)
    (case a_law_small => k_is)
    (case l_law_small => k_is)
    (case c_law_small => k_is)
    (case k_law_small => k_is)
    (case a_law => k_is)
    (case l_law => k_is)
    (case c_law => k_is)
    (case k_law => k_is)
    (case a_bud_init => k_is)
    (case l_bud_init => k_is)
    (case c_bud_init => k_is)
    (case k_bud_init => k_is)
    (case a_great_init => k_is)
    (case l_great_init => k_is)
    (case c_great_init => k_is)
    (case k_great_init => k_is)
    (case z_len => k_is)
    (case z_range => k_is)
    (case z_zip => k_is)
    (case z_abs => k_is)
    (case z_all => k_is)
    (case z_any => k_is)
    (case z_max => k_is)
    (case z_min => k_is)
    (case z_sorted => k_is)
    (case z_isinstance => k_is)
    (case z_int => k_is)
    (case z_bool => k_is)
    (case z_tuple => k_is)
    (case z_list => k_is)
    (case z_dict => k_is)
    (case z_str => k_is)
    (case z_ValueError => k_is)
    (case z_IndexError => k_is)
    (case z_enumerate => k_is)
    (case z_sum => k_is)
    (case i_MOST_TIE => k_is)
    (case i_MOST_BUDS => k_is)
    (case i_MOST_ROOTS => k_is)
    (case i_GREAT_WORTH => k_is)
    (case sg => k_is)
    (case tyB => k_is)
    (case rdB => k_is)
    (case fcB => k_is)
    (case vv => k_is)
    (case eB => k_is)
    (case hB => k_is)
    (case eC_NoPart => k_is)
    (case tC_NoPart => k_is)
    (case hC_NoPart => k_is)
    (case eC_NoPlace => k_is)
    (case tC_NoPlace => k_is)
    (case hC_NoPlace => k_is)
    (case eC_Lacking => k_is)
    (case tC_Lacking => k_is)
    (case hC_Lacking => k_is)
    (case eC_NothingLeft => k_is)
    (case tC_NothingLeft => k_is)
    (case hC_NothingLeft => k_is)
    (case xL_Great => k_is)
    (case sa_Great => k_is)
    (case ga_Great => k_is)
    (case gg_Great => k_is)
    (case nw_Great => k_is)
    (case tI_Great => k_is)
    (case kC_Great => k_is)
    (case eC_Great => k_is)
    (case tC_Great => k_is)
    (case hC_Great => k_is)
    (case sC_Great => first | rfl | k_is)
    (case sl_Great => first | rfl | k_is)
    (case cl_law => k_is)
    (case v11_law => rfl)
    (case hd_law => first | k_is | rfl | decide +kernel)
    (case nP_law => first | rfl | k_is | decide +kernel)
