import PyProof.Rows.All
import Wide.All
import OpenK.AllK
import Wide.FinOn
import HandS.ForMost
import HandS.ForExc
import HandS.SortOrd
import HandS.SortRule
import HandS.SortKw
import HandS.Conv
import HandS.NamedTupSort
import KE.KDictPairs
import HandS.Codes
import HandS.IsInst
import HandS.Zip
import HandS.Walk
import HandS.TupAny
import HandS.TupMul
import HandS.Flow
import HandS.ExcInit
import HandS.OwnEq
import HandS.Style
import PyProof.InstEq
import HandS.Wide
import HandS.Head2
import HandS.ExcField
import HandS.CallSlots
import HandS.More
import HandS.Defaults
import HandS.Deep
import HandS.TupLe
import KE.KRevSl
import KE.GoesMore
import HandS.Lambda
import HandS.EndOwn
import HandS.NestedK
import KE.KExcInit
import KE.KTryMore
import HandS.SortInts
import HandS.Finally
import HandS.Dict
import HandS.DictComp
import HandS.Strs
import HandS.TupLen
import HandS.Text
import HandS.RevTup
import HandS.Rev
import HandS.FStr
import PyProof.JoinWalk
import KE.KCallOwn
import PyProof.Conv_bool
import KE.KEqDict
import PyProof.StrLoop
import HandS.RaiseMore
import HandS.Records
import HandS.ExcOwn
import HandS.MakeKwOnly
import HandS.ExcIs
import PySem.Challenge.RW_budwright_k17_webs_begun
set_option Elab.async false
set_option linter.all false
set_option maxRecDepth 100000
set_option maxHeartbeats 4000000
namespace Bw
open PySem PySem.Spec PyProof.Rows L2
/-! ### tuples of ints in order -/
def IsTupI (h : Heap) (v : Value) (p : List Int) : Prop := ∃ a o its n, v = .ref a ∧ h.get? a = some o ∧ o.cls = .type "tuple" ∧ o.data = .seq its n ∧ IntsAre its.toList p
theorem IsTupI.keeps {h h' : Heap} {v : Value} {p : List Int} (x : IsTupI h v p) (k : ∀ b o, h.get? b = some o → o.cls = .type "tuple" → h'.get? b = some o) : IsTupI h' v p := by
  obtain ⟨a, o, its, n, e, ho, hc, hd, hi⟩ := x
  exact ⟨a, o, its, n, e, k _ _ ho hc, hc, hd, hi⟩
section
variable {prog : Program} {w : World} {A : Around} {s : Shared}
theorem kat_ints {b : Bool} {Q : Bool → Shared → Prop} : ∀ {ps : List Value} {p : List Int}, IntsAre ps p → ∀ {qs : List Value} {q : List Int}, IntsAre qs q → ∀ (i : Nat) (fin : Bool), fin = decide (ps.length < qs.length) → Q (HT.lexLt p q) s → PySem.W.KatLex prog w A b fin Q (ps.zip qs) i s
  | _, _, .nil, _, _, .nil, i, fin, hf, hq => by
    subst hf
    exact PySem.W.kat_nil hq
  | _, _, .nil, _, _, .cons _ _ _, i, fin, hf, hq => by
    have e : fin = true := by
      rw [hf]
      exact decide_eq_true (by rw [List.length_cons]; exact Nat.succ_pos _)
    subst e
    exact PySem.W.kat_nil hq
  | _, _, .cons _ _ _, _, _, .nil, i, fin, hf, hq => by
    have e : fin = false := by
      rw [hf]
      exact decide_eq_false (by rw [List.length_nil]; omega)
    subst e
    exact PySem.W.kat_nil hq
  | _, _, .cons x t r, _, _, .cons y u r', i, fin, hf, hq => by
    rw [List.zip_cons_cons]
    refine PySem.W.kat_cons (SeqAt.EqAt.int_int _ _ _ _ prog w _ _ ?_)
    rw [HT.lexLt_cons] at hq
    refine PySem.W.kat_go (fun e1 => ?_) (fun e1 => ?_)
    · have ex : x = y := by simpa using e1
      rw [if_pos ex] at hq
      exact PySem.W.kat_yes (kat_ints r r' (i + 1) fin (by rw [hf, List.length_cons, List.length_cons]; congr 1; simp) hq)
    · have ex : ¬ x = y := by simpa using e1
      rw [if_neg ex] at hq
      exact PySem.W.kat_no (TS.oneLt_ints _ hq)
theorem tup_cmp {vs : List Value} {k : Value → List Int} (hp : ∀ v ∈ vs, IsTupI s.heap v (k v)) : SrtO.Cmp prog w A s (tuples' true) (fun p => p.1 ∈ vs) (SrtO.lt2 fun v u => HT.lexLt (k v) (k u)) := by
  intro p q hm hm'
  obtain ⟨a, o, its, n, e, ho, hc, hd, hi⟩ := hp _ hm
  obtain ⟨a', o', its', n', e', ho', hc', hd', hi'⟩ := hp _ hm'
  show wpAny (model prog w) A (keyLt' (tuples' true) p.1 q.1) (fun r s' => s' = s ∧ r = HT.lexLt (k p.1) (k q.1)) (fun _ _ => False) s
  generalize k p.1 = x at hi ⊢
  generalize k q.1 = y at hi' ⊢
  rw [e, e']
  exact PySem.W.kat_lt ho hd ho' hd' (kat_ints hi hi' 0 _ (by rw [Array.length_toList, Array.length_toList]) ⟨rfl, rfl⟩)
theorem firsts_tup {h : Heap} : ∀ {vs : List Value}, (∀ v ∈ vs, ∃ x p, IsTupI h v (x :: p)) → ∃ fs : List Value, PySem.W.KatTups h vs fs ∧ fs.length = vs.length ∧ ∀ f ∈ fs, ∃ x t, f = Value.int x t
  | [], _ => ⟨[], PySem.W.KatTups.nil, rfl, fun _ hm => by simp at hm⟩
  | v :: vs, hp => by
    obtain ⟨fs, h1, h2, h3⟩ := firsts_tup (vs := vs) fun v' hm => hp v' (List.mem_cons_of_mem _ hm)
    obtain ⟨x, p, a, o, its, n, e, ho, hc, hd, hi⟩ := hp v (List.mem_cons_self ..)
    subst e
    cases hl : its.toList with
    | nil =>
      rw [hl] at hi
      cases hi
    | cons f r =>
      rw [hl] at hi
      cases hi with
      | cons _ t hr =>
        refine ⟨.int x t :: fs, PySem.W.KatTups.cons ho hc hd (by rw [← Array.getElem?_toList, hl]; rfl) h1, by rw [List.length_cons, List.length_cons, h2], fun g hg => ?_⟩
        rcases List.mem_cons.mp hg with rfl | hg
        · exact ⟨x, t, rfl⟩
        · exact h3 g hg
theorem tups_sortable {a : Addr} {vs : List Value} {k : Value → List Int} (h0 : 0 < vs.length) (hp : ∀ v ∈ vs, IsTupI s.heap v (k v)) (hne : ∀ v ∈ vs, k v ≠ []) (ha : ∀ o, s.heap.get? a = some o → o.cls ≠ .type "tuple") : SrtO.SortableO prog w A s a vs fun v u => HT.lexLt (k v) (k u) := by
  intro h' keep
  have hp' : ∀ v ∈ vs, IsTupI h' v (k v) := fun v hm => (hp v hm).keeps fun b o e c => keep b o (fun z => by subst z; exact ha o e c) e
  obtain ⟨fs, h1, h2, h3⟩ := firsts_tup fun v hm => by
    have x := hp' v hm
    cases e : k v with
    | nil => exact absurd e (hne v hm)
    | cons y p =>
      rw [e] at x
      exact ⟨y, p, x⟩
  refine ⟨tuples' true, fun Q E hq => ?_, tup_cmp hp'⟩
  have e0 : (Value.type "int" != Value.type "tuple") = true := by decide +kernel
  refine PySem.W.kat_kind (T := .type "int") h1 (by rw [h2]; exact h0) (fun g hg => ?_) rfl (by rw [e0]; exact hq)
  obtain ⟨x, t, rfl⟩ := h3 g hg
  exact PySem.W.Looks.now
end
/-! ### as rules of the layer -/
def unInt : V → Int
  | .int i => i
  | _ => 0
def unRef : Value → Addr
  | .ref a => a
  | _ => 0
/-- the ints of the tuple at b -/
def keyOf (H : Hp) (b : Addr) : List Int := match H b with
  | some (.tup xs) => xs.map unInt
  | _ => []
theorem keyOf_at {H : Hp} {b : Addr} {q : List Int} (h : H b = some (.tup (q.map V.int))) : keyOf H b = q := by
  unfold keyOf
  rw [h]
  show (q.map V.int).map unInt = q
  rw [List.map_map]
  have e : unInt ∘ V.int = id := rfl
  rw [e, List.map_id]
theorem unRef_map : ∀ {us : List Value} {ts : List Addr}, us = ts.map Value.ref → us.map unRef = ts
  | _, ts, rfl => by
    rw [List.map_map]
    have e : unRef ∘ Value.ref = id := rfl
    rw [e, List.map_id]
theorem ref_map : ∀ {us : List Value} {ts : List Addr}, (∀ u ∈ us, u ∈ ts.map Value.ref) → us = (us.map unRef).map Value.ref
  | [], _, _ => rfl
  | u :: us, ts, h => by
    obtain ⟨t, _, e⟩ := List.mem_map.mp (h u (List.mem_cons_self ..))
    subst e
    show _ = Value.ref t :: (us.map unRef).map Value.ref
    rw [← ref_map (ts := ts) fun v hv => h v (List.mem_cons_of_mem _ hv)]
section
variable {X : Cx}
theorem tupI_of {pins : List (Addr × Obj)} {s : Shared} {σ : L2.St} {H : Hp} (I : L2.Inv X pins σ H s) {t : Addr} {q : List Int} (ht : H t = some (.tup (q.map V.int))) : IsTupI s.heap (.ref t) (keyOf H t) := by
  rw [keyOf_at ht]
  obtain ⟨_, its2, r2, o, ho, hc, n, hd⟩ := I.hok _ _ ht
  exact ⟨t, o, _, n, rfl, ho, hc, hd, r2.ints⟩
/-- sorted(xs), a list of tuples of ints: rising -/
def rSortTI (K : PySem.W.Frag) : List V → Hp → VK → Prop := fun vs H Q => ∃ (a : Addr) (ts : List Addr), vs = [V.ref a] ∧ SqL K H a (ts.map V.ref) ∧ (∀ t ∈ ts, ∃ q : List Int, H t = some (.tup (q.map V.int))) ∧ (2 ≤ ts.length → ∀ t ∈ ts, keyOf H t ≠ []) ∧
  ∀ (ts' : List Addr) (p : Addr), ts'.Perm ts → ts'.Pairwise (fun x y => HT.lexLt (keyOf H y) (keyOf H x) = false) → H p = none → Q (.ref p) (upd H p (.lst (ts'.map V.ref)))
theorem cr_sortTI {K : PySem.W.Frag} (hK : X.K = K := by rfl) : CallR X (.builtin "sorted") (rSortTI K) := by
  subst hK
  intro pins s σ H vs us Q I r h
  obtain ⟨a, ts, rfl, hs, hx, hne, q⟩ := h
  obtain ⟨its, rv, hl, hz⟩ := I.list hs
  obtain ⟨u, rfl, ru⟩ := vals1 r
  obtain rfl : u = Value.ref a := ru
  have ei := refs_at rv
  have lz : its.length ≤ sizeLine := by
    rw [← rv.length]
    exact hz
  have hk : ∀ (h₁ : Heap), (∀ b o, s.heap.get? b = some o → h₁.get? b = some o) → ∀ v ∈ its, IsTupI h₁ v (keyOf H (unRef v)) := fun h₁ kk v hv => by
    rw [ei] at hv
    obtain ⟨t, ht, rfl⟩ := List.mem_map.mp hv
    obtain ⟨q', hq'⟩ := hx t ht
    exact (tupI_of I hq').keeps fun b o e _ => kk b o e
  refine SrtO.sorted_ord (NtL.swo_lexL fun v => keyOf H (unRef v)) hl.isList lz (fun h2 h₁ a' ha kk => ?_) fun out hs hb => ?_
  · refine tups_sortable (s := { s with heap := h₁ }) (by omega) (hk h₁ fun b o e => (kk b o e).2) (fun v hv => ?_) fun o e => ?_
    · rw [ei] at hv h2
      obtain ⟨t, ht, rfl⟩ := List.mem_map.mp hv
      rw [List.length_map] at h2
      exact hne h2 t ht
    · have e' : some o = some (seqObj "list" its.toArray 0) := e.symm.trans ha
      cases e'
      intro c
      exact absurd (Value.type.inj c) (by decide)
  · have hm : ∀ u ∈ out, u ∈ ts.map Value.ref := fun u hu => by
      rw [← ei]
      exact hb.perm.mem_iff.mp hu
    have eo := ref_map hm
    have hp : (out.map unRef).Perm ts := by
      have z := hb.perm.map unRef
      rw [unRef_map ei] at z
      exact z
    obtain ⟨n, hn⟩ := PyProof.Rows.sortedAll_at s.heap its out.toArray
    refine ⟨.ref (s.heap.objs.size + 1), upd H (s.heap.objs.size + 1) (.lst ((out.map unRef).map V.ref)), I.laid (t' := s.toks) (fun b o e => PyProof.Rows.sortedAll_old e) (Nat.le_succ _) ⟨?_, out, n, ?_, hn⟩, rfl, q _ _ hp (List.pairwise_map.mpr hs) (I.hok.fresh (Nat.le_succ _))⟩
    · rw [List.length_map, hp.length_eq, ← List.length_map (f := V.ref)]
      exact hz
    · have z := vals_refs (out.map unRef)
      rw [← eo] at z
      exact z
/-- the key tuples of a dict, as they are collected -/
theorem acc_keys {P : Program} {w : World} {es : Array DictEntry} {ks : List (List Key × Addr × Value)} {acc : Array Value} (he : es.toList = ks.map (entryOfKey (tupleKind (mixKind P w)))) (it : ItemsOf (fun i v => ∃ en : DictEntry, es[i]? = some en ∧ v = en.key) acc es.size) :
    acc.toList = (ks.map fun x => x.2.1).map Value.ref := by
  have l1 : es.size = ks.length := size_of_entries he
  apply List.ext_getElem?
  intro j
  rw [List.getElem?_map, List.getElem?_map]
  cases hj : acc.toList[j]? with
  | none =>
    have h1 := List.getElem?_eq_none_iff.mp hj
    rw [Array.length_toList, it.1] at h1
    rw [List.getElem?_eq_none (show ks.length ≤ j by omega)]
    rfl
  | some v =>
    obtain ⟨en, hen, hv⟩ := it.2 j v (by rw [← Array.getElem?_toList]; exact hj)
    have qe := entry_at he j
    rw [hen] at qe
    cases hb : ks[j]? with
    | none =>
      rw [hb] at qe
      cases qe
    | some b =>
      rw [hb] at qe
      have e2 := Option.some.inj qe
      rw [hv, e2]
      rfl
/-- the keys of a dict, tuples of ints -/
def KeysI (kvs : List (List Key × V)) (ps : List (List Int)) : Prop := kvs.map (·.1) = ps.map (List.map Sum.inl)
/-- sorted(d, reverse=True), a dict whose keys are tuples of ints: falling -/
def rSortDT : List V → List V → Hp → VK → Prop := fun vs zs H Q => ∃ (d : Addr) (kvs : List (List Key × V)) (ps : List (List Int)), vs = [V.ref d] ∧ zs = [.bl true] ∧ Rd H d (.dT kvs) ∧ KeysI kvs ps ∧ (2 ≤ ps.length → ∀ q ∈ ps, q ≠ []) ∧
  ∀ (bs : List Addr) (p : Addr), (∀ b ∈ bs, ∃ q : List Int, H b = some (.tup (q.map V.int))) → (bs.map (keyOf H)).Perm ps → bs.Pairwise (fun x y => HT.lexLt (keyOf H x) (keyOf H y) = false) → H p = none → Q (.ref p) (upd H p (.lst (bs.map V.ref)))
theorem keys_kt {H : Hp} : ∀ {kvs : List (List Key × V)} {ks : List (List Key × Addr × Value)} {ps : List (List Int)}, KT H kvs ks → KeysI kvs ps → (∀ b ∈ ks.map (fun x => x.2.1), ∃ q : List Int, H b = some (.tup (q.map V.int))) ∧ (ks.map fun x => x.2.1).map (keyOf H) = ps
  | _, _, ps, .nil, h => by
    cases ps with
    | nil => exact ⟨fun b hb => by simp at hb, rfl⟩
    | cons q ps => cases h
  | _, _, ps, .cons (a := kv) (b := x) hx t, h => by
    cases ps with
    | nil => cases h
    | cons q ps =>
      have h' : kv.1 :: _ = q.map Sum.inl :: ps.map (List.map Sum.inl) := h
      obtain ⟨e1, e2⟩ := List.cons.inj h'
      obtain ⟨i1, i2⟩ := keys_kt t e2
      have hq : H x.2.1 = some (.tup (q.map V.int)) := by
        rw [hx.2.1, e1, List.map_map]
        rfl
      refine ⟨fun b hb => ?_, ?_⟩
      · rcases List.mem_cons.mp hb with rfl | hb
        · exact ⟨q, hq⟩
        · exact i1 b hb
      · show keyOf H x.2.1 :: _ = q :: ps
        rw [keyOf_at hq, i2]
theorem cr_sortDT (hc : X.calm = true) : CallRK X (.builtin "sorted") [Str.ofString "reverse"] rSortDT := by
  intro pins s σ H vs zs us ws Q I r rz h
  obtain ⟨d, kvs, ps, rfl, rfl, hd, hK, hne, q⟩ := h
  obtain rfl := Vals.ref1 r
  obtain ⟨w1, rfl, e1⟩ := vals1 rz
  obtain rfl : w1 = Value.bool true := e1
  obtain ⟨z, hs, ks, pr, o, es, ep, ho, hx, hdt, he, hn⟩ := (show ObjOk X.prog X.w H s.heap d (.dT kvs) from hd.ok I.hok)
  have l1 : es.size = ks.length := size_of_entries he
  have l2 : kvs.length = ks.length := Paired.length pr
  obtain ⟨k1, k2⟩ := keys_kt pr hK
  have l3 : ks.length = ps.length := by
    rw [← k2, List.length_map, List.length_map]
  show wpAny (model X.prog X.w) X.A (call (.builtin "sorted") [.ref d] [(Str.ofString "reverse", .bool true)]) _ _ _
  refine PyProof.Rows.call_function_entry_kw PyProof.Rows.kind_sorted PyProof.Rows.plain_sorted PyProof.Rows.entry_sorted (PyProof.Rows.args_sorted_rev _ _) ?_
  unfold Builtin.«sorted»
  refine wpAny_bind (m := checkCount "sorted" 1 1 _) (wpAny_pure ?_)
  refine wpAny_bind (PySem.W.kdu_collect (A := X.A.in1) (kdl_raw hs hx hdt) (I.ok.hd hc) ho (by omega) fun h' tk acc hk hacc => ?_)
  have ea := acc_keys he hacc
  generalize (ks.map fun x => x.2.1) = ts at ea k1 k2
  have I1 : Inv X pins σ H { s with heap := h', toks := tk } := I.kept hk
  have lts : ts.length = ps.length := by
    rw [← k2, List.length_map]
  have lz : acc.toList.length ≤ sizeLine := by
    rw [ea, List.length_map]
    omega
  refine wpAny_bind (wpAny_newList ?_ lz)
  have hoL : (h'.push (seqObj "list" acc.toList.toArray 0)).get? h'.objs.size = some (seqObj "list" acc.toList.toArray 0) := Heap.get?_push_size _ rfl
  show wpAny _ _ _ _ _ { s with heap := h'.push (seqObj "list" acc.toList.toArray 0), toks := tk }
  have kp : ∀ b o, h'.get? b = some o → b ≠ h'.objs.size ∧ (h'.push (seqObj "list" acc.toList.toArray 0)).get? b = some o := fun b o e => ⟨Nat.ne_of_lt (Heap.lt_size e), Heap.get?_push_of_some _ e⟩
  refine wpAny_bind (wpAny_holding (wpAny_call_entry_kw PyProof.Rows.slot_list_sort ⟨_, hoL, rfl⟩ PyProof.Rows.entry_list_sort (SrtR.list_sort_ordR (b := true) (s := { s with heap := h'.push (seqObj "list" acc.toList.toArray 0), toks := tk }) (NtL.swo_lexL fun v => keyOf H (unRef v)) hoL lz (fun h2 => ?_) fun out g1 g2 => ⟨_, rfl, ?_⟩) (PyProof.Rows.args_list_sort_rev _ _)))
  · refine tups_sortable (s := { s with heap := h'.push (seqObj "list" acc.toList.toArray 0), toks := tk }) (by omega) (fun v hv => ?_) (fun v hv => ?_) fun o e => ?_
    · rw [ea] at hv
      obtain ⟨t, ht, rfl⟩ := List.mem_map.mp hv
      obtain ⟨q', hq'⟩ := k1 t ht
      exact (tupI_of I1 hq').keeps fun b o e _ => (kp b o e).2
    · rw [ea] at hv
      obtain ⟨t, ht, rfl⟩ := List.mem_map.mp hv
      rw [ea, List.length_map, lts] at h2
      refine hne h2 _ ?_
      rw [← k2]
      exact List.mem_map.mpr ⟨t, ht, rfl⟩
    · have e' : some o = some (seqObj "list" acc.toList.toArray 0) := e.symm.trans hoL
      cases e'
      intro c
      exact absurd (Value.type.inj c) (by decide)
  · rw [if_pos rfl] at g2
    have hm : ∀ u ∈ out, u ∈ ts.map Value.ref := fun u hu => by
      rw [← ea]
      exact List.mem_reverse.mp (g2.perm.mem_iff.mp hu)
    have eo := ref_map hm
    have hp : (out.map unRef).Perm ts := by
      have z := (g2.perm.trans (List.reverse_perm _)).map unRef
      rw [unRef_map ea] at z
      exact z
    obtain ⟨n, hn'⟩ := PyProof.Rows.sortedHeap_at (vs := acc.toList) (out := out.toArray.reverse) hoL
    have er : (out.toArray.reverse) = (out.reverse).toArray := by simp
    refine wpAny_pure ⟨_, rfl, .ref h'.objs.size, upd H h'.objs.size (.lst ((out.map unRef).reverse.map V.ref)), I1.laid (t' := tk) (fun b u e => ?_) (Nat.le_refl _) ⟨?_, out.reverse, n, ?_, ?_⟩, rfl, q _ _ (fun b hb => k1 b (hp.mem_iff.mp (List.mem_reverse.mp hb))) ?_ ?_ (I1.hok.fresh (Nat.le_refl _))⟩
    · have hb : b < h'.objs.size := Heap.lt_size e
      rw [if_pos rfl, PyProof.Rows.sortedHeap_old (Nat.ne_of_lt hb) (by rw [size_push']; exact Nat.lt_succ_of_lt hb)]
      exact Heap.get?_push_of_some _ e
    · rw [List.length_map, List.length_reverse, hp.length_eq]
      omega
    · have z := vals_refs (out.map unRef).reverse
      rw [List.map_reverse, List.map_reverse, ← eo] at z
      rw [List.map_reverse]
      exact z
    · rw [if_pos rfl, ← er]
      exact hn'
    · rw [← k2]
      exact ((List.reverse_perm _).trans hp).map (keyOf H)
    · rw [List.pairwise_reverse]
      exact List.pairwise_map.mpr g1
end
end Bw
set_option Elab.async false
set_option linter.all false
set_option maxRecDepth 100000
set_option maxHeartbeats 4000000
namespace Bw
open PySem PySem.Spec PyProof.Rows L2
def mergeT (kvs more : List (List Key × V)) : List (List Key × V) := more.foldl (fun acc kv => putK acc kv.1 kv.2) kvs
/-- dict(xs), a list of pairs (key, value), the keys tuples: later ones win, at the first one's place -/
def rDictPT (K : PySem.W.Frag) : List V → Hp → VK → Prop := fun vs H Q => ∃ (a : Addr) (ts : List Addr) (its : List (List Key × Addr × V)), vs = [V.ref a] ∧ SqL K H a (ts.map V.ref) ∧
  Paired (fun t (x : List Key × Addr × V) => H t = some (.tup [.ref x.2.1, x.2.2]) ∧ H x.2.1 = some (.tup (x.1.map kV))) ts its ∧ ∀ p, H p = none → Q (.ref p) (upd H p (.dT (mergeT [] (its.map fun x => (x.1, x.2.2)))))
section
variable {X : Cx} {pins : List (Addr × Obj)} {s : Shared} {σ : L2.St} {H : Hp}
theorem pairsT_of (I : L2.Inv X pins σ H s) : ∀ {ts : List Addr} {its : List (List Key × Addr × V)}, Paired (fun t (x : List Key × Addr × V) => H t = some (.tup [.ref x.2.1, x.2.2]) ∧ H x.2.1 = some (.tup (x.1.map kV))) ts its →
    ∃ ps : List (List Key × Addr × Value), Paired (fun (x : List Key × Addr × V) (q : List Key × Addr × Value) => x.1 = q.1 ∧ H q.2.1 = some (.tup (q.1.map kV)) ∧ RelV x.2.2 q.2.2) its ps ∧ ps.length = ts.length ∧
      ∀ (j : Nat) (q : List Key × Addr × Value), ps[j]? = some q → ∃ t, ts[j]? = some t ∧ s.heap.IsTuple t #[.ref q.2.1, q.2.2]
  | _, _, .nil => ⟨[], .nil, rfl, fun j q e => by simp at e⟩
  | _, _, .cons (a := t) (b := x) h r => by
    obtain ⟨ps, r1, hl, hp⟩ := pairsT_of I r
    obtain ⟨_, us, rv, hT⟩ := I.hok _ _ h.1
    obtain ⟨u1, u2, rfl, e1, e2⟩ := vals2 rv
    obtain rfl : u1 = Value.ref x.2.1 := e1
    refine ⟨(x.1, x.2.1, u2) :: ps, .cons ⟨rfl, h.2, e2⟩ r1, by rw [List.length_cons, List.length_cons, hl], fun j q e => ?_⟩
    cases j with
    | zero =>
      cases (Option.some.inj e)
      exact ⟨t, rfl, hT⟩
    | succ j => exact hp j q e
theorem kt_merge {H' : Hp} : ∀ {its : List (List Key × Addr × V)} {ps : List (List Key × Addr × Value)} {kvs : List (List Key × V)} {xs : List (List Key × Addr × Value)}, Paired (fun (x : List Key × Addr × V) (q : List Key × Addr × Value) => x.1 = q.1 ∧ H' q.2.1 = some (.tup (q.1.map kV)) ∧ RelV x.2.2 q.2.2) its ps → KT H' kvs xs →
    KT H' (mergeT kvs (its.map fun x => (x.1, x.2.2))) (storedAllH xs ps)
  | _, _, _, _, .nil, k => k
  | _, _, kvs, xs, .cons (a := x) (b := q) h r, k => by
    have z := KT.put k q.1 h.2.1 h.2.2
    rw [← h.1] at z
    have z2 := kt_merge (kvs := putK kvs x.1 x.2.2) (xs := storedH xs x.1 q.2.1 q.2.2) r z
    show KT H' (mergeT (putK kvs x.1 x.2.2) _) (storedAllH (storedH xs q.1 q.2.1 q.2.2) _)
    rw [← h.1]
    exact z2
theorem putT_len (kvs : List (List Key × V)) (k : List Key) (v : V) : (putK kvs k v).length ≤ kvs.length + 1 := length_putK kvs k v
theorem mergeT_len : ∀ (more kvs : List (List Key × V)), (mergeT kvs more).length ≤ kvs.length + more.length
  | [], kvs => Nat.le_refl _
  | m :: more, kvs => by
    show (mergeT (putK kvs m.1 m.2) more).length ≤ _
    have h1 := mergeT_len more (putK kvs m.1 m.2)
    have h2 := putT_len kvs m.1 m.2
    rw [List.length_cons]
    omega
end
theorem cr_dictPT {X : Cx} {K : PySem.W.Frag} (hc : X.calm = true) (hu : X.A.units + 64 < cLine) (hK : X.K = K := by rfl) : CallR X (.type "dict") (rDictPT K) := by
  subst hK
  intro pins s σ H vs us Q I r h
  obtain ⟨a, ts, its, rfl, hs, hp, q⟩ := h
  obtain ⟨vs, rv, hl, hz⟩ := I.list hs
  obtain ⟨u, rfl, ru⟩ := vals1 r
  obtain rfl : u = Value.ref a := ru
  have ei := refs_at rv
  obtain ⟨o, n, ho, hcl, hd, hdat⟩ := hl
  obtain ⟨ps, r1, lp, hpt⟩ := pairsT_of I hp
  have lts : ts.length ≤ sizeLine := by
    rw [List.length_map] at hz
    exact hz
  let vps : List (Value × Value) := ps.map fun q => (Value.ref q.2.1, q.2.2)
  have lv : vps.length = ts.length := by
    show (ps.map _).length = _
    rw [List.length_map, lp]
  have hkey : ∀ x ∈ ps, H x.2.1 = some (.tup (x.1.map kV)) := by
    clear hpt lp lv vps hp q
    induction r1 with
    | nil => intro x hx; simp at hx
    | cons h t ih =>
      intro x hx
      rcases List.mem_cons.mp hx with rfl | hx
      · exact h.2.1
      · exact ih x hx
  refine call_dict_pairsH (knd := tupleKind (mixKind X.prog X.w)) (ps := ps) (PairArg.list a vs.toArray (fun j => (ts[j]?).getD 0) vps) (I.ok.hd hc) (show (X.A.in1.in1).units < cLine from ?_) ⟨⟨o, n, ho, hcl, hd, hdat⟩, ?_, fun j k v e => ?_⟩ ⟨by rw [lv, lp], fun i key v e => ?_⟩ (fun h' hk x hx => ?_) (by rw [lv]; exact lts) fun h' tk hd' hk => ?_
  · show X.A.units + 1 + 1 < cLine
    omega
  · rw [List.size_toArray, ei, List.length_map, lv]
  · obtain ⟨x, ex, e2⟩ : ∃ x, ps[j]? = some x ∧ (Value.ref x.2.1, x.2.2) = (k, v) := by
      have e' : (ps.map fun q => (Value.ref q.2.1, q.2.2))[j]? = some (k, v) := e
      rw [List.getElem?_map] at e'
      cases hx : ps[j]? with
      | none =>
        rw [hx] at e'
        cases e'
      | some x =>
        rw [hx] at e'
        exact ⟨x, rfl, Option.some.inj e'⟩
    cases e2
    obtain ⟨t, et, hT⟩ := hpt j x ex
    have eg : (ts[j]?).getD 0 = t := by
      rw [et]
      rfl
    refine ⟨?_, .inl ?_⟩
    · show vs.toArray[j]? = some (Value.ref ((ts[j]?).getD 0))
      rw [eg, ei, List.getElem?_toArray, List.getElem?_map, et]
      rfl
    · show s.heap.IsTuple ((ts[j]?).getD 0) _
      rw [eg]
      exact hT
  · have e' : (ps.map fun q => (Value.ref q.2.1, q.2.2))[i]? = some (key, v) := e
    rw [List.getElem?_map] at e'
    cases hx : ps[i]? with
    | none =>
      rw [hx] at e'
      cases e'
    | some x =>
      rw [hx] at e'
      cases (Option.some.inj e')
      exact ⟨x.1, x.2.1, rfl, rfl⟩
  · have hb := key_of I.hok (hkey x hx)
    obtain ⟨ob, items, m, h1, h2, h3, h4⟩ := hb
    exact ⟨ob, items, m, hk _ _ (Nat.ne_of_lt (Heap.lt_size h1)) (by simp) h1, h2, h3, h4⟩
  · have hm : (s.heap.objs.size == sysModules) = false := beq_eq_false_iff_ne.mpr (Nat.ne_of_gt I.big)
    obtain ⟨q', es, ep, hq, h2, h3, h4, _, h5⟩ := hd'
    have hlen : (mergeT [] (its.map fun x => (x.1, x.2.2))).length ≤ sizeLine := by
      have z := mergeT_len (its.map fun x => (x.1, x.2.2)) []
      rw [List.length_map, List.length_nil, ← Paired.length hp] at z
      omega
    have hf : H s.heap.objs.size = none := I.hok.fresh (Nat.le_refl _)
    refine ⟨.ref s.heap.objs.size, upd H s.heap.objs.size (.dT (mergeT [] (its.map fun x => (x.1, x.2.2)))), I.laid (t' := tk) (fun b o e => hk b o (by simp) e) (Nat.le_refl _) ⟨hlen, hm, storedAllH [] ps, (kt_merge r1 .nil).keeps fun b ys hb => ?_, q', es, ep, hq, h2, h3, h4, h5⟩, rfl, q _ hf⟩
    rw [upd_ne (ne_of_none hb hf)]
    exact hb
end Bw
set_option Elab.async false
set_option linter.all false
set_option maxRecDepth 100000
namespace Bw
open PySem PySem.Spec PyProof.Rows L2
/-! ### a def that may be called, by its name -/
structure Cal (P : Program) (w : World) (K : PySem.W.Frag) (mg : Str → Option Value) (base : Heap) (CX : CXT) (k : Nat) (x : Str) (ps : List Str) (sp : Sp) : Prop where
  ex : ∃ (f : Addr) (fd : FuncData), FnOk P w K mg base CX k f fd ps sp ∧ mg x = some (.ref f) ∧ PySem.W.keepIn K (.ref f) = true ∧ Binds K fd ps []
section
variable {X : Cx} {x : Str} {ps : List Str} {sp : Sp} {k : Nat} {e : Expr} {es : List Expr} {p pos : Pos} {t : TA}
theorem pe_cal (C : Cal X.prog X.w X.K X.mg X.base CX0 k x ps sp) (hr : Room k X.A) (hg : Gl X x) (ha : PA X (e :: es) t) (hdb : (x == ("__debug__" : Str)) = false := by decide) (he : starEach (e :: es) X.env = (false, eval e X.env) :: starEach es X.env := by rfl)
    (hpl : (backTo pos (starEach es X.env)).any (·.1) = false := by rfl) : PE X (.Call (.Name x p) (e :: es) [] pos) (tCall sp [] E0 t) := by
  obtain ⟨f, fd, F, hm, hk, hb⟩ := C.ex
  exact pe_call F hr hg hm hk hb .nil pass0 ha hdb he hpl
end
/-! ### the rules with the written part named: within comprehensions the reading must not hang on the block -/
section
variable {X : Cx} {K : PySem.W.Frag}
def rTupOf (K : PySem.W.Frag) : List V → Hp → VK → Prop := fun xs H Q => ∃ p ys, xs = [V.ref p] ∧ ((SqL K H p ys ∧ ∀ l, H l = none → Q (.ref l) (upd H l (.tup ys))) ∨ (SqT K H p ys ∧ Q (.ref p) H))
def rLstOf (K : PySem.W.Frag) : List V → Hp → VK → Prop := fun xs H Q => ∃ p ys, xs = [V.ref p] ∧ (SqL K H p ys ∨ SqT K H p ys) ∧ ∀ l, H l = none → Q (.ref l) (upd H l (.lst ys))
def rLenOf (K : PySem.W.Frag) : List V → Hp → VK → Prop := fun xs H Q => ∃ p ys, xs = [V.ref p] ∧ (SqL K H p ys ∨ SqT K H p ys) ∧ Q (.int ys.length) H
theorem c_tup (h : X.K = K := by rfl) : CallR X (.type "tuple") (rTupOf K) := by
  subst h
  exact call_tuple_of
theorem c_lst (h : X.K = K := by rfl) : CallR X (.type "list") (rLstOf K) := by
  subst h
  exact call_list_of
theorem c_len (h : X.K = K := by rfl) : CallR X (.builtin "len") (rLenOf K) := by
  subst h
  exact call_len_seq
theorem c_isi (h : X.K = K := by rfl) : CallR X (.builtin "isinstance") (rIsi K) := by
  subst h
  exact call_isi
theorem c_isiT (h : X.K = K := by rfl) : CallR X (.builtin "isinstance") (rIsiT K) := by
  subst h
  exact call_isiT
theorem c_all (hc : X.calm = true) (h : X.K = K := by rfl) : CallR X (.builtin "all") (rAll K) := by
  subst h
  exact cr_all hc
theorem c_any (hc : X.calm = true) (h : X.K = K := by rfl) : CallR X (.builtin "any") (rAny K) := by
  subst h
  exact cr_any hc
theorem i_list (h : X.K = K := by rfl) : IxR X (rIxL K) := by
  subst h
  exact ix_list
theorem i_tup (h : X.K = K := by rfl) : IxR X (rIxT K) := by
  subst h
  exact ix_tup
theorem l_list (h : X.K = K := by rfl) : SlR X (rSlL K) := by
  subst h
  exact sl_list
theorem l_tup (h : X.K = K := by rfl) : SlR X (rSlA K) := by
  subst h
  exact sl_tupA
theorem o_cat (h : X.K = K := by rfl) : OpR X (binaryOp .Add) (rCatA K) := by
  subst h
  exact op_catA
theorem o_in (h : X.K = K := by rfl) : OpR X (compareOp .In) (rIn K false) := by
  subst h
  exact op_in_seq
theorem o_notin (h : X.K = K := by rfl) : OpR X (compareOp .NotIn) (rIn K true) := by
  subst h
  exact op_notIn_seq
theorem p_list {tg l : Expr} {tl : TE} (hl : PE X l tl) (h : X.K = K := by rfl) : PI X tg l (iList K tl) := by
  subst h
  exact pi_list hl
theorem p_tup {tg l : Expr} {tl : TE} (hl : PE X l tl) (h : X.K = K := by rfl) : PI X tg l (iTup K tl) := by
  subst h
  exact pi_tup hl
theorem g_tup {es : List Expr} {k : Nat} {t : TGs} {n : Nat} {pos : Pos} (hc : X.calm = true) (h : PGs X es t) (hn : (assignEach es X.env).length = n := by rfl) (hst : (assignEach es X.env).findIdx? (·.1) = none := by rfl) (hK : X.K = K := by rfl) : PG X (.Tuple es k pos) (gTup K n t) := by
  subst hK
  exact pg_tup hc h hn hst
theorem pe_gint {x : Str} {pos : Pos} {i : Int} (hg : Gl X x) (hm : ∃ t, X.mg x = some (.int i t)) (hdb : (x == ("__debug__" : Str)) = false := by decide) : PE X (.Name x pos) (tC (.int i)) := by
  obtain ⟨t, hm⟩ := hm
  exact pe_glob hg hm ⟨t, rfl⟩ (hd := hdb)
end
/-! ### heaps -/
theorem same_upd {H : Hp} {p : Addr} {o : HO} (h : H p = none) : Same H (upd H p o) := fun b x e => by
  rw [upd_ne (ne_of_none e h)]
  exact e
/-- all but what stands at f is as it was -/
def SameBut (f : Addr) (H H' : Hp) : Prop := ∀ b o, b ≠ f → H b = some o → H' b = some o
theorem SameBut.refl (f : Addr) (H : Hp) : SameBut f H H := fun _ _ _ h => h
theorem SameBut.trans {f : Addr} {H H1 H2 : Hp} (a : SameBut f H H1) (b : SameBut f H1 H2) : SameBut f H H2 := fun c o n h => b c o n (a c o n h)
theorem SameBut.upd {f : Addr} {H H1 : Hp} {o : HO} (a : SameBut f H H1) : SameBut f H (upd H1 f o) := fun c o n h => by
  rw [upd_ne n]
  exact a c o n h
theorem SameBut.new {f p : Addr} {H H1 : Hp} {o : HO} (a : SameBut f H H1) (h : H1 p = none) : SameBut f H (L2.upd H1 p o) := fun c o n q => by
  have z := a c o n q
  rw [upd_ne (ne_of_none z h)]
  exact z
theorem _root_.L2.Same.but {f : Addr} {H H1 : Hp} (a : Same H H1) : SameBut f H H1 := fun c o _ h => a c o h
theorem SameBut.same {f : Addr} {H0 H H1 : Hp} (a : SameBut f H H1) (h : H0 f = none) (s : Same H0 H) : Same H0 H1 := fun c o q => a c o (ne_of_none q h) (s c o q)
/-! ### what the law draws from -/
def FeedAt (H : Hp) (f l : Addr) : Prop := ∃ (ns : List Int) (i : Nat) (n m c : Int), l ≠ f ∧ H f = some (.lst [.ref l, .int i, .int n, .int m, .int c]) ∧ H l = some (.lst (ns.map V.int)) ∧ i ≤ ns.length ∧ 0 ≤ n ∧ 0 ≤ m ∧ m < 2147483647
theorem FeedAt.same {H H' : Hp} {f l : Addr} (s : Same H H') (h : FeedAt H f l) : FeedAt H' f l := by
  obtain ⟨ns, i, n, m, c, a, b, d, r⟩ := h
  exact ⟨ns, i, n, m, c, a, s _ _ b, s _ _ d, r⟩
theorem FeedAt.put {H : Hp} {f l b : Addr} {o : HO} (h : FeedAt H f l) (n1 : b ≠ f) (n2 : b ≠ l) : FeedAt (upd H b o) f l := by
  obtain ⟨ns, i, n, m, c, a, b', d, r⟩ := h
  exact ⟨ns, i, n, m, c, a, by rw [upd_ne (Ne.symm n1)]; exact b', by rw [upd_ne (Ne.symm n2)]; exact d, r⟩
theorem FeedAt.ne {H : Hp} {f l p : Addr} (h : FeedAt H f l) (n : H p = none) : p ≠ f := by
  obtain ⟨_, _, _, _, _, _, b, _⟩ := h
  exact Ne.symm (ne_of_none b n)
theorem FeedAt.ne2 {H : Hp} {f l p : Addr} (h : FeedAt H f l) (n : H p = none) : p ≠ l := by
  obtain ⟨_, _, _, _, _, _, _, d, _⟩ := h
  exact Ne.symm (ne_of_none d n)
theorem FeedAt.tup {H : Hp} {f l p : Addr} {xs : List V} (h : FeedAt H f l) (n : H p = some (.tup xs)) : p ≠ f := by
  obtain ⟨_, _, _, _, _, _, b, _⟩ := h
  exact ne_of n b (by intro z; cases z)
theorem SameBut.updN {f b : Addr} {H H1 : Hp} {o : HO} (a : SameBut f H H1) (h : H b = none) : SameBut f H (L2.upd H1 b o) := fun c o n q => by
  rw [upd_ne (ne_of_none q h)]
  exact a c o n q
theorem int_at {ns : List Int} {i : Nat} {y : V} (h : (ns.map V.int)[i]? = some y) : ∃ u, ns[i]? = some u ∧ y = .int u := by
  rw [List.getElem?_map] at h
  cases e : ns[i]? with
  | none =>
    rw [e] at h
    cases h
  | some u =>
    rw [e] at h
    exact ⟨u, rfl, (Option.some.inj h).symm⟩
end Bw
set_option Elab.async false
set_option linter.all false
set_option maxRecDepth 100000
set_option maxHeartbeats 4000000
namespace Bw
open PySem PySem.Spec PyProof.Rows L2
theorem tuple_mul1 (l : Addr) (items : Array Value) (n : Nat) (dd : Option Addr) (sl : Array (Option Value)) (u : Tok) :
    Meets (Builtin.«tuple.__mul__» ⟨[.ref l, .int 1 u], []⟩) (fun _ R s => s.heap.get? l = some { cls := .type "tuple", dict := dd, data := .seq items n, slots := sl } ∧ R (.ok (.ret (Value.ref l))) s) :=
  .of_wp fun prog w A R s h => by
    obtain ⟨hp, g, d, tk, os⟩ := s
    obtain ⟨hl, h⟩ := h
    have f1 := AutoSeq1.idx_int
    have c1 : (items.isEmpty || (1 : Int) == 1) = true := by simp
    wp_walk using wpAny_loadPart' hl
    repeat (first
      | (refine wpAny_ite_true (decide_eq_true c1) ?_; wp_walk using wpAny_loadPart' hl)
      | (refine wpAny_ite_false (by decide) ?_; wp_walk using wpAny_loadPart' hl))
    exact ⟨_, rfl, h⟩
/-- t * k, k from 1 on -/
def rRep1 (K : PySem.W.Frag) : R2 := fun x y H Q => ∃ l k xs, x = .ref l ∧ y = .int k ∧ SqT K H l xs ∧ xs ≠ [] ∧ 1 ≤ k ∧ k ≤ 1000 ∧ xs.length ≤ 1000 ∧ (k = 1 → Q (.ref l) H) ∧ (2 ≤ k → ∀ p, H p = none → Q (.ref p) (upd H p (.tup (List.replicate k.toNat xs).flatten)))
theorem o_rep {X : Cx} {K : PySem.W.Frag} (hK : X.K = K := by rfl) : OpR X (binaryOp .Mult) (rRep1 K) := by
  subst hK
  intro pins s σ H x y v u Q I rx ry h
  obtain ⟨l, k, xs, rfl, rfl, hT, hne, h1, h2, hz, q1, q2⟩ := h
  by_cases hk : k = 1
  · subst hk
    cases rx
    obtain ⟨t, rfl⟩ := ry
    obtain ⟨its, r, ⟨⟨cls, dd, data, sl⟩, ho, hc, n, hd⟩, hs⟩ := I.tuple hT
    simp only at hc hd
    subst hc hd
    refine wpAny_binaryOp_repeat_ref (T := "tuple") (U := "int") (by decide) ⟨_, ho, rfl⟩ (fun s' => typeIs_int s' 1 t) noFill_tuple_mul F.fills_int_mul F.slot_int_rmul repeat_tuple F.slot_int_index.lookup
      (call_meets F.slot_int_rmul (typeIs_int s 1 t) F.entry_int_rmul (F.args_int_rmul_2 _ _) (int_rmul_tuple 1 t l its.toArray n dd sl)
        ⟨ho, rfl, ⟨_, ho, rfl⟩, call_meets F.slot_tuple_mul ⟨_, ho, rfl⟩ F.entry_tuple_mul (F.args_tuple_mul_2 _ _) (tuple_mul1 l its.toArray n dd sl t) ⟨ho, ?_⟩⟩)
    exact ⟨.ref l, H, I, rfl, q1 rfl⟩
  · exact op_repT pins s σ H _ _ v u Q I rx ry ⟨l, k, xs, rfl, rfl, hT, hne, by omega, h2, hz, q2 (by omega)⟩
end Bw
set_option Elab.async false
set_option linter.all false
set_option maxRecDepth 100000
set_option maxHeartbeats 4000000
namespace Bw
open PySem PySem.Spec PyProof.Rows L2
/-! ### t * k, k from 0 on -/
theorem tuple_mul0 (l : Addr) (items : Array Value) (n : Nat) (dd : Option Addr) (sl : Array (Option Value)) (u : Tok) (hne : items.isEmpty = false) :
    Meets (Builtin.«tuple.__mul__» ⟨[.ref l, .int 0 u], []⟩) (fun _ R s => s.heap.get? l = some { cls := .type "tuple", dict := dd, data := .seq items n, slots := sl } ∧ R (.ok (.ret (Value.ref s.heap.objs.size))) { s with heap := s.heap.push { cls := Value.type "tuple", data := Data.seq #[] }, toks := s.toks }) :=
  .of_wp fun prog w A R s h => by
    obtain ⟨hp, g, d, tk, os⟩ := s
    obtain ⟨hl, h⟩ := h
    have f1 := AutoSeq1.idx_int
    have c1 : (items.isEmpty || (0 : Int) == 1) = false := by rw [hne]; rfl
    have c2 : (decide ((0 : Int) ≤ 0) || items.isEmpty) = true := by simp
    wp_walk using wpAny_loadPart' hl
    repeat (first
      | (refine wpAny_ite_true (decide_eq_true c2) ?_; wp_walk using wpAny_loadPart' hl)
      | (refine wpAny_ite_false (by decide) ?_; wp_walk using wpAny_loadPart' hl)
      | (refine wpAny_ite_false (decide_eq_false (by rw [c1]; exact Bool.false_ne_true)) ?_; wp_walk using wpAny_loadPart' hl))
    exact ⟨_, rfl, h⟩
def rRepZ (K : PySem.W.Frag) : R2 := fun x y H Q => ∃ l k xs, x = .ref l ∧ y = .int k ∧ SqT K H l xs ∧ xs ≠ [] ∧ 0 ≤ k ∧ k ≤ 1000 ∧ xs.length ≤ 1000 ∧ (k = 0 → ∀ p, H p = none → Q (.ref p) (upd H p (.tup []))) ∧ (k = 1 → Q (.ref l) H) ∧ (2 ≤ k → ∀ p, H p = none → Q (.ref p) (upd H p (.tup (List.replicate k.toNat xs).flatten)))
theorem o_repZ {X : Cx} {K : PySem.W.Frag} (hK : X.K = K := by rfl) : OpR X (binaryOp .Mult) (rRepZ K) := by
  subst hK
  intro pins s σ H x y v u Q I rx ry h
  obtain ⟨l, k, xs, rfl, rfl, hT, hne, h1, h2, hz, q0, q1, q2⟩ := h
  by_cases hk : k = 0
  · subst hk
    cases rx
    obtain ⟨t, rfl⟩ := ry
    obtain ⟨its, r, ⟨⟨cls, dd, data, sl⟩, ho, hc, n, hd⟩, hs⟩ := I.tuple hT
    simp only at hc hd
    subst hc hd
    have hi : its.toArray.isEmpty = false := by
      cases its with
      | nil =>
        cases r
        exact absurd rfl hne
      | cons a b => rfl
    refine wpAny_binaryOp_repeat_ref (T := "tuple") (U := "int") (by decide) ⟨_, ho, rfl⟩ (fun s' => typeIs_int s' 0 t) noFill_tuple_mul F.fills_int_mul F.slot_int_rmul repeat_tuple F.slot_int_index.lookup
      (call_meets F.slot_int_rmul (typeIs_int s 0 t) F.entry_int_rmul (F.args_int_rmul_2 _ _) (int_rmul_tuple 0 t l its.toArray n dd sl)
        ⟨ho, rfl, ⟨_, ho, rfl⟩, call_meets F.slot_tuple_mul ⟨_, ho, rfl⟩ F.entry_tuple_mul (F.args_tuple_mul_2 _ _) (tuple_mul0 l its.toArray n dd sl t hi) ⟨ho, ?_⟩⟩)
    exact ⟨.ref s.heap.objs.size, _, I.laid (t' := s.toks) (o := .tup []) (fun b ob z => Heap.get?_push_of_some _ z) (Nat.le_refl _) ⟨Nat.zero_le _, [], .nil, IsTup.new _ _⟩, rfl, q0 rfl _ (I.hok.fresh (Nat.le_refl _))⟩
  · exact o_rep (X := X) rfl pins s σ H _ _ v u Q I rx ry ⟨l, k, xs, rfl, rfl, hT, hne, by omega, h2, hz, q1, q2⟩
/-! ### len(x), x == y, x != y of own instances -/
section
variable {X : Cx} {CX : CXT} {C f : Addr} {fd : FuncData} {ps : List Str} {sp : Sp} {n : Nat} {E : XK}
def rLenOwn (C : Addr) (sp : Sp) (E : XK) : List V → Hp → VK → Prop := fun xs H Q => ∃ a dx fs, xs = [V.ref a] ∧ H a = some (.ins C dx fs) ∧ sp [.ref a] H (fun z H' => ∃ i : Int, z = .int i ∧ 0 ≤ i ∧ i < 2 ^ 63 ∧ Q (.int i) H') E
theorem c_lenOwn (hs : PySem.W.findIn X.K (.ref C) "__len__" = some (some (.ref f))) (hf : PySem.W.isFn X.K (.ref f) = true) (F : FnOk X.prog X.w X.K X.mg X.base CX n f fd ps sp) (hr : Room (n + 1) X.A) (hb : Binds X.K fd ps []) (hx : Passes CX X E) : CallR X (.builtin "len") (rLenOwn C sp E) := by
  intro pins s σ H xs us Q I r h
  obtain ⟨a, dx, fs, rfl, ha, q⟩ := h
  obtain ⟨u, rfl, ru⟩ := vals1 r
  obtain rfl : u = Value.ref a := ru
  obtain ⟨mA, J, _⟩ := ins_get I.hok ha
  obtain ⟨od, J, _⟩ := J.look
  obtain ⟨m, hF⟩ := I.fr
  refine PySem.W.len_K hF I.ok.mod.kin J hs hf ?_
  have hl := F.len _ _ _ _ q
  refine wpAny_call (codeAny_mono (F.run X.A.in1 X.stack s H ⟨[.ref a], []⟩ [.ref a] [.ref a] _ E hr.in1 I.env0.in1 (by
    have z := hb s [.ref a] I.kIn (by simpa using hl)
    simpa using z) (.cons rfl .nil) q) fun r s' hq => ?_)
  cases r with
  | error e => exact hx pins σ H s e s' I hq
  | ok fl =>
    cases fl with
    | ret w =>
      obtain ⟨z, H', I', rz, i, ei, i0, i1, qz⟩ := I.after hq
      subst ei
      obtain ⟨t, rfl⟩ := (show ∃ t, w = Value.int i t from rz)
      exact ⟨⟨i0, i1⟩, .int i, H', I'.tok _, ⟨_, rfl⟩, qz⟩
    | next => exact False.elim hq
    | brk => exact False.elim hq
    | cont => exact False.elim hq
def rEqOwn (C : Addr) (sp : Sp) (E : XK) (neg : Bool) : R2 := fun x y H Q => ∃ a dx fs b dy gs, x = .ref a ∧ y = .ref b ∧ H a = some (.ins C dx fs) ∧ H b = some (.ins C dy gs) ∧ sp [.ref a, .ref b] H (fun z H' => ∃ c : Bool, z = .bl c ∧ Q (.bl (if neg then !c else c)) H') E
theorem own_run (F : FnOk X.prog X.w X.K X.mg X.base CX n f fd ps sp) {A : Around} (hr : Room n A) (hfr : A.frames = X.A.frames) (hb : Binds X.K fd ps []) (hx : Passes CX X E) {pins : List (Addr × Obj)} {s : Shared} {σ : L2.St} {H : Hp} {a b : Addr} {Q : Bool → Hp → Prop} (I : L2.Inv X pins σ H s)
    (q : sp [.ref a, .ref b] H (fun z H' => ∃ c : Bool, z = .bl c ∧ Q c H') E) : wpAny (model X.prog X.w) A (call (.ref f) [.ref a, .ref b]) (fun v s' => ∃ (c : Bool) (H' : Hp), v = .bool c ∧ L2.Inv X pins σ H' s' ∧ Q c H') X.xe s := by
  have hl := F.len _ _ _ _ q
  have e0 : Env0 X.prog X.w X.K X.mg X.base A X.stack s H := by
    have e := I.env0
    exact ⟨by rw [hfr]; exact e.frames, e.mod, e.bs, e.bsz, e.funs, e.frf, e.hok, e.bare⟩
  refine wpAny_call (codeAny_mono (F.run A X.stack s H ⟨[.ref a, .ref b], []⟩ [.ref a, .ref b] [.ref a, .ref b] _ E hr e0 (by
    have z := hb s [.ref a, .ref b] I.kIn (by simpa using hl)
    simpa using z) (.cons rfl (.cons rfl .nil)) q) fun r s' hq => ?_)
  cases r with
  | error e => exact hx pins σ H s e s' I hq
  | ok fl =>
    cases fl with
    | ret w =>
      obtain ⟨z, H', I', rz, c, ec, qc⟩ := I.after hq
      subst ec
      obtain rfl : w = Value.bool c := rz
      exact ⟨c, H', rfl, I', qc⟩
    | next => exact False.elim hq
    | brk => exact False.elim hq
    | cont => exact False.elim hq
theorem o_eqOwn (hs : PySem.W.findIn X.K (.ref C) "__eq__" = some (some (.ref f))) (hf : PySem.W.isFn X.K (.ref f) = true) (F : FnOk X.prog X.w X.K X.mg X.base CX n f fd ps sp) (hr : Room n X.A) (hb : Binds X.K fd ps []) (hx : Passes CX X E) : OpR X (compareOp .Eq) (rEqOwn C sp E false) := by
  intro pins s σ H x y v u Q I rx ry h
  obtain ⟨a, dx, fs, b, dy, gs, rfl, rfl, ha, hb', q⟩ := h
  cases rx
  cases ry
  obtain ⟨mA, J, _⟩ := ins_get I.hok ha
  obtain ⟨mB, J', _⟩ := ins_get I.hok hb'
  obtain ⟨od, J, _⟩ := J.look
  obtain ⟨od', J', _⟩ := J'.look
  obtain ⟨m, hF⟩ := I.fr
  show wpAny _ _ (richCompare .Eq (.ref a) (.ref b)) _ _ _
  refine PySem.W.cmp_K (op := .Eq) (tb := .ref C) hr.units0 hF I.ok.mod.kin J J'.type (by simp [PySem.W.notFirst]) hs hf ?_
  refine wpAny_mono (own_run F hr rfl hb hx I q) (fun v s' z => ?_) fun _ _ z => z
  obtain ⟨c, H', rfl, I', qc⟩ := z
  exact ⟨.bl c, H', I', rfl, qc⟩
end
end Bw
set_option Elab.async false
set_option linter.all false
set_option maxRecDepth 100000
set_option maxHeartbeats 4000000
namespace Bw
open PySem PySem.Spec PyProof.Rows L2
section
variable {prog : Program} {w : World} {A : Around} {E : Value → Shared → Prop} {s : Shared} {K : PySem.W.Frag} {x C f : Addr} {ox : Obj} {od : Option Obj} {b : Value}
theorem ifBound_ne {Q : Option Value → Shared → Prop} (X : K.In s.heap) (I : PySem.W.InstAt s.heap x ox C od) (hs : PySem.W.findIn K (.ref C) "__ne__" = some (some (.builtin "object.__ne__")))
    (h : wpAny (model prog w) A (call (.builtin "object.__ne__") [.ref x, b]) (fun v => Q (some v)) E s) : wpAny (model prog w) A (callSpecialIfBound? (.ref x) "__ne__" [b]) Q E s := by
  have S := F.cmp_object.ne
  simp only [callSpecialIfBound?, bindSpecialIfBound?]
  refine wpAny_holding (wpAny_bind (wpAny_bind (wpAny_bind (I.type.here ((PySem.W.looks_findIn X hs).here ?_)))))
  simp only [S.bind]
  refine wpAny_bind (wpAny_askSetting (wpAny_ite ?_))
  have fin : wpAny (model prog w) A (call (.builtin "object.__ne__") ([.ref x] ++ [b]) >>= fun v => pure (some v)) Q E s := wpAny_bind (wpAny_mono h (fun _ _ z => wpAny_pure z) fun _ _ z => z)
  split
  · exact wpAny_bind (wpAny_pure (wpAny_pure fin))
  · exact wpAny_tryCatch (wpAny_bind (wpAny_pure (wpAny_pure fin)))
theorem call_ne {Q : Value → Shared → Prop} (hu : A.units + 1 < cLine) (X : K.In s.heap) (I : PySem.W.InstAt s.heap x ox C od) (hob : PySem.W.mroIn K C (.type "object") = some true) (hs : PySem.W.findIn K (.ref C) "__eq__" = some (some (.ref f))) (hf : PySem.W.isFn K (.ref f) = true)
    (h : wpAny (model prog w) A.in1 (call (.ref f) [.ref x, b]) (fun v s' => ∃ c, v = .bool c ∧ Q (.bool !c) s') E s) : wpAny (model prog w) A (call (.builtin "object.__ne__") [.ref x, b]) Q E s := by
  have sub : PySem.W.Looks (model prog w) s.heap (isInstance (.ref x) (.type "object")) true := I.type.andThen (PySem.W.looks_mroIn X hob)
  refine wpAny_call (codeAny_call_builtin F.cmp_object.ne.plain F.cmpEntry_ne (PySem.W.check_slot F.cmpKind_ne F.cmpSplit_ne sub (F.cmpArgs_ne _ _) ?_))
  unfold Builtin.«object.__ne__»
  have one : wpAny (model prog w) A.in1 (callSpecialIfBound? (.ref x) "__eq__" [b]) (fun r s' => ∃ c, r = some (.bool c) ∧ Q (.bool !c) s') E s := PySem.W.ifBound_K X I hs hf (wpAny_mono h (fun v s' z => by
    obtain ⟨c, rfl, q⟩ := z
    exact ⟨c, rfl, q⟩) fun _ _ z => z)
  repeat (first | with_reducible refine wpAny_cRoomFor hu ?_ | (with_reducible refine wpAny_mono one (fun r s' z => ?_) (fun _ _ e => e); obtain ⟨c, rfl, q⟩ := z) | wp_step)
  exact q
theorem rich_ne {Q : Value → Shared → Prop} (hu : A.units + 1 < cLine) (X : K.In s.heap) (I : PySem.W.InstAt s.heap x ox C od) (hb : PySem.W.Looks (model prog w) s.heap (typeOf b) (.ref C)) (hob : PySem.W.mroIn K C (.type "object") = some true)
    (hn : PySem.W.findIn K (.ref C) "__ne__" = some (some (.builtin "object.__ne__"))) (hs : PySem.W.findIn K (.ref C) "__eq__" = some (some (.ref f))) (hf : PySem.W.isFn K (.ref f) = true)
    (h : wpAny (model prog w) A.in1 (call (.ref f) [.ref x, b]) (fun v s' => ∃ c, v = .bool c ∧ Q (.bool !c) s') E s) : wpAny (model prog w) A (richCompare .NotEq (.ref x) b) Q E s := by
  have one : wpAny (model prog w) A (tryCompare (.ref x) (cmpInfo .NotEq).2.1 b) (fun r s' => ∃ c : Bool, r = some (.bool !c) ∧ Q (.bool !c) s') E s := by
    unfold tryCompare
    have two : wpAny (model prog w) A (call (.builtin "object.__ne__") [.ref x, b]) (fun v s' => ∃ c : Bool, v = .bool !c ∧ Q (.bool !c) s') E s := by
      refine call_ne hu X I hob hs hf (wpAny_mono h (fun v s' z => ?_) fun _ _ z => z)
      obtain ⟨c, e, q⟩ := z
      exact ⟨c, e, c, rfl, q⟩
    refine wpAny_bind (ifBound_ne X I hn (wpAny_mono two (fun v s' y => ?_) fun _ _ y => y))
    obtain ⟨c, rfl, q⟩ := y
    exact wpAny_pure ⟨c, rfl, q⟩
  unfold richCompare
  simp only [oneThing_ref]
  refine wpAny_holding (wpAny_bind (wpAny_cRoomFor (by omega) ?_))
  refine wpAny_bind (I.type.here (wpAny_bind (hb.here ?_)))
  split
  · rename_i q
    simp at q
  · refine wpAny_bind (wpAny_pure ?_)
    simp only [Bool.false_eq_true, if_false]
    refine wpAny_bind (wpAny_mono one (fun r s' z => ?_) fun _ _ e => e)
    obtain ⟨c, rfl, hq⟩ := z
    exact wpAny_pure hq
end
section
variable {X : Cx} {CX : CXT} {C f : Addr} {fd : FuncData} {ps : List Str} {sp : Sp} {n : Nat} {E : XK}
theorem o_neOwn (hob : PySem.W.mroIn X.K C (.type "object") = some true) (hn : PySem.W.findIn X.K (.ref C) "__ne__" = some (some (.builtin "object.__ne__"))) (hs : PySem.W.findIn X.K (.ref C) "__eq__" = some (some (.ref f))) (hf : PySem.W.isFn X.K (.ref f) = true)
    (F : FnOk X.prog X.w X.K X.mg X.base CX n f fd ps sp) (hr : Room (n + 1) X.A) (hb : Binds X.K fd ps []) (hx : Passes CX X E) : OpR X (compareOp .NotEq) (rEqOwn C sp E true) := by
  intro pins s σ H x y v u Q I rx ry h
  obtain ⟨a, dx, fs, b, dy, gs, rfl, rfl, ha, hb', q⟩ := h
  cases rx
  cases ry
  obtain ⟨mA, J, _⟩ := ins_get I.hok ha
  obtain ⟨mB, J', _⟩ := ins_get I.hok hb'
  obtain ⟨od, J, _⟩ := J.look
  obtain ⟨od', J', _⟩ := J'.look
  show wpAny _ _ (richCompare .NotEq (.ref a) (.ref b)) _ _ _
  have hu : X.A.units + 1 < cLine := by
    have z := hr.un
    omega
  refine rich_ne hu I.kIn J J'.type hob hn hs hf (wpAny_mono (own_run F hr.in1 rfl hb hx I q) (fun v s' z => ?_) fun _ _ z => z)
  obtain ⟨c, H', rfl, I', qc⟩ := z
  exact ⟨c, rfl, .bl !c, H', I', rfl, qc⟩
end
end Bw
set_option Elab.async false
set_option linter.all false
set_option maxRecDepth 100000
set_option maxHeartbeats 4000000
namespace Bw
open PySem PySem.Spec PyProof.Rows L2
/-! ### zip of a list and a tuple, either way about: by what is asked of one side -/
structure Src (P : Program) (w : World) (i l : Addr) (St : Nat → Heap → Prop) (Sq : Array Value → Heap → Prop) : Prop where
  obj : ∀ k h, St k h → ∃ o, h.get? i = some o ∧ ∀ v, o.data ≠ .cell v
  keep : ∀ k h h', St k h → (∀ o, h.get? i = some o → h'.get? i = some o) → St k h'
  keepS : ∀ xs h h', Sq xs h → (∀ o, h.get? l = some o → h'.get? l = some o) → Sq xs h'
  item : ∀ (A : Around) (E : Value → Shared → Prop) (s : Shared) (k : Nat) (xs : Array Value) (x : Value) (Q : Value → Shared → Prop), St k s.heap → Sq xs s.heap → xs[k]? = some x →
    (∀ h', St (k + 1) h' → Heap.SameBut i s.heap h' → Q x { s with heap := h' }) → wpAny (model P w) A (Builtin.SmallTypes.nextOf (.ref i)) Q E s
  fin : ∀ (A : Around) (E : Value → Shared → Prop) (s : Shared) (k : Nat) (xs : Array Value) (Q : Value → Shared → Prop), A.handled = none → St k s.heap → Sq xs s.heap → xs[k]? = none →
    (∀ h' e, Heap.ExtBut i s.heap h' → (∃ o, h'.get? e = some o ∧ o.cls = .type "StopIteration") → E (.ref e) { s with heap := h' }) → wpAny (model P w) A (Builtin.SmallTypes.nextOf (.ref i)) Q E s
theorem src_list {P : Program} {w : World} {i l : Addr} : Src P w i l (fun k h => h.IsListIter i l k) (fun xs h => h.IsList l xs) where
  obj := fun k h st => by
    obtain ⟨o, e, _, d⟩ := st
    exact ⟨o, e, fun v q => by rw [d] at q; cases q⟩
  keep := fun k h h' st kp => st.at kp
  keepS := fun xs h h' st kp => st.at kp
  item := fun A E s k xs x Q st sq hx q => wpAny_nextOf_list_item st sq hx q
  fin := fun A E s k xs Q hh st sq hx q => wpAny_nextOf_list_end hh st sq hx q
theorem src_tup {P : Program} {w : World} {i l : Addr} : Src P w i l (fun k h => h.IsTupleIter i l k) (fun xs h => h.IsTuple l xs) where
  obj := fun k h st => by
    obtain ⟨o, e, _, d⟩ := st
    exact ⟨o, e, fun v q => by rw [d] at q; cases q⟩
  keep := fun k h h' st kp => st.at kp
  keepS := fun xs h h' st kp => by
    obtain ⟨o, e, z⟩ := st
    exact ⟨o, kp o e, z⟩
  item := fun A E s k xs x Q st sq hx q => RZ.nextOf_tuple_item st sq hx q
  fin := fun A E s k xs Q hh st sq hx q => RZ.nextOf_tuple_end hh st sq hx q
section
variable {P : Program} {w : World} {A : Around} {E : Value → Shared → Prop} {s : Shared} {z TI TO i1 i2 l1 l2 : Addr} {U1 U2 : Nat → Heap → Prop} {Z1 Z2 : Array Value → Heap → Prop}
theorem zipG_item {k : Nat} {xs ys : Array Value} {x y a b : Value} {Q : Value → Shared → Prop} (S1 : Src P w i1 l1 U1 Z1) (S2 : Src P w i2 l2 U2 Z2) (D : ZipApart z TI TO i1 i2 l1 l2)
    (hz : IsZip s.heap z TI TO .none) (hTI : IsPair s.heap TI (.ref i1) (.ref i2)) (hTO : IsPair s.heap TO a b) (h1 : U1 k s.heap) (h2 : U2 k s.heap) (hl1 : Z1 xs s.heap) (hl2 : Z2 ys s.heap) (hx : xs[k]? = some x) (hy : ys[k]? = some y)
    (hQ : ∀ h', IsZip h' z TI TO (rawInt s.heap.objs.size) → IsPair h' TO x y → U1 (k + 1) h' → U2 (k + 1) h' → IsPair h' s.heap.objs.size x y →
      (∀ c o, c ≠ z → c ≠ TO → c ≠ i1 → c ≠ i2 → s.heap.get? c = some o → h'.get? c = some o) → Q (.ref s.heap.objs.size) { s with heap := h' }) :
    wpAny (model P w) A (Builtin.«zip.__next__» ⟨[.ref z], []⟩) (fun fin s' => ∃ v, fin = .done (.ret v) ∧ Q v s') E s := by
  show wpAny _ _ (field (Value.ref z) 2 >>= _) _ _ _
  refine wpAny_bind (wpAny_field hz (rfl) (x := .bool false) rfl ?_); show wpAny _ _ (field (Value.ref z) 3 >>= _) _ _ _
  refine wpAny_bind (wpAny_field hz (rfl) (x := .ref TI) rfl ?_); refine wpAny_bind (wpAny_seqItems hTI (rfl) ?_)
  show wpAny _ _ (Builtin.SmallTypes.ownedTupleIsFree (Value.ref z) >>= _) _ _ _
  refine wpAny_bind ?_; unfold Builtin.SmallTypes.ownedTupleIsFree
  refine wpAny_bind (wpAny_field hz (rfl) (x := .none) rfl (wpAny_pure ?_)); simp only [if_true]
  refine wpAny_bind (wpAny_rule ?_); refine wpAny_bind (wpAny_field hz (rfl) (x := .ref TO) rfl ?_)
  refine wpAny_bind (wpAny_setField_rec hz (by simp) fun g1 z1 b1 => ?_); replace z1 : IsZip g1 z TI TO .ellipsis := z1
  refine wpAny_bind ?_; simp only [List.zipIdx_cons, List.zipIdx_nil, List.forIn_cons, List.forIn_nil]
  refine wpAny_bind (wpAny_bind (wpAny_onRaise ?_)); show wpAny _ _ (Builtin.SmallTypes.nextOf (Value.ref i1) >>= _) _ _ _
  refine wpAny_bind (S1.item _ _ _ k xs x _ (S1.keep _ _ _ h1 fun o e => b1.extBut _ _ D.i1z e) (S1.keepS _ _ _ hl1 fun o e => b1.extBut _ _ D.l1z e) hx fun g2 u1 b2 => wpAny_pure ?_)
  have p2 : IsPair g2 TO a b := b2.extBut _ _ D.TOi1 (b1.extBut _ _ D.TOz hTO)
  refine wpAny_bind (wpAny_seqItems p2 (rfl) ?_); refine wpAny_bind (wpAny_updateSeq_pair p2 fun g3 p3 b3 => ?_); replace p3 : IsPair g3 TO x b := p3
  refine wpAny_bind (wpAny_letGo (wpAny_pure ?_)); refine wpAny_bind (wpAny_bind (wpAny_onRaise ?_)); show wpAny _ _ (Builtin.SmallTypes.nextOf (Value.ref i2) >>= _) _ _ _
  refine wpAny_bind (S2.item _ _ _ k ys y _ (S2.keep _ _ _ h2 fun o e => b3.extBut _ _ D.TOi2.symm (b2.extBut _ _ D.i12.symm (b1.extBut _ _ D.i2z e)))
    (S2.keepS _ _ _ hl2 fun o e => b3.extBut _ _ D.l2TO (b2.extBut _ _ D.l2i1 (b1.extBut _ _ D.l2z e))) hy fun g4 u2 b4 => wpAny_pure ?_)
  have p4 : IsPair g4 TO x b := b4.extBut _ _ D.TOi2 p3
  refine wpAny_bind (wpAny_seqItems p4 (rfl) ?_); refine wpAny_bind (wpAny_updateSeq_pair p4 fun g5 p5 b5 => ?_); replace p5 : IsPair g5 TO x y := p5
  refine wpAny_bind (wpAny_letGo (wpAny_pure (wpAny_pure ?_))); refine wpAny_bind (wpAny_seqItems p5 (rfl) ?_); refine wpAny_bind (wpAny_newTuple ?_)
  have sz : g5.objs.size = s.heap.objs.size := by rw [b5.1, b4.1, b3.1, b2.1, b1.1]
  have z5 : IsZip g5 z TI TO .ellipsis := b5.extBut _ _ D.TOz.symm (b4.extBut _ _ D.i2z.symm (b3.extBut _ _ D.TOz.symm (b2.extBut _ _ D.i1z.symm z1)))
  have k5 : ∀ c o, c ≠ z → c ≠ TO → c ≠ i1 → c ≠ i2 → s.heap.get? c = some o → g5.get? c = some o := fun c o c1 c2 c3 c4 e => b5.extBut _ _ c2 (b4.extBut _ _ c4 (b3.extBut _ _ c2 (b2.extBut _ _ c3 (b1.extBut _ _ c1 e))))
  have v1 : U1 (k + 1) g5 := S1.keep _ _ _ u1 fun o e => b5.extBut _ _ D.TOi1.symm (b4.extBut _ _ D.i12 (b3.extBut _ _ D.TOi1.symm e))
  have v2 : U2 (k + 1) g5 := S2.keep _ _ _ u2 fun o e => b5.extBut _ _ D.TOi2.symm e
  have zl : z < g5.objs.size := Heap.lt_size z5
  show wpAny _ _ (Builtin.SmallTypes.ownedTupleHandOut (Value.ref z) (.ref g5.objs.size) >>= _) _ _ _
  refine wpAny_bind ?_; unfold Builtin.SmallTypes.ownedTupleHandOut
  have z6 : IsZip (g5.push { cls := .type "tuple", data := .seq #[x, y] }) z TI TO .ellipsis := Heap.get?_push_of_some _ z5
  refine wpAny_bind (wpAny_setField_rec z6 (by simp) fun g7 z7 b7 => ?_); replace z7 : IsZip g7 z TI TO (rawInt g5.objs.size) := z7
  refine wpAny_setField_rec z7 (by simp) fun g8 z8 b8 => ?_; replace z8 : IsZip g8 z TI TO (rawInt g5.objs.size) := z8
  have up : ∀ c o, c ≠ z → g5.get? c = some o → g8.get? c = some o := fun c o c1 e => b8.extBut _ _ c1 (b7.extBut _ _ c1 (Heap.get?_push_of_some _ e))
  have p8 : IsPair g8 g5.objs.size x y := b8.extBut _ _ (Nat.ne_of_gt zl) (b7.extBut _ _ (Nat.ne_of_gt zl) (Heap.get?_push_size _ rfl))
  rw [sz] at z8 p8
  refine wpAny_pure ⟨_, rfl, ?_⟩; show Q (.ref g5.objs.size) _; rw [sz]
  exact hQ g8 z8 (up _ _ D.TOz p5) (S1.keep _ _ _ v1 fun o e => up _ o D.i1z e) (S2.keep _ _ _ v2 fun o e => up _ o D.i2z e) p8 fun c o c1 c2 c3 c4 e => up c o c1 (k5 c o c1 c2 c3 c4 e)
theorem zipG_end {k : Nat} {xs ys : Array Value} {a b : Value} {Q : PySem.Fin → Shared → Prop} (S1 : Src P w i1 l1 U1 Z1) (S2 : Src P w i2 l2 U2 Z2) (hh : A.handled = none) (D : ZipApart z TI TO i1 i2 l1 l2)
    (hz : IsZip s.heap z TI TO .none) (hTI : IsPair s.heap TI (.ref i1) (.ref i2)) (hTO : IsPair s.heap TO a b) (h1 : U1 k s.heap) (h2 : U2 k s.heap) (hl1 : Z1 xs s.heap) (hl2 : Z2 ys s.heap) (hend : xs[k]? = none ∨ ys[k]? = none)
    (hE : ∀ h' e, (∀ c o, c ≠ z → c ≠ TO → c ≠ i1 → c ≠ i2 → s.heap.get? c = some o → h'.get? c = some o) → (∃ o, h'.get? e = some o ∧ o.cls = .type "StopIteration") → E (.ref e) { s with heap := h' }) :
    wpAny (model P w) A (Builtin.«zip.__next__» ⟨[.ref z], []⟩) Q E s := by
  show wpAny _ _ (field (Value.ref z) 2 >>= _) _ _ _
  refine wpAny_bind (wpAny_field hz (rfl) (x := .bool false) rfl ?_); show wpAny _ _ (field (Value.ref z) 3 >>= _) _ _ _
  refine wpAny_bind (wpAny_field hz (rfl) (x := .ref TI) rfl ?_); refine wpAny_bind (wpAny_seqItems hTI (rfl) ?_)
  show wpAny _ _ (Builtin.SmallTypes.ownedTupleIsFree (Value.ref z) >>= _) _ _ _
  refine wpAny_bind ?_; unfold Builtin.SmallTypes.ownedTupleIsFree
  refine wpAny_bind (wpAny_field hz (rfl) (x := .none) rfl (wpAny_pure ?_)); simp only [if_true]
  refine wpAny_bind (wpAny_rule ?_); refine wpAny_bind (wpAny_field hz (rfl) (x := .ref TO) rfl ?_)
  refine wpAny_bind (wpAny_setField_rec hz (by simp) fun g1 z1 b1 => ?_); replace z1 : IsZip g1 z TI TO .ellipsis := z1
  refine wpAny_bind ?_; simp only [List.zipIdx_cons, List.zipIdx_nil, List.forIn_cons, List.forIn_nil]
  refine wpAny_bind (wpAny_bind (wpAny_onRaise ?_)); show wpAny _ _ (Builtin.SmallTypes.nextOf (Value.ref i1) >>= _) _ _ _
  have j1 : U1 k g1 := S1.keep _ _ _ h1 fun o e => b1.extBut _ _ D.i1z e
  have m1 : Z1 xs g1 := S1.keepS _ _ _ hl1 fun o e => b1.extBut _ _ D.l1z e
  cases hx : xs[k]? with
  | none =>
    refine wpAny_bind (S1.fin _ _ _ k xs _ hh j1 m1 hx fun g2 e b2 he => ?_); obtain ⟨oe, hoe, hce⟩ := he
    have z2 : IsZip g2 z TI TO .ellipsis := b2 _ _ D.i1z.symm z1
    have ez : e ≠ z := fun q => by subst q; rw [z2] at hoe; cases hoe; simp at hce
    refine wpAny_setField_rec z2 (by simp) fun g3 _ b3 => hE g3 e (fun c o c1 _ c3 _ q => b3.extBut _ _ c1 (b2 _ _ c3 (b1.extBut _ _ c1 q))) ⟨oe, b3.extBut _ _ ez hoe, hce⟩
  | some x =>
    have hy : ys[k]? = none := by
      rcases hend with h | h
      · rw [hx] at h; cases h
      · exact h
    refine wpAny_bind (S1.item _ _ _ k xs x _ j1 m1 hx fun g2 u1 b2 => wpAny_pure ?_)
    have p2 : IsPair g2 TO a b := b2.extBut _ _ D.TOi1 (b1.extBut _ _ D.TOz hTO)
    refine wpAny_bind (wpAny_seqItems p2 (rfl) ?_); refine wpAny_bind (wpAny_updateSeq_pair p2 fun g3 p3 b3 => ?_)
    refine wpAny_bind (wpAny_letGo (wpAny_pure ?_)); refine wpAny_bind (wpAny_bind (wpAny_onRaise ?_)); show wpAny _ _ (Builtin.SmallTypes.nextOf (Value.ref i2) >>= _) _ _ _
    refine wpAny_bind (S2.fin _ _ _ k ys _ hh (S2.keep _ _ _ h2 fun o e => b3.extBut _ _ D.TOi2.symm (b2.extBut _ _ D.i12.symm (b1.extBut _ _ D.i2z e)))
      (S2.keepS _ _ _ hl2 fun o e => b3.extBut _ _ D.l2TO (b2.extBut _ _ D.l2i1 (b1.extBut _ _ D.l2z e))) hy fun g4 e b4 he => ?_)
    obtain ⟨oe, hoe, hce⟩ := he
    have z4 : IsZip g4 z TI TO .ellipsis := b4 _ _ D.i2z.symm (b3.extBut _ _ D.TOz.symm (b2.extBut _ _ D.i1z.symm z1))
    have ez : e ≠ z := fun q => by subst q; rw [z4] at hoe; cases hoe; simp at hce
    refine wpAny_setField_rec z4 (by simp) fun g5 _ b5 => hE g5 e (fun c o c1 c2 c3 c4 q => b5.extBut _ _ c1 (b4 _ _ c4 (b3.extBut _ _ c2 (b2.extBut _ _ c3 (b1.extBut _ _ c1 q))))) ⟨oe, b5.extBut _ _ ez hoe, hce⟩
end
/-! ### the step of the hand layer -/
/-- how a side is read off the hand layer's heap -/
structure Side (l : Addr) (K : PySem.W.Frag) (R : Hp → List V → Prop) (Sq : Array Value → Heap → Prop) : Prop where
  get : ∀ (X : Cx) (pins : List (Addr × Obj)) (σ : L2.St) (H : Hp) (s : Shared) (xs : List V), X.K = K → L2.Inv X pins σ H s → R H xs → ∃ its : List Value, Vals xs its ∧ Sq its.toArray s.heap ∧ l < s.heap.objs.size
  inj : ∀ (X : Cx) (pins : List (Addr × Obj)) (σ : L2.St) (H : Hp) (s : Shared) (xs ys : List V), X.K = K → L2.Inv X pins σ H s → R H xs → R H ys → xs = ys
theorem side_list {K : PySem.W.Frag} {a : Addr} : Side a K (fun H xs => SqL K H a xs) (fun arr h => h.IsList a arr) where
  get := fun X pins σ H s xs hK I r => by
    subst hK
    obtain ⟨its, rv, p, _⟩ := I.list r
    exact ⟨its, rv, p.isList, p.lt⟩
  inj := fun X pins σ H s xs ys hK I r r' => by
    subst hK
    exact I.list_inj r r'
theorem side_tup {K : PySem.W.Frag} {a : Addr} : Side a K (fun H xs => SqT K H a xs) (fun arr h => h.IsTuple a arr) where
  get := fun X pins σ H s xs hK I r => by
    subst hK
    obtain ⟨its, rv, p, _⟩ := I.tuple r
    obtain ⟨o, ho, _⟩ := id p
    exact ⟨its, rv, p, Heap.lt_size ho⟩
  inj := fun X pins σ H s xs ys hK I r r' => by
    subst hK
    exact I.tuple_inj r r'
def ItzG (R1 R2 : Hp → List V → Prop) : It :=
  ⟨fun i H => ∃ (xs ys : List V) (x y : V), R1 H xs ∧ R2 H ys ∧ xs[i]? = some x ∧ ys[i]? = some y,
    fun i H v H' => ∃ T x y, v = .ref T ∧ H T = none ∧ H' = upd H T (.tup [x, y]) ∧ (∀ xs, R1 H xs → xs[i]? = some x) ∧ ∀ ys, R2 H ys → ys[i]? = some y,
    fun i H => ∃ xs ys : List V, R1 H xs ∧ R2 H ys ∧ (xs.length ≤ i ∨ ys.length ≤ i)⟩
theorem turn_zipG {P : Program} {w : World} {K : PySem.W.Frag} {elts : List Expr} {kk : Nat} {tpos : Pos} {a b z TI TO i1 i2 : Addr} {R1 R2 : Hp → List V → Prop} {U1 U2 : Nat → Heap → Prop} {Z1 Z2 : Array Value → Heap → Prop}
    (S1 : Src P w i1 a U1 Z1) (S2 : Src P w i2 b U2 Z2) (L1 : Side a K R1 Z1) (L2' : Side b K R2 Z2) (D : ZipApart z TI TO i1 i2 a b) :
    Turn P w K (.Tuple elts kk tpos) (ItzG R1 R2) [z, TI, TO, i1, i2] z (fun i h => IsZip h z TI TO .none ∧ IsPair h TI (.ref i1) (.ref i2) ∧ (∃ x y, IsPair h TO x y) ∧ U1 i h ∧ U2 i h) where
  mem := by simp
  obj := fun i h st c hc => by
    obtain ⟨hz, hTI, ⟨x, y, hTO⟩, e1, e2⟩ := st
    have e' : c = z ∨ c = TI ∨ c = TO ∨ c = i1 ∨ c = i2 := by simpa using hc
    rcases e' with rfl | rfl | rfl | rfl | rfl
    · exact ⟨_, hz, fun v q => nomatch q⟩
    · exact ⟨_, hTI, fun v q => nomatch q⟩
    · exact ⟨_, hTO, fun v q => nomatch q⟩
    · exact S1.obj _ _ e1
    · exact S2.obj _ _ e2
  keep := fun i h h' st k => by
    obtain ⟨hz, hTI, ⟨x, y, hTO⟩, h1, h2⟩ := st
    exact ⟨k z (by simp) _ hz, k TI (by simp) _ hTI, ⟨x, y, k TO (by simp) _ hTO⟩, S1.keep _ _ _ h1 (k i1 (by simp)), S2.keep _ _ _ h2 (k i2 (by simp))⟩
  item := by
    intro X hP hw hK hc i pins s σ H E I hf st hg
    obtain ⟨hz, hTI, ⟨x0, y0, hTO⟩, h1, h2⟩ := st
    obtain ⟨xs, ys, x, y, hqx, hqy, hx, hy⟩ := hg
    obtain ⟨its, rv, p, _⟩ := L1.get X pins σ H s xs hK I hqx
    obtain ⟨its2, rv2, p2, _⟩ := L2'.get X pins σ H s ys hK I hqy
    obtain ⟨u, hu, ru⟩ := rv.get hx
    obtain ⟨u2, hu2, ru2⟩ := rv2.get hy
    have hzl : z < s.heap.objs.size := Heap.lt_size hz
    have hT : s.TypeIs (.ref z) "zip" := ⟨_, hz, rfl⟩
    unfold pyNext
    refine wpAny_bind (wpAny_attempt (wpAny_callSpecial?_slot (name := Str.ofString "__next__") hT F.slot_zip_next (wpAny_call_entry F.slot_zip_next hT F.entry_zip_next
      (zipG_item S1 S2 D hz hTI hTO h1 h2 p p2 (x := u) (y := u2) (by simpa using hu) (by simpa using hu2) fun h' z' TO' h1' h2' hT' hk => wpAny_pure ?_) (F.args_zip_next_1 _))))
    refine ⟨_, rfl, wpAny_letOwnedTupleGo_zip (s := { s with heap := h' }) z' fun h'' z'' sb => ?_⟩
    have hT2 : h''.get? s.heap.objs.size = some { cls := .type "tuple", data := .seq #[u, u2] } := ((sb.2 _ (Nat.ne_of_gt hzl)).trans hT')
    subst hP hw hK
    have new : ObjOk X.prog X.w (upd H s.heap.objs.size (.tup [x, y])) h'' s.heap.objs.size (.tup [x, y]) := ⟨by show 2 ≤ sizeLine; decide, [u, u2], .cons ru (.cons ru2 .nil), ⟨_, hT2, rfl, _, rfl⟩⟩
    have kk' : ∀ (c : Addr) (o : Obj), c ∉ [z, TI, TO, i1, i2] → s.heap.get? c = some o → h''.get? c = some o := fun c o hb q => (sb.2 c (fun q' => hb (by simp [q']))).trans (hk c o (fun q' => hb (by simp [q'])) (fun q' => hb (by simp [q'])) (fun q' => hb (by simp [q'])) (fun q' => hb (by simp [q'])) q)
    have I1 : L2.Inv X pins σ (upd H s.heap.objs.size (.tup [x, y])) { s with heap := h'' } := I.turnedNew (t' := s.toks) (ch := [z, TI, TO, i1, i2]) kk' hf (Nat.le_refl _) new
    refine ⟨.ref s.heap.objs.size, _, I1, rfl, ⟨_, x, y, rfl, I.hok.fresh (Nat.le_refl _), rfl, fun l hl => ?_, fun l hl => ?_⟩, ⟨z'', ?_, ⟨u, u2, ?_⟩, ?_, ?_⟩, fun c hcm => ?_⟩
    · rw [L1.inj X pins σ H s l xs rfl I hl hqx]
      exact hx
    · rw [L2'.inj X pins σ H s l ys rfl I hl hqy]
      exact hy
    · exact (sb.2 _ D.TIz).trans ((hk _ _ D.TIz D.TITO D.TIi1 D.TIi2 hTI))
    · exact (sb.2 _ D.TOz).trans TO'
    · exact S1.keep _ _ _ h1' fun o q => (sb.2 _ D.i1z).trans q
    · exact S2.keep _ _ _ h2' fun o q => (sb.2 _ D.i2z).trans q
    · have hlt : c < s.heap.objs.size := by
        have e' : c = z ∨ c = TI ∨ c = TO ∨ c = i1 ∨ c = i2 := by simpa using hcm
        rcases e' with rfl | rfl | rfl | rfl | rfl
        · exact hzl
        · exact Heap.lt_size hTI
        · exact Heap.lt_size hTO
        · obtain ⟨_, e1, _⟩ := S1.obj _ _ h1; exact Heap.lt_size e1
        · obtain ⟨_, e2, _⟩ := S2.obj _ _ h2; exact Heap.lt_size e2
      rw [upd_ne (Nat.ne_of_lt hlt)]
      exact (hf c hcm).1
  done := by
    intro X hP hw hK hc i pins s σ H E I hf st hg
    obtain ⟨hz, hTI, ⟨x0, y0, hTO⟩, h1, h2⟩ := st
    obtain ⟨xs, ys, hqx, hqy, hend⟩ := hg
    obtain ⟨its, rv, p, _⟩ := L1.get X pins σ H s xs hK I hqx
    obtain ⟨its2, rv2, p2, _⟩ := L2'.get X pins σ H s ys hK I hqy
    have l1 := rv.length
    have l2 := rv2.length
    have he : its.toArray[i]? = none ∨ its2.toArray[i]? = none := by
      rcases hend with q | q
      · exact .inl (by simp; omega)
      · exact .inr (by simp; omega)
    have hT : s.TypeIs (.ref z) "zip" := ⟨_, hz, rfl⟩
    unfold pyNext
    refine wpAny_bind (wpAny_attempt (wpAny_callSpecial?_slot (name := Str.ofString "__next__") hT F.slot_zip_next
      (wpAny_call_entry F.slot_zip_next hT F.entry_zip_next (zipG_end S1 S2 (I.ok.hd hc) D hz hTI hTO h1 h2 p p2 he fun h' e hk he => ?_) (F.args_zip_next_1 _))))
    obtain ⟨o, ho, hc'⟩ := he
    refine wpAny_bind (wpAny_isInstance (T := "StopIteration") (b := true) ⟨o, ho, hc'⟩ isSubtype_stop ?_)
    refine wpAny_pure ⟨rfl, I.turnedL (t' := s.toks) (ch := [z, TI, TO, i1, i2]) (fun c o hb q => hk c o (fun q' => hb (by simp [q'])) (fun q' => hb (by simp [q'])) (fun q' => hb (by simp [q'])) (fun q' => hb (by simp [q'])) q) hf⟩
  self := fun A i s Q E st h => wpAny_pyIter_zip st.1 h
/-! ### zip of a tuple and a list made -/
abbrev zTL1 (h : Heap) (l1 : Addr) : Heap := h.push { cls := .type "tuple_iterator", data := .fields #[.ref l1, .int 0 0] }
abbrev zTL2 (h : Heap) (l1 l2 : Addr) : Heap := (zTL1 h l1).push { cls := .type "list_iterator", data := .fields #[.ref l2, .int 0 0] }
abbrev zTL3 (h : Heap) (l1 l2 : Addr) : Heap := (zTL2 h l1 l2).push { cls := .type "tuple", data := .seq #[.ref h.objs.size, .ref (zTL1 h l1).objs.size] }
abbrev zTL4 (h : Heap) (l1 l2 : Addr) : Heap := (zTL3 h l1 l2).push { cls := .type "tuple", data := .seq #[.none, .none] }
abbrev zTL5 (h : Heap) (l1 l2 : Addr) : Heap := (zTL4 h l1 l2).push { cls := .type "zip", data := .fields #[.none, .bool false, .bool false, .ref (zTL2 h l1 l2).objs.size, .ref (zTL3 h l1 l2).objs.size] }
abbrev zLT1 (h : Heap) (l1 : Addr) : Heap := h.push { cls := .type "list_iterator", data := .fields #[.ref l1, .int 0 0] }
abbrev zLT2 (h : Heap) (l1 l2 : Addr) : Heap := (zLT1 h l1).push { cls := .type "tuple_iterator", data := .fields #[.ref l2, .int 0 0] }
abbrev zLT3 (h : Heap) (l1 l2 : Addr) : Heap := (zLT2 h l1 l2).push { cls := .type "tuple", data := .seq #[.ref h.objs.size, .ref (zLT1 h l1).objs.size] }
abbrev zLT4 (h : Heap) (l1 l2 : Addr) : Heap := (zLT3 h l1 l2).push { cls := .type "tuple", data := .seq #[.none, .none] }
abbrev zLT5 (h : Heap) (l1 l2 : Addr) : Heap := (zLT4 h l1 l2).push { cls := .type "zip", data := .fields #[.none, .bool false, .bool false, .ref (zLT2 h l1 l2).objs.size, .ref (zLT3 h l1 l2).objs.size] }
theorem new_zTL (l1 l2 : Addr) (xs ys : Array Value) : Meets (Builtin.«zip.__new__» ⟨[.type "zip", .ref l1, .ref l2], []⟩) (fun _ R s => s.heap.IsTuple l1 xs ∧ s.heap.IsList l2 ys ∧ R (.ok (.ret (.ref (zTL4 s.heap l1 l2).objs.size))) { s with heap := zTL5 s.heap l1 l2 }) :=
  .of_wp fun prog w A R s h => by
    obtain ⟨hp, g, d, tk, os⟩ := s
    obtain ⟨k1, k2, h⟩ := h
    have hsub := sub_zip
    have e1 : Heap.IsTuple (Shared.heap ⟨hp, g, d, tk, os⟩) l1 xs := k1
    have e2 : Heap.IsList (Shared.heap ⟨hp.push { cls := .type "tuple_iterator", data := .fields #[.ref l1, .int 0 0] }, g, d, tk, os⟩) l2 ys := Heap.IsList.push k2 _
    wp_walk using wpAny_pyIter_tuple e1, wpAny_pyIter_list e2
    exact ⟨_, rfl, h⟩
theorem new_zLT (l1 l2 : Addr) (xs ys : Array Value) : Meets (Builtin.«zip.__new__» ⟨[.type "zip", .ref l1, .ref l2], []⟩) (fun _ R s => s.heap.IsList l1 xs ∧ s.heap.IsTuple l2 ys ∧ R (.ok (.ret (.ref (zLT4 s.heap l1 l2).objs.size))) { s with heap := zLT5 s.heap l1 l2 }) :=
  .of_wp fun prog w A R s h => by
    obtain ⟨hp, g, d, tk, os⟩ := s
    obtain ⟨k1, k2, h⟩ := h
    have hsub := sub_zip
    have e1 : Heap.IsList (Shared.heap ⟨hp, g, d, tk, os⟩) l1 xs := k1
    have e2 : Heap.IsTuple (Shared.heap ⟨hp.push { cls := .type "list_iterator", data := .fields #[.ref l1, .int 0 0] }, g, d, tk, os⟩) l2 ys := Heap.IsTuple.push k2 _
    wp_walk using wpAny_pyIter_list e1, wpAny_pyIter_tuple e2
    exact ⟨_, rfl, h⟩
section
variable {P : Program} {w : World} {A : Around} {E : Value → Shared → Prop} {s : Shared}
theorem call_zTL {l1 l2 : Addr} {xs ys : Array Value} {Q : Value → Shared → Prop} (k1 : s.heap.IsTuple l1 xs) (k2 : s.heap.IsList l2 ys)
    (h : ∀ h', IsZip h' (s.heap.objs.size + 4) (s.heap.objs.size + 2) (s.heap.objs.size + 3) .none → IsPair h' (s.heap.objs.size + 2) (.ref s.heap.objs.size) (.ref (s.heap.objs.size + 1)) → IsPair h' (s.heap.objs.size + 3) .none .none →
      h'.IsTupleIter s.heap.objs.size l1 0 → h'.IsListIter (s.heap.objs.size + 1) l2 0 → (∀ c o, s.heap.get? c = some o → h'.get? c = some o) → Q (.ref (s.heap.objs.size + 4)) { s with heap := h' }) :
    wpAny (model P w) A (call (.type "zip") [.ref l1, .ref l2]) Q E s := by
  refine callType_new F.called_zip (by decide) (F.typeCall_zip_2 _ _) (F.newCall_zip_2 _ _) (fun obj => F.args_object_init_3 obj _ _) F.entry_zip_new (new_zTL l1 l2 xs ys) ⟨k1, k2, ?_⟩
  have z1 : (zTL1 s.heap l1).objs.size = s.heap.objs.size + 1 := Heap.size_push ..
  have z2 : (zTL2 s.heap l1 l2).objs.size = s.heap.objs.size + 2 := by rw [Heap.size_push, z1]
  have z3 : (zTL3 s.heap l1 l2).objs.size = s.heap.objs.size + 3 := by rw [Heap.size_push, z2]
  have z4 : (zTL4 s.heap l1 l2).objs.size = s.heap.objs.size + 4 := by rw [Heap.size_push, z3]
  have g5 : (zTL5 s.heap l1 l2).get? (zTL4 s.heap l1 l2).objs.size = some _ := Heap.get?_push_size _ rfl
  have g4 : (zTL5 s.heap l1 l2).get? (zTL3 s.heap l1 l2).objs.size = some _ := Heap.get?_push_of_some _ (Heap.get?_push_size _ rfl)
  have g3 : (zTL5 s.heap l1 l2).get? (zTL2 s.heap l1 l2).objs.size = some _ := Heap.get?_push_of_some _ (Heap.get?_push_of_some _ (Heap.get?_push_size _ rfl))
  have g2 : (zTL5 s.heap l1 l2).get? (zTL1 s.heap l1).objs.size = some _ := Heap.get?_push_of_some _ (Heap.get?_push_of_some _ (Heap.get?_push_of_some _ (Heap.get?_push_size _ rfl)))
  have g1 : (zTL5 s.heap l1 l2).get? s.heap.objs.size = some _ := Heap.get?_push_of_some _ (Heap.get?_push_of_some _ (Heap.get?_push_of_some _ (Heap.get?_push_of_some _ (Heap.get?_push_size _ rfl))))
  show _ ∧ _
  rw [z2, z3, z4] at g5; rw [z1, z2] at g3; rw [z3] at g4; rw [z1] at g2; rw [z4]
  exact ⟨⟨_, g5, rfl⟩, h _ g5 g3 g4 ⟨_, g1, rfl, rfl⟩ ⟨_, g2, rfl, rfl⟩ fun c o x => Heap.get?_push_of_some _ (Heap.get?_push_of_some _ (Heap.get?_push_of_some _ (Heap.get?_push_of_some _ (Heap.get?_push_of_some _ x))))⟩
theorem call_zLT {l1 l2 : Addr} {xs ys : Array Value} {Q : Value → Shared → Prop} (k1 : s.heap.IsList l1 xs) (k2 : s.heap.IsTuple l2 ys)
    (h : ∀ h', IsZip h' (s.heap.objs.size + 4) (s.heap.objs.size + 2) (s.heap.objs.size + 3) .none → IsPair h' (s.heap.objs.size + 2) (.ref s.heap.objs.size) (.ref (s.heap.objs.size + 1)) → IsPair h' (s.heap.objs.size + 3) .none .none →
      h'.IsListIter s.heap.objs.size l1 0 → h'.IsTupleIter (s.heap.objs.size + 1) l2 0 → (∀ c o, s.heap.get? c = some o → h'.get? c = some o) → Q (.ref (s.heap.objs.size + 4)) { s with heap := h' }) :
    wpAny (model P w) A (call (.type "zip") [.ref l1, .ref l2]) Q E s := by
  refine callType_new F.called_zip (by decide) (F.typeCall_zip_2 _ _) (F.newCall_zip_2 _ _) (fun obj => F.args_object_init_3 obj _ _) F.entry_zip_new (new_zLT l1 l2 xs ys) ⟨k1, k2, ?_⟩
  have z1 : (zLT1 s.heap l1).objs.size = s.heap.objs.size + 1 := Heap.size_push ..
  have z2 : (zLT2 s.heap l1 l2).objs.size = s.heap.objs.size + 2 := by rw [Heap.size_push, z1]
  have z3 : (zLT3 s.heap l1 l2).objs.size = s.heap.objs.size + 3 := by rw [Heap.size_push, z2]
  have z4 : (zLT4 s.heap l1 l2).objs.size = s.heap.objs.size + 4 := by rw [Heap.size_push, z3]
  have g5 : (zLT5 s.heap l1 l2).get? (zLT4 s.heap l1 l2).objs.size = some _ := Heap.get?_push_size _ rfl
  have g4 : (zLT5 s.heap l1 l2).get? (zLT3 s.heap l1 l2).objs.size = some _ := Heap.get?_push_of_some _ (Heap.get?_push_size _ rfl)
  have g3 : (zLT5 s.heap l1 l2).get? (zLT2 s.heap l1 l2).objs.size = some _ := Heap.get?_push_of_some _ (Heap.get?_push_of_some _ (Heap.get?_push_size _ rfl))
  have g2 : (zLT5 s.heap l1 l2).get? (zLT1 s.heap l1).objs.size = some _ := Heap.get?_push_of_some _ (Heap.get?_push_of_some _ (Heap.get?_push_of_some _ (Heap.get?_push_size _ rfl)))
  have g1 : (zLT5 s.heap l1 l2).get? s.heap.objs.size = some _ := Heap.get?_push_of_some _ (Heap.get?_push_of_some _ (Heap.get?_push_of_some _ (Heap.get?_push_of_some _ (Heap.get?_push_size _ rfl))))
  show _ ∧ _
  rw [z2, z3, z4] at g5; rw [z1, z2] at g3; rw [z3] at g4; rw [z1] at g2; rw [z4]
  exact ⟨⟨_, g5, rfl⟩, h _ g5 g3 g4 ⟨_, g1, rfl, rfl⟩ ⟨_, g2, rfl, rfl⟩ fun c o x => Heap.get?_push_of_some _ (Heap.get?_push_of_some _ (Heap.get?_push_of_some _ (Heap.get?_push_of_some _ (Heap.get?_push_of_some _ x))))⟩
end
def iZipM (K : PySem.W.Frag) (ta : TA) : TI := fun σ H R => ta σ H fun vs H1 => ∃ a b xs ys, vs = [.ref a, .ref b] ∧
  ((SqT K H1 a xs ∧ SqL K H1 b ys ∧ R (ItzG (fun H xs => SqT K H a xs) (fun H xs => SqL K H b xs)) H1) ∨ (SqL K H1 a xs ∧ SqT K H1 b ys ∧ R (ItzG (fun H xs => SqL K H a xs) (fun H xs => SqT K H b xs)) H1))
theorem p_zipM {X : Cx} {K : PySem.W.Frag} {e e2 : Expr} {ta : TA} {p pos tpos : Pos} {elts : List Expr} {kk : Nat} (hg : Gl X "zip") (hm : X.mg "zip" = none) (ha : PA X [e, e2] ta) (hK : X.K = K := by rfl)
    (hs : starEach [e, e2] X.env = (false, eval e X.env) :: starEach [e2] X.env := by rfl) (hpl : (backTo pos (starEach [e2] X.env)).any (·.1) = false := by rfl) : PI X (.Tuple elts kk tpos) (.Call (.Name "zip" p) [e, e2] [] pos) (iZipM K ta) := by
  subst hK
  refine ⟨fun pins s σ H R I h => ?_⟩
  refine Call_ (ld_blt I hg hm PyProof.Rows.boot_zip (PyProof.Rows.callWith_type1 (thn (ha.run pos pins s σ H _ I h) fun us s1 ⟨vs, H1, I1, r1, q1⟩ => ?_) hs hpl))
  obtain ⟨a, b, xs, ys, rfl, q1⟩ := q1
  obtain ⟨u, u', rfl, ru, ru'⟩ : ∃ u u', us = [u, u'] ∧ RelV (.ref a) u ∧ RelV (.ref b) u' := by
    cases r1 with
    | cons r rr =>
      cases rr with
      | cons r' rr =>
        cases rr
        exact ⟨_, _, rfl, r, r'⟩
  cases ru
  cases ru'
  have fresh5 : ∀ c, c ∈ [s1.heap.objs.size + 4, s1.heap.objs.size + 2, s1.heap.objs.size + 3, s1.heap.objs.size, s1.heap.objs.size + 1] → FpOk X pins H1 c := fun c hcm => by
    have hle : s1.heap.objs.size ≤ c := by
      simp only [List.mem_cons, List.not_mem_nil, or_false] at hcm
      omega
    exact I1.fpOk hle (I1.hok.fresh hle)
  rcases q1 with ⟨hqx, hqy, q⟩ | ⟨hqx, hqy, q⟩
  · obtain ⟨its, rv, p1, la⟩ := (side_tup (a := a)).get X pins σ H1 s1 xs rfl I1 hqx
    obtain ⟨its2, rv2, p2, lb⟩ := (side_list (a := b)).get X pins σ H1 s1 ys rfl I1 hqy
    refine call_zTL p1 p2 fun h' hz hTI hTO h1 h2 hk => wpAny_pyIter_zip hz ?_
    have I2 : L2.Inv X pins σ H1 { s1 with heap := h' } := I1.kept (t' := s1.toks) hk
    exact ⟨s1.heap.objs.size + 4, [s1.heap.objs.size + 4, s1.heap.objs.size + 2, s1.heap.objs.size + 3, s1.heap.objs.size, s1.heap.objs.size + 1], _, _, H1, rfl, I2, turn_zipG src_tup src_list side_tup side_list (PySem.W.ktu_apart s1.heap.objs.size a b la lb), ⟨hz, hTI, ⟨_, _, hTO⟩, h1, h2⟩, fresh5, q⟩
  · obtain ⟨its, rv, p1, la⟩ := (side_list (a := a)).get X pins σ H1 s1 xs rfl I1 hqx
    obtain ⟨its2, rv2, p2, lb⟩ := (side_tup (a := b)).get X pins σ H1 s1 ys rfl I1 hqy
    refine call_zLT p1 p2 fun h' hz hTI hTO h1 h2 hk => wpAny_pyIter_zip hz ?_
    have I2 : L2.Inv X pins σ H1 { s1 with heap := h' } := I1.kept (t' := s1.toks) hk
    exact ⟨s1.heap.objs.size + 4, [s1.heap.objs.size + 4, s1.heap.objs.size + 2, s1.heap.objs.size + 3, s1.heap.objs.size, s1.heap.objs.size + 1], _, _, H1, rfl, I2, turn_zipG src_list src_tup side_list side_tup (PySem.W.ktu_apart s1.heap.objs.size a b la lb), ⟨hz, hTI, ⟨_, _, hTO⟩, h1, h2⟩, fresh5, q⟩
theorem walk_zipG {R1 R2 : Hp → List V → Prop} {xs ys : List V} {n : Nat} (hn : n = min xs.length ys.length) : Walk (ItzG R1 R2) n (fun H => R1 H xs ∧ R2 H ys) (YPair (fun i => xs[i]?) (fun i => ys[i]?)) := by
  subst hn
  refine ⟨fun i _ hi q => ?_, fun _ q => ⟨xs, ys, q.1, q.2, by omega⟩, fun i H v H' _ q y => ?_⟩
  · have k1 : i < xs.length := by omega
    have k2 : i < ys.length := by omega
    exact ⟨xs, ys, xs[i], ys[i], q.1, q.2, by simp [k1], by simp [k2]⟩
  · obtain ⟨T, x, u, k1, k2, k3, k4, k5⟩ := y
    exact ⟨T, x, u, k1, k2, k3, k4 xs q.1, k5 ys q.2⟩
end Bw
set_option Elab.async false
set_option linter.all false
set_option maxRecDepth 100000
set_option maxHeartbeats 4000000
namespace Bw
open PySem PySem.Spec PyProof.Rows L2
section
variable {X : Cx} {K : PySem.W.Frag}
theorem p_bm {o e : Expr} {es : List Expr} {to : TE} {t : TA} {name : Str} {apos cpos : Pos} {T id : String} {r : V → List V → Hp → VK → Prop} (pa : PlainAttrs T) (slot : Slot T name id) (hty : typeOf (.builtin id) = pure (.type "method_descriptor")) (hm : MtM X id r) (ho : PE X o to) (ha : PA X (e :: es) t) (hK : X.K = K := by rfl)
    (hbase : attributeBase o name X.env (eval o X.env) = eval o X.env := by rfl)
    (hfew : ((backTo cpos (starEach (e :: es) X.env)).all (fun x => !x.1) && (backToKw cpos (keywordEach [] X.env)).all (fun x => x.1.isSome) && decide ((e :: es).length + ([] : List Keyword).length + (if ([] : List Keyword).isEmpty then 0 else 1) < 30)) = true := by rfl)
    (hline : (apos.endLine == cpos.line) = true := by rfl) (hs : starEach (e :: es) X.env = (false, eval e X.env) :: starEach es X.env := by rfl) (hplain : (backTo cpos (starEach es X.env)).any (·.1) = false := by rfl) :
    PE X (.Call (.Attribute o name apos) (e :: es) [] cpos) (tBM K T r to t) := by
  subst hK
  exact pe_bm pa slot hty hm ho ha hbase hfew hline hs hplain
theorem p_zipA {e e2 : Expr} {ta : TA} {p pos tpos : Pos} {elts : List Expr} {kk : Nat} (hg : Gl X "zip") (hm : X.mg "zip" = none) (ha : PA X [e, e2] ta) (hK : X.K = K := by rfl)
    (hs : starEach [e, e2] X.env = (false, eval e X.env) :: starEach [e2] X.env := by rfl) (hpl : (backTo pos (starEach [e2] X.env)).any (·.1) = false := by rfl) : PI X (.Tuple elts kk tpos) (.Call (.Name "zip" p) [e, e2] [] pos) (RZ.iZipA K ta) := by
  subst hK
  exact RZ.pi_zipA hg hm ha hs hpl
/-! ### a walk over a list or a tuple -/
def SqS (K : PySem.W.Frag) (b : Bool) (H : Hp) (a : Addr) (xs : List V) : Prop := if b then SqL K H a xs else SqT K H a xs
def ItS (K : PySem.W.Frag) (b : Bool) (a : Addr) : It := if b then Itl K a else Itt K a
def oS (b : Bool) (xs : List V) : HO := if b then .lst xs else .tup xs
theorem SqS.of {K : PySem.W.Frag} {b : Bool} {H : Hp} {a : Addr} {xs : List V} (h : H a = some (oS b xs)) : SqS K b H a xs := by
  cases b
  · exact SqT.of h
  · exact SqL.of h
theorem SqS.or {K : PySem.W.Frag} {b : Bool} {H : Hp} {a : Addr} {xs : List V} (h : SqS K b H a xs) : SqL K H a xs ∨ SqT K H a xs := by
  cases b
  · exact .inr h
  · exact .inl h
theorem walk_seq {b : Bool} {a : Addr} {xs : List V} : Walk (ItS K b a) xs.length (fun H => SqS K b H a xs) (YAt xs) := by
  cases b
  · exact walk_tup
  · exact walk_list
def iSeq (K : PySem.W.Frag) (tl : TE) : TI := fun σ H R => tl σ H fun v H1 => ∃ (a : Addr) (xs : List V) (b : Bool), v = .ref a ∧ SqS K b H1 a xs ∧ R (ItS K b a) H1
theorem p_seq {tg l : Expr} {tl : TE} (hl : PE X l tl) (hK : X.K = K := by rfl) : PI X tg l (iSeq K tl) := by
  subst hK
  refine ⟨fun pins s σ H R I h => thn (hl.run pins s σ H _ I h) fun v s1 ⟨x, H1, I1, r1, q1⟩ => ?_⟩
  obtain ⟨a, xs, b, rfl, hq, q⟩ := q1
  cases r1
  have hf : ∀ c ∈ [s1.heap.objs.size], FpOk X pins H1 c := fun c hc => by
    rw [List.mem_singleton.mp hc]
    exact I1.fpOk (Nat.le_refl _) (I1.hok.fresh (Nat.le_refl _))
  cases b
  · obtain ⟨its, rv, p, hz⟩ := I1.tuple hq
    exact wpAny_pyIter_tuple (show s1.heap.IsTuple a its.toArray from p) ⟨s1.heap.objs.size, [s1.heap.objs.size], _, _, H1, rfl, I1.kept (t' := s1.toks) fun b o e => Heap.get?_push_of_some _ e, turn_tuple a _, ⟨_, Heap.get?_push_size _ rfl, rfl, rfl⟩, hf, q⟩
  · obtain ⟨its, rv, p, hz⟩ := I1.list hq
    exact wpAny_pyIter_list p.isList ⟨s1.heap.objs.size, [s1.heap.objs.size], _, _, H1, rfl, I1.kept (t' := s1.toks) fun b o e => Heap.get?_push_of_some _ e, turn_list a _, ⟨_, Heap.get?_push_size _ rfl, rfl, rfl⟩, hf, q⟩
end
end Bw
set_option Elab.async false
set_option linter.all false
set_option maxRecDepth 100000
set_option maxHeartbeats 4000000
namespace Bw
open PySem PySem.Spec PyProof.Rows L2
/-! ### o.m(k=v): a method called by one keyword -/
def tMethK (C : Addr) (m : Str) (sp : Sp) (gV : List V → List V → List V) (E : XK) (ta : TE) (tk : TA) : TE := fun σ H Q => ta σ H fun x H1 => ∃ a dx fs, x = .ref a ∧ H1 a = some (.ins C dx fs) ∧ fs.lookup m = none ∧ tk σ H1 fun zs H2 => sp (gV [x] zs) H2 Q E
theorem pe_methK0 {X : Cx} {CX : CXT} {k : Nat} {C f : Addr} {fd : FuncData} {ps ks : List Str} {sp : Sp} {E : XK} {m : Str} {o : Expr} {ta : TE} {apos pos : Pos} {kws : List Keyword} {tk : TA} {g : List Value → List Value → List Value} {gV : List V → List V → List V} {pl : Sem Bool}
    (he : PE X o ta) (c : Cls X.K C) (hm : Meth X.K C m f) (F : FnOk X.prog X.w X.K X.mg X.base CX k f fd ps sp) (hr : Room k X.A) (hb : KBinds X.K fd ps ks g gV) (hx : Passes CX X E)
    (hkw : PK X kws tk) (hall : (backToKw pos (keywordEach kws X.env)).all (·.1.isSome) = true := by rfl) (hks : (backToKw pos (keywordEach kws X.env)).filterMap (·.1) = ks := by rfl)
    (hpl : ((backTo pos (starEach [] X.env)).any (·.1) || (backToKw pos (keywordEach kws X.env)).any (·.1.isNone)) = false := by rfl)
    (ht : eval (.Call (.Attribute o m apos) [] kws pos) X.env = (do
      let ov ← eval o X.env
      standAt apos.atName
      let (f, first) ← holding [ov] (getMethod ov m pl)
      callWith pos f first (backTo pos (starEach [] X.env)) (backToKw pos (keywordEach kws X.env))) := by rfl) :
    PE X (.Call (.Attribute o m apos) [] kws pos) (tMethK C m sp gV E ta tk) := by
  refine ⟨fun pins s σ H Q I h => ?_⟩
  refine PySem.W.methodCall_KW (pl := pl) (thn (he.run pins s σ H _ I h) fun u s1 ⟨x, H1, I1, rx, a, dx, fs, ex, ea, l, q⟩ => ?_) ht
  subst ex
  obtain rfl : u = Value.ref a := rx
  refine getmeth_ok I1 ea c hm l ?_
  refine PySem.W.callWith_KW0 (h₀ := X.base) (first := [.ref a]) I.ok.mod.kin hm.kp hall (thn (hkw.run pos pins s1 σ H1 _ I1 q) fun ws s2 ⟨zs, H2, I2, rz, q2⟩ => ⟨I2.kIn, ?_⟩) hpl
  rw [hks]
  exact run_fnk (us := [.ref a]) (vs := [.ref a]) F hr hb hx I2 (.cons rfl .nil) rz q2
/-! ### {k: v}, k a tuple -/
def tDisp1T (tk tv : TE) : TE := fun σ H Q => ∀ p, H p = none → tk σ (upd H p (.dT [])) fun x H1 => tv σ H1 fun y H2 => H2 p = some (.dT []) ∧ ∃ (b : Addr) (q : List Key), x = .ref b ∧ H2 b = some (.tup (q.map kV)) ∧ Q (.ref p) (upd H2 p (.dT [(q, y)]))
theorem pe_disp1T {X : Cx} {pos : Pos} {k v : Expr} {tk tv : TE} (hu : X.A.units < cLine) (hk : PE X k tk) (hv : PE X v tv) : PE X (.Dict [some k] [v] pos) (tDisp1T tk tv) := by
  refine ⟨fun pins s σ H Q I q => ?_⟩
  have hn := I.hok.fresh (Nat.le_refl s.heap.objs.size)
  have I1 := I.laid (a := s.heap.objs.size) (o := .dT []) (h' := s.heap.push { cls := .type "dict", data := .dict #[] }) (t' := s.toks) (fun _ _ q => Heap.get?_push_of_some _ q) (Nat.le_refl _) (dt_empty s.heap I.big)
  have h : PPs X pos [some k] [v] [(tk, tv)] := pps_cons hk hv pps_nil
  let Qp : List (V × V) → Hp → Prop := fun ps H2 => match ps with
    | [(x, y)] => H2 s.heap.objs.size = some (.dT []) ∧ ∃ (b : Addr) (q : List Key), x = .ref b ∧ H2 b = some (.tup (q.map kV)) ∧ Q (.ref s.heap.objs.size) (upd H2 s.heap.objs.size (.dT [(q, y)]))
    | _ => False
  have rd : tPairs [(tk, tv)] σ (upd H s.heap.objs.size (.dT [])) Qp := q _ hn
  rw [arm_eval_Dict, zip_pairTrees [some k] [v] X.env pos rfl rfl, dictDisplay_pairs _ (by simp [pairTrees]) (by show 1 < 17; decide)]
  refine wpAny_bind (wpAny_standAt (wpAny_bind ?_))
  unfold subDict
  refine wpAny_bind (wpAny_alloc ?_)
  refine wpAny_bind (wpAny_holding ?_)
  rw [if_pos (by show 1 ≤ 15; decide)]
  refine wpAny_bind (thn (h.run pins _ σ _ _ I1 rd) fun ws s2 ⟨ps, H2, I2, rel, qp⟩ => ?_)
  obtain ⟨b, qk, y, ep, e, eb, q2⟩ : ∃ (b : Addr) (qk : List Key) (y : V), ps = [(.ref b, y)] ∧ H2 s.heap.objs.size = some (.dT []) ∧ H2 b = some (.tup (qk.map kV)) ∧ Q (.ref s.heap.objs.size) (upd H2 s.heap.objs.size (.dT [(qk, y)])) := by
    match ps, qp with
    | [(x, y)], qp =>
      obtain ⟨e, b, qk, rfl, eb, q2⟩ := qp
      exact ⟨b, qk, y, rfl, e, eb, q2⟩
  subst ep
  obtain ⟨u, r, rfl, hur⟩ : ∃ u r, ws = [(u, r)] ∧ RelV (.ref b) u ∧ RelV y r := by
    cases rel with
    | cons h t =>
      cases t
      exact ⟨_, _, rfl, h⟩
  obtain ⟨ru, rr⟩ := hur
  obtain rfl : u = Value.ref b := ru
  refine wpAny_holding ?_
  rw [List.forIn_cons]
  obtain ⟨z, hd, xs, rel2, dd⟩ := dt_of I2.hok e
  have hx : xs = [] := by
    cases rel2
    rfl
  subst hx
  refine wpAny_bind (wpAny_bind (wpAny_bind (wpAny_dictSet_heap (hsz := Nat.zero_le _) (knd := tupleKind (mixKind X.prog X.w)) (show X.A.units < cLine from hu) (key_of I2.hok eb) dd fun h' dd' hs => wpAny_pure ?_)))
  show wpAny _ _ (forIn ([] : List (Value × Value)) PUnit.unit _) _ _ _
  rw [List.forIn_nil]
  refine wpAny_pure (wpAny_pure (wpAny_pure (wpAny_pure ?_)))
  obtain ⟨qo, es, ep, hq, h2, h3, h4, _, h5⟩ := dd'
  refine ⟨.ref s.heap.objs.size, _, ?_, rfl, q2⟩
  refine d_write I2 (by rw [e]; exact True.intro) hs ⟨qo, hq⟩ ⟨by show 1 ≤ sizeLine; decide, hd, _, (KT.put rel2 qk eb rr).keeps fun c ys ec => ?_, qo, es, ep, hq, h2, h3, h4, h5⟩
  rw [upd_ne (ne_of ec e (fun z => nomatch z))]
  exact ec
end Bw
set_option Elab.async false
set_option linter.all false
set_option maxRecDepth 100000
namespace Bw
open PySem PySem.Spec PyProof.Rows L2
def topS (i : Nat) : Stmt := PySem.Challenge.pw_budwright_k17_webs_begun.main.body.getD i (.Pass ⟨0, 0, 0, 0⟩)
structure Tx (mg : Str → Option Value) : Prop where
  len : mg "len" = none
  range : mg "range" = none
  zip : mg "zip" = none
  abs : mg "abs" = none
  all : mg "all" = none
  any : mg "any" = none
  max : mg "max" = none
  min : mg "min" = none
  sorted : mg "sorted" = none
  isinstance : mg "isinstance" = none
  int : mg "int" = none
  bool : mg "bool" = none
  tuple : mg "tuple" = none
  list : mg "list" = none
  dict : mg "dict" = none
  str : mg "str" = none
  ValueError : mg "ValueError" = none
  MOST_TIE : ∃ t, mg "MOST_TIE" = some (.int 50 t)
  MOST_BUDS : ∃ t, mg "MOST_BUDS" = some (.int 4 t)
  MOST_ROOTS : ∃ t, mg "MOST_ROOTS" = some (.int 4 t)
  MOST_WALK : ∃ t, mg "MOST_WALK" = some (.int 60 t)
  WIDE : ∃ t, mg "WIDE" = some (.int 400 t)
  IndexError : mg "IndexError" = none
  enumerate : mg "enumerate" = none
end Bw
set_option Elab.async false
set_option linter.all false
set_option maxRecDepth 100000
set_option maxHeartbeats 0
namespace Hd
open PySem PySem.W PySem.Calls PyProof.Rows L2
abbrev Rw : OpenRow := OpenLaw.row PySem.Challenge.rw_budwright_k17_webs_begun
abbrev S (x : String) : PySem.Str := PySem.Str.ofString x
abbrev R (a : Nat) : Value := Value.ref a
abbrev E (P : Params) (x : String) (t : Nat) (v : Value) : DictEntry := DictEntry.mk (PyData.keyHash P (PySem.Str.ofString x)) (Value.str (PySem.Str.ofString x) t) v
abbrev T (i : Nat) : Stmt := Bw.topS i
abbrev M (i j : Nat) : Stmt := inClass (Bw.topS i) j
abbrev o2 (P : Params) : Obj := Obj.mk Value.none none (Data.dict (List.toArray [E P "type.__subclasses__.ZeroDivisionError.0" 391 (Value.int (Int.ofNat 172) 0), E P "type.__subclasses__.ZeroDivisionError.n" 392 (Value.int (Int.ofNat 1) 0), E P "type.__subclasses__.IndexError.0" 421 (Value.int (Int.ofNat 192) 0), E P "type.__subclasses__.IndexError.n" 422 (Value.int (Int.ofNat 1) 0)]) 4) (List.toArray [])
abbrev o3 (P : Params) : Obj := Obj.mk (Value.type "dict") none (Data.dict (List.toArray [E P "__name__" 165 (Value.str (S "law_budwright_k17_webs_begun") 1174), E P "__doc__" 166 Value.none, E P "__package__" 167 Value.none, E P "__loader__" 168 (Value.builtin "__main__.__loader__#opaque"), E P "__spec__" 169 Value.none, E P "__annotations__" 170 (R 6), E P "__builtins__" 171 (R 4), E P "__file__" 173 (Value.str (S "/claim/cut.py") 172), E P "__cached__" 174 Value.none, E P "_wall" 193 (R 21), E P "BudError" 222 (R 38), E P "BadSum" 245 (R 58), E P "BadTable" 268 (R 77), E P "Uneven" 293 (R 96), E P "Great" 316 (R 115), E P "Held" 341 (R 134), E P "Full" 366 (R 153), E P "NoPart" 394 (R 172), E P "NoPlace" 424 (R 192), E P "CHUNK_FIGURES" 428 (Value.int (Int.ofNat 64) 427), E P "CHUNK" 432 (Value.int (Int.ofNat 10000000000000000000000000000000000000000000000000000000000000000) 431), E P "is_number" 439 (R 202), E P "whole_text" 448 (R 209), E P "row_text" 454 (R 214), E P "rows_text" 460 (R 219), E P "common" 470 (R 226), E P "added_powers" 478 (R 231), E P "lessened_powers" 484 (R 236), E P "gathered" 490 (R 241), E P "lowest_powers" 496 (R 246), E P "highest_powers" 502 (R 251), E P "multiplied" 508 (R 256), E P "multiplied_within" 523 (R 263), E P "taken_off" 537 (R 270), E P "quotient" 543 (R 275), E P "weighed" 549 (R 280), E P "MOST_TIE" 553 (Value.int (Int.ofNat 50) 552), E P "MOST_BUDS" 555 (Value.int (Int.ofNat 4) 554), E P "MOST_ROOTS" 557 (Value.int (Int.ofNat 4) 556), E P "is_row" 563 (R 285), E P "check_form" 569 (R 290), E P "check_table" 577 (R 297), E P "check_bud" 585 (R 304), E P "bud_count" 592 (R 311), E P "unlike_rows" 598 (R 316), E P "pair_bars" 609 (R 323), E P "ring_bars" 621 (R 330), E P "barred" 632 (R 337), E P "lot_weights" 638 (R 342), E P "weights" 644 (R 347), E P "weights_tables" 645 (R 347), E P "turned_row" 651 (R 352), E P "turned_table" 657 (R 357), E P "unit_rows" 663 (R 362), E P "first_seed" 673 (R 369), E P "sign_of" 680 (R 376), E P "minus" 686 (R 381), E P "added_often" 692 (R 386), E P "turned_hues" 698 (R 391), E P "fresh_lean" 712 (R 398), E P "turned_leans" 722 (R 405), E P "turned_seed" 733 (R 412), E P "LETTERS" 737 (Value.str (S "abcdefghijklmnopqrstuvwxyz") 736), E P "letters_text" 747 (R 419), E P "product_text" 756 (R 426), E P "sum_pieces" 766 (R 433), E P "WIDE" 770 (Value.int (Int.ofNat 400) 769), E P "Sum" 923 (R 562), E P "check_width" 931 (R 573), E P "letter" 939 (R 579), E P "MOST_TERMS" 943 (Value.int (Int.ofNat 100) 942), E P "MOST_WALK" 945 (Value.int (Int.ofNat 60) 944), E P "first_sums" 951 (R 584), E P "side_products" 963 (R 591), E P "new_bud" 969 (R 596), E P "exchanged" 978 (R 603), E P "Web" 1173 (R 767), E P "_law_feed" 1182 (R 778), E P "_law_draw" 1193 (R 785), E P "_law_pick" 1201 (R 792), E P "_law_same" 1207 (R 797), E P "_law_gcd" 1215 (R 804), E P "_law_told" 1221 (R 809), E P "_law_sum_is" 1230 (R 816), E P "_law_even" 1236 (R 821), E P "_law_roots" 1242 (R 826), E P "_law_table" 1252 (R 833), E P "_law_unit" 1258 (R 838), E P "_law_rows_text" 1264 (R 843), E P "_law_no_bud" 1276 (R 850), E P "law" 1282 (R 855)]) 91) (List.toArray [])
abbrev o15 (P : Params) : Obj := Obj.mk (Value.type "tuple") none (Data.seq (List.toArray []) 0) (List.toArray [])
abbrev o17 (P : Params) : Obj := Obj.mk (Value.type "tuple") none (Data.seq (List.toArray [(Value.str (S "k") 190)]) 0) (List.toArray [])
abbrev o18 (P : Params) : Obj := Obj.mk (Value.type "tuple") none (Data.seq (List.toArray []) 0) (List.toArray [])
abbrev o20 (P : Params) : Obj := Obj.mk (Value.type "code") none (Data.fields (List.toArray [(Value.str (S "_wall") 187), (Value.str (S "_wall") 188), (Value.str (S "/claim/cut.py") 189), (Value.int (Int.ofNat 1) 0), (Value.int (Int.ofNat 1) 0), (Value.int (Int.ofNat 0) 0), (Value.int (Int.ofNat 0) 0), (Value.int (Int.ofNat 3) 0), (R 15), (Value.bool true), (Value.int (Int.ofNat 181) 0), (R 16), Value.none, (R 17), (R 18), (R 19), (Value.int (Int.ofNat 191) 0), (Value.int (Int.ofNat 1) 0), (Value.str (S "/claim/cut.py") 192)])) (List.toArray [])
abbrev o21 (P : Params) : Obj := Obj.mk (Value.type "function") none (Data.func (FuncData.mk (S "_wall") (S "_wall") (defArgs (T 0)) (FuncBody.stmts (defBody (T 0))) (defScope (T 0)) 3 [] Value.none Value.none Value.none (Value.str (S "__main__") 164) none (R 20) Value.none 0)) (List.toArray [])
abbrev o22 (P : Params) : Obj := Obj.mk (Value.type "tuple") none (Data.seq (List.toArray [(Value.type "ValueError")]) 0) (List.toArray [])
abbrev o29 (P : Params) : Obj := Obj.mk (Value.type "tuple") none (Data.seq (List.toArray []) 0) (List.toArray [])
abbrev o31 (P : Params) : Obj := Obj.mk (Value.type "tuple") none (Data.seq (List.toArray [(Value.str (S "self") 211), (Value.str (S "word") 212)]) 0) (List.toArray [])
abbrev o32 (P : Params) : Obj := Obj.mk (Value.type "tuple") none (Data.seq (List.toArray []) 0) (List.toArray [])
abbrev o34 (P : Params) : Obj := Obj.mk (Value.type "code") none (Data.fields (List.toArray [(Value.str (S "__init__") 208), (Value.str (S "BudError.__init__") 209), (Value.str (S "/claim/cut.py") 210), (Value.int (Int.ofNat 7) 0), (Value.int (Int.ofNat 2) 0), (Value.int (Int.ofNat 0) 0), (Value.int (Int.ofNat 0) 0), (Value.int (Int.ofNat 3) 0), (R 29), (Value.bool true), (Value.int (Int.ofNat 181) 0), (R 30), Value.none, (R 31), (R 32), (R 33), (Value.int (Int.ofNat 213) 0), (Value.int (Int.ofNat 7) 0), (Value.str (S "/claim/cut.py") 214)])) (List.toArray [])
abbrev o35 (P : Params) : Obj := Obj.mk (Value.type "function") none (Data.func (FuncData.mk (S "__init__") (S "BudError.__init__") (defArgs (M 2 0)) (FuncBody.stmts (defBody (M 2 0))) (defScope (M 2 0)) 3 [] Value.none Value.none Value.none (Value.str (S "budwright.errors") 194) none (R 34) Value.none 0)) (List.toArray [])
abbrev o36 (P : Params) : Obj := Obj.mk (Value.type "tuple") none (Data.seq (List.toArray [(Value.str (S "word") 216)]) 0) (List.toArray [])
abbrev o37 (P : Params) : Obj := Obj.mk (Value.type "dict") none (Data.dict (List.toArray [E P "__module__" 203 (Value.str (S "budwright.errors") 194), E P "__firstlineno__" 207 (Value.int (Int.ofNat 5) 206), E P "__init__" 215 (R 35), E P "__static_attributes__" 217 (R 36), E P "__weakref__" 219 (R 39), E P "__doc__" 220 Value.none]) 3) (List.toArray [])
abbrev o38 (P : Params) : Obj := Obj.mk (Value.type "type") none (Data.cls (ClassData.mk (S "BudError") [(Value.type "ValueError")] [(R 38), (Value.type "ValueError"), (Value.type "Exception"), (Value.type "BaseException"), (Value.type "object")] 37 (S "BudError") true [] [(R 58), (R 77), (R 96), (R 115), (R 134), (R 153)] false none false)) (List.toArray [(some (R 22)), none, (some (Value.str (S "BudError") 196)), (some (Value.str (S "BudError") 204)), (some (Value.builtin "ValueError.__new__")), (some (Value.bool true))])
abbrev o39 (P : Params) : Obj := Obj.mk (Value.type "getset_descriptor") none (Data.fields (List.toArray [(Value.str (S "__weakref__") 218), (R 38), (Value.builtin "ExceptionGroup.__weakref__"), Value.none])) (List.toArray [])
abbrev o42 (P : Params) : Obj := Obj.mk (Value.type "tuple") none (Data.seq (List.toArray [(R 38)]) 0) (List.toArray [])
abbrev o49 (P : Params) : Obj := Obj.mk (Value.type "tuple") none (Data.seq (List.toArray []) 0) (List.toArray [])
abbrev o51 (P : Params) : Obj := Obj.mk (Value.type "tuple") none (Data.seq (List.toArray [(Value.str (S "self") 238)]) 0) (List.toArray [])
abbrev o52 (P : Params) : Obj := Obj.mk (Value.type "tuple") none (Data.seq (List.toArray []) 0) (List.toArray [])
abbrev o54 (P : Params) : Obj := Obj.mk (Value.type "code") none (Data.fields (List.toArray [(Value.str (S "__init__") 235), (Value.str (S "BadSum.__init__") 236), (Value.str (S "/claim/cut.py") 237), (Value.int (Int.ofNat 12) 0), (Value.int (Int.ofNat 1) 0), (Value.int (Int.ofNat 0) 0), (Value.int (Int.ofNat 0) 0), (Value.int (Int.ofNat 3) 0), (R 49), (Value.bool true), (Value.int (Int.ofNat 181) 0), (R 50), Value.none, (R 51), (R 52), (R 53), (Value.int (Int.ofNat 239) 0), (Value.int (Int.ofNat 12) 0), (Value.str (S "/claim/cut.py") 240)])) (List.toArray [])
abbrev o55 (P : Params) : Obj := Obj.mk (Value.type "function") none (Data.func (FuncData.mk (S "__init__") (S "BadSum.__init__") (defArgs (M 3 0)) (FuncBody.stmts (defBody (M 3 0))) (defScope (M 3 0)) 3 [] Value.none Value.none Value.none (Value.str (S "budwright.errors") 194) none (R 54) Value.none 0)) (List.toArray [])
abbrev o56 (P : Params) : Obj := Obj.mk (Value.type "tuple") none (Data.seq (List.toArray []) 0) (List.toArray [])
abbrev o57 (P : Params) : Obj := Obj.mk (Value.type "dict") none (Data.dict (List.toArray [E P "__module__" 230 (Value.str (S "budwright.errors") 194), E P "__firstlineno__" 234 (Value.int (Int.ofNat 10) 233), E P "__init__" 241 (R 55), E P "__static_attributes__" 242 (R 56), E P "__doc__" 243 Value.none]) 2) (List.toArray [])
abbrev o58 (P : Params) : Obj := Obj.mk (Value.type "type") none (Data.cls (ClassData.mk (S "BadSum") [(R 38)] [(R 58), (R 38), (Value.type "ValueError"), (Value.type "Exception"), (Value.type "BaseException"), (Value.type "object")] 57 (S "BadSum") true [] [] false none false)) (List.toArray [(some (R 42)), none, (some (Value.str (S "BadSum") 223)), (some (Value.str (S "BadSum") 231)), (some (Value.builtin "ValueError.__new__")), (some (Value.bool true))])
abbrev o61 (P : Params) : Obj := Obj.mk (Value.type "tuple") none (Data.seq (List.toArray [(R 38)]) 0) (List.toArray [])
abbrev o68 (P : Params) : Obj := Obj.mk (Value.type "tuple") none (Data.seq (List.toArray []) 0) (List.toArray [])
abbrev o70 (P : Params) : Obj := Obj.mk (Value.type "tuple") none (Data.seq (List.toArray [(Value.str (S "self") 261)]) 0) (List.toArray [])
abbrev o71 (P : Params) : Obj := Obj.mk (Value.type "tuple") none (Data.seq (List.toArray []) 0) (List.toArray [])
abbrev o73 (P : Params) : Obj := Obj.mk (Value.type "code") none (Data.fields (List.toArray [(Value.str (S "__init__") 258), (Value.str (S "BadTable.__init__") 259), (Value.str (S "/claim/cut.py") 260), (Value.int (Int.ofNat 16) 0), (Value.int (Int.ofNat 1) 0), (Value.int (Int.ofNat 0) 0), (Value.int (Int.ofNat 0) 0), (Value.int (Int.ofNat 3) 0), (R 68), (Value.bool true), (Value.int (Int.ofNat 181) 0), (R 69), Value.none, (R 70), (R 71), (R 72), (Value.int (Int.ofNat 262) 0), (Value.int (Int.ofNat 16) 0), (Value.str (S "/claim/cut.py") 263)])) (List.toArray [])
abbrev o74 (P : Params) : Obj := Obj.mk (Value.type "function") none (Data.func (FuncData.mk (S "__init__") (S "BadTable.__init__") (defArgs (M 4 0)) (FuncBody.stmts (defBody (M 4 0))) (defScope (M 4 0)) 3 [] Value.none Value.none Value.none (Value.str (S "budwright.errors") 194) none (R 73) Value.none 0)) (List.toArray [])
abbrev o75 (P : Params) : Obj := Obj.mk (Value.type "tuple") none (Data.seq (List.toArray []) 0) (List.toArray [])
abbrev o76 (P : Params) : Obj := Obj.mk (Value.type "dict") none (Data.dict (List.toArray [E P "__module__" 253 (Value.str (S "budwright.errors") 194), E P "__firstlineno__" 257 (Value.int (Int.ofNat 14) 256), E P "__init__" 264 (R 74), E P "__static_attributes__" 265 (R 75), E P "__doc__" 266 Value.none]) 2) (List.toArray [])
abbrev o77 (P : Params) : Obj := Obj.mk (Value.type "type") none (Data.cls (ClassData.mk (S "BadTable") [(R 38)] [(R 77), (R 38), (Value.type "ValueError"), (Value.type "Exception"), (Value.type "BaseException"), (Value.type "object")] 76 (S "BadTable") true [] [] false none false)) (List.toArray [(some (R 61)), none, (some (Value.str (S "BadTable") 246)), (some (Value.str (S "BadTable") 254)), (some (Value.builtin "ValueError.__new__")), (some (Value.bool true))])
abbrev o80 (P : Params) : Obj := Obj.mk (Value.type "tuple") none (Data.seq (List.toArray [(R 38)]) 0) (List.toArray [])
abbrev o87 (P : Params) : Obj := Obj.mk (Value.type "tuple") none (Data.seq (List.toArray []) 0) (List.toArray [])
abbrev o89 (P : Params) : Obj := Obj.mk (Value.type "tuple") none (Data.seq (List.toArray [(Value.str (S "self") 284), (Value.str (S "ring") 285)]) 0) (List.toArray [])
abbrev o90 (P : Params) : Obj := Obj.mk (Value.type "tuple") none (Data.seq (List.toArray []) 0) (List.toArray [])
abbrev o92 (P : Params) : Obj := Obj.mk (Value.type "code") none (Data.fields (List.toArray [(Value.str (S "__init__") 281), (Value.str (S "Uneven.__init__") 282), (Value.str (S "/claim/cut.py") 283), (Value.int (Int.ofNat 20) 0), (Value.int (Int.ofNat 2) 0), (Value.int (Int.ofNat 0) 0), (Value.int (Int.ofNat 0) 0), (Value.int (Int.ofNat 3) 0), (R 87), (Value.bool true), (Value.int (Int.ofNat 181) 0), (R 88), Value.none, (R 89), (R 90), (R 91), (Value.int (Int.ofNat 286) 0), (Value.int (Int.ofNat 20) 0), (Value.str (S "/claim/cut.py") 287)])) (List.toArray [])
abbrev o93 (P : Params) : Obj := Obj.mk (Value.type "function") none (Data.func (FuncData.mk (S "__init__") (S "Uneven.__init__") (defArgs (M 5 0)) (FuncBody.stmts (defBody (M 5 0))) (defScope (M 5 0)) 3 [] Value.none Value.none Value.none (Value.str (S "budwright.errors") 194) none (R 92) Value.none 0)) (List.toArray [])
abbrev o94 (P : Params) : Obj := Obj.mk (Value.type "tuple") none (Data.seq (List.toArray [(Value.str (S "ring") 289)]) 0) (List.toArray [])
abbrev o95 (P : Params) : Obj := Obj.mk (Value.type "dict") none (Data.dict (List.toArray [E P "__module__" 276 (Value.str (S "budwright.errors") 194), E P "__firstlineno__" 280 (Value.int (Int.ofNat 18) 279), E P "__init__" 288 (R 93), E P "__static_attributes__" 290 (R 94), E P "__doc__" 291 Value.none]) 2) (List.toArray [])
abbrev o96 (P : Params) : Obj := Obj.mk (Value.type "type") none (Data.cls (ClassData.mk (S "Uneven") [(R 38)] [(R 96), (R 38), (Value.type "ValueError"), (Value.type "Exception"), (Value.type "BaseException"), (Value.type "object")] 95 (S "Uneven") true [] [] false none false)) (List.toArray [(some (R 80)), none, (some (Value.str (S "Uneven") 269)), (some (Value.str (S "Uneven") 277)), (some (Value.builtin "ValueError.__new__")), (some (Value.bool true))])
abbrev o99 (P : Params) : Obj := Obj.mk (Value.type "tuple") none (Data.seq (List.toArray [(R 38)]) 0) (List.toArray [])
abbrev o106 (P : Params) : Obj := Obj.mk (Value.type "tuple") none (Data.seq (List.toArray []) 0) (List.toArray [])
abbrev o108 (P : Params) : Obj := Obj.mk (Value.type "tuple") none (Data.seq (List.toArray [(Value.str (S "self") 309)]) 0) (List.toArray [])
abbrev o109 (P : Params) : Obj := Obj.mk (Value.type "tuple") none (Data.seq (List.toArray []) 0) (List.toArray [])
abbrev o111 (P : Params) : Obj := Obj.mk (Value.type "code") none (Data.fields (List.toArray [(Value.str (S "__init__") 306), (Value.str (S "Great.__init__") 307), (Value.str (S "/claim/cut.py") 308), (Value.int (Int.ofNat 25) 0), (Value.int (Int.ofNat 1) 0), (Value.int (Int.ofNat 0) 0), (Value.int (Int.ofNat 0) 0), (Value.int (Int.ofNat 3) 0), (R 106), (Value.bool true), (Value.int (Int.ofNat 181) 0), (R 107), Value.none, (R 108), (R 109), (R 110), (Value.int (Int.ofNat 310) 0), (Value.int (Int.ofNat 25) 0), (Value.str (S "/claim/cut.py") 311)])) (List.toArray [])
abbrev o112 (P : Params) : Obj := Obj.mk (Value.type "function") none (Data.func (FuncData.mk (S "__init__") (S "Great.__init__") (defArgs (M 6 0)) (FuncBody.stmts (defBody (M 6 0))) (defScope (M 6 0)) 3 [] Value.none Value.none Value.none (Value.str (S "budwright.errors") 194) none (R 111) Value.none 0)) (List.toArray [])
abbrev o113 (P : Params) : Obj := Obj.mk (Value.type "tuple") none (Data.seq (List.toArray []) 0) (List.toArray [])
abbrev o114 (P : Params) : Obj := Obj.mk (Value.type "dict") none (Data.dict (List.toArray [E P "__module__" 301 (Value.str (S "budwright.errors") 194), E P "__firstlineno__" 305 (Value.int (Int.ofNat 23) 304), E P "__init__" 312 (R 112), E P "__static_attributes__" 313 (R 113), E P "__doc__" 314 Value.none]) 2) (List.toArray [])
abbrev o115 (P : Params) : Obj := Obj.mk (Value.type "type") none (Data.cls (ClassData.mk (S "Great") [(R 38)] [(R 115), (R 38), (Value.type "ValueError"), (Value.type "Exception"), (Value.type "BaseException"), (Value.type "object")] 114 (S "Great") true [] [] false none false)) (List.toArray [(some (R 99)), none, (some (Value.str (S "Great") 294)), (some (Value.str (S "Great") 302)), (some (Value.builtin "ValueError.__new__")), (some (Value.bool true))])
abbrev o118 (P : Params) : Obj := Obj.mk (Value.type "tuple") none (Data.seq (List.toArray [(R 38)]) 0) (List.toArray [])
abbrev o125 (P : Params) : Obj := Obj.mk (Value.type "tuple") none (Data.seq (List.toArray []) 0) (List.toArray [])
abbrev o127 (P : Params) : Obj := Obj.mk (Value.type "tuple") none (Data.seq (List.toArray [(Value.str (S "self") 332), (Value.str (S "place") 333)]) 0) (List.toArray [])
abbrev o128 (P : Params) : Obj := Obj.mk (Value.type "tuple") none (Data.seq (List.toArray []) 0) (List.toArray [])
abbrev o130 (P : Params) : Obj := Obj.mk (Value.type "code") none (Data.fields (List.toArray [(Value.str (S "__init__") 329), (Value.str (S "Held.__init__") 330), (Value.str (S "/claim/cut.py") 331), (Value.int (Int.ofNat 29) 0), (Value.int (Int.ofNat 2) 0), (Value.int (Int.ofNat 0) 0), (Value.int (Int.ofNat 0) 0), (Value.int (Int.ofNat 3) 0), (R 125), (Value.bool true), (Value.int (Int.ofNat 181) 0), (R 126), Value.none, (R 127), (R 128), (R 129), (Value.int (Int.ofNat 334) 0), (Value.int (Int.ofNat 29) 0), (Value.str (S "/claim/cut.py") 335)])) (List.toArray [])
abbrev o131 (P : Params) : Obj := Obj.mk (Value.type "function") none (Data.func (FuncData.mk (S "__init__") (S "Held.__init__") (defArgs (M 7 0)) (FuncBody.stmts (defBody (M 7 0))) (defScope (M 7 0)) 3 [] Value.none Value.none Value.none (Value.str (S "budwright.errors") 194) none (R 130) Value.none 0)) (List.toArray [])
abbrev o132 (P : Params) : Obj := Obj.mk (Value.type "tuple") none (Data.seq (List.toArray [(Value.str (S "place") 337)]) 0) (List.toArray [])
abbrev o133 (P : Params) : Obj := Obj.mk (Value.type "dict") none (Data.dict (List.toArray [E P "__module__" 324 (Value.str (S "budwright.errors") 194), E P "__firstlineno__" 328 (Value.int (Int.ofNat 27) 327), E P "__init__" 336 (R 131), E P "__static_attributes__" 338 (R 132), E P "__doc__" 339 Value.none]) 2) (List.toArray [])
abbrev o134 (P : Params) : Obj := Obj.mk (Value.type "type") none (Data.cls (ClassData.mk (S "Held") [(R 38)] [(R 134), (R 38), (Value.type "ValueError"), (Value.type "Exception"), (Value.type "BaseException"), (Value.type "object")] 133 (S "Held") true [] [] false none false)) (List.toArray [(some (R 118)), none, (some (Value.str (S "Held") 317)), (some (Value.str (S "Held") 325)), (some (Value.builtin "ValueError.__new__")), (some (Value.bool true))])
abbrev o137 (P : Params) : Obj := Obj.mk (Value.type "tuple") none (Data.seq (List.toArray [(R 38)]) 0) (List.toArray [])
abbrev o144 (P : Params) : Obj := Obj.mk (Value.type "tuple") none (Data.seq (List.toArray []) 0) (List.toArray [])
abbrev o146 (P : Params) : Obj := Obj.mk (Value.type "tuple") none (Data.seq (List.toArray [(Value.str (S "self") 357), (Value.str (S "most") 358)]) 0) (List.toArray [])
abbrev o147 (P : Params) : Obj := Obj.mk (Value.type "tuple") none (Data.seq (List.toArray []) 0) (List.toArray [])
abbrev o149 (P : Params) : Obj := Obj.mk (Value.type "code") none (Data.fields (List.toArray [(Value.str (S "__init__") 354), (Value.str (S "Full.__init__") 355), (Value.str (S "/claim/cut.py") 356), (Value.int (Int.ofNat 34) 0), (Value.int (Int.ofNat 2) 0), (Value.int (Int.ofNat 0) 0), (Value.int (Int.ofNat 0) 0), (Value.int (Int.ofNat 3) 0), (R 144), (Value.bool true), (Value.int (Int.ofNat 181) 0), (R 145), Value.none, (R 146), (R 147), (R 148), (Value.int (Int.ofNat 359) 0), (Value.int (Int.ofNat 34) 0), (Value.str (S "/claim/cut.py") 360)])) (List.toArray [])
abbrev o150 (P : Params) : Obj := Obj.mk (Value.type "function") none (Data.func (FuncData.mk (S "__init__") (S "Full.__init__") (defArgs (M 8 0)) (FuncBody.stmts (defBody (M 8 0))) (defScope (M 8 0)) 3 [] Value.none Value.none Value.none (Value.str (S "budwright.errors") 194) none (R 149) Value.none 0)) (List.toArray [])
abbrev o151 (P : Params) : Obj := Obj.mk (Value.type "tuple") none (Data.seq (List.toArray [(Value.str (S "most") 362)]) 0) (List.toArray [])
abbrev o152 (P : Params) : Obj := Obj.mk (Value.type "dict") none (Data.dict (List.toArray [E P "__module__" 349 (Value.str (S "budwright.errors") 194), E P "__firstlineno__" 353 (Value.int (Int.ofNat 32) 352), E P "__init__" 361 (R 150), E P "__static_attributes__" 363 (R 151), E P "__doc__" 364 Value.none]) 2) (List.toArray [])
abbrev o153 (P : Params) : Obj := Obj.mk (Value.type "type") none (Data.cls (ClassData.mk (S "Full") [(R 38)] [(R 153), (R 38), (Value.type "ValueError"), (Value.type "Exception"), (Value.type "BaseException"), (Value.type "object")] 152 (S "Full") true [] [] false none false)) (List.toArray [(some (R 137)), none, (some (Value.str (S "Full") 342)), (some (Value.str (S "Full") 350)), (some (Value.builtin "ValueError.__new__")), (some (Value.bool true))])
abbrev o156 (P : Params) : Obj := Obj.mk (Value.type "tuple") none (Data.seq (List.toArray [(Value.type "ZeroDivisionError")]) 0) (List.toArray [])
abbrev o163 (P : Params) : Obj := Obj.mk (Value.type "tuple") none (Data.seq (List.toArray []) 0) (List.toArray [])
abbrev o165 (P : Params) : Obj := Obj.mk (Value.type "tuple") none (Data.seq (List.toArray [(Value.str (S "self") 382)]) 0) (List.toArray [])
abbrev o166 (P : Params) : Obj := Obj.mk (Value.type "tuple") none (Data.seq (List.toArray []) 0) (List.toArray [])
abbrev o168 (P : Params) : Obj := Obj.mk (Value.type "code") none (Data.fields (List.toArray [(Value.str (S "__init__") 379), (Value.str (S "NoPart.__init__") 380), (Value.str (S "/claim/cut.py") 381), (Value.int (Int.ofNat 39) 0), (Value.int (Int.ofNat 1) 0), (Value.int (Int.ofNat 0) 0), (Value.int (Int.ofNat 0) 0), (Value.int (Int.ofNat 3) 0), (R 163), (Value.bool true), (Value.int (Int.ofNat 181) 0), (R 164), Value.none, (R 165), (R 166), (R 167), (Value.int (Int.ofNat 383) 0), (Value.int (Int.ofNat 39) 0), (Value.str (S "/claim/cut.py") 384)])) (List.toArray [])
abbrev o169 (P : Params) : Obj := Obj.mk (Value.type "function") none (Data.func (FuncData.mk (S "__init__") (S "NoPart.__init__") (defArgs (M 9 0)) (FuncBody.stmts (defBody (M 9 0))) (defScope (M 9 0)) 3 [] Value.none Value.none Value.none (Value.str (S "budwright.errors") 194) none (R 168) Value.none 0)) (List.toArray [])
abbrev o170 (P : Params) : Obj := Obj.mk (Value.type "tuple") none (Data.seq (List.toArray [(Value.str (S "word") 386)]) 0) (List.toArray [])
abbrev o171 (P : Params) : Obj := Obj.mk (Value.type "dict") none (Data.dict (List.toArray [E P "__module__" 374 (Value.str (S "budwright.errors") 194), E P "__firstlineno__" 378 (Value.int (Int.ofNat 37) 377), E P "__init__" 385 (R 169), E P "__static_attributes__" 387 (R 170), E P "__weakref__" 389 (R 173), E P "__doc__" 390 Value.none]) 3) (List.toArray [])
abbrev o172 (P : Params) : Obj := Obj.mk (Value.type "type") none (Data.cls (ClassData.mk (S "NoPart") [(Value.type "ZeroDivisionError")] [(R 172), (Value.type "ZeroDivisionError"), (Value.type "ArithmeticError"), (Value.type "Exception"), (Value.type "BaseException"), (Value.type "object")] 171 (S "NoPart") true [] [] false none false)) (List.toArray [(some (R 156)), none, (some (Value.str (S "NoPart") 367)), (some (Value.str (S "NoPart") 375)), (some (Value.builtin "ZeroDivisionError.__new__")), (some (Value.bool true))])
abbrev o173 (P : Params) : Obj := Obj.mk (Value.type "getset_descriptor") none (Data.fields (List.toArray [(Value.str (S "__weakref__") 388), (R 172), (Value.builtin "ExceptionGroup.__weakref__"), Value.none])) (List.toArray [])
abbrev o176 (P : Params) : Obj := Obj.mk (Value.type "tuple") none (Data.seq (List.toArray [(Value.type "IndexError")]) 0) (List.toArray [])
abbrev o183 (P : Params) : Obj := Obj.mk (Value.type "tuple") none (Data.seq (List.toArray []) 0) (List.toArray [])
abbrev o185 (P : Params) : Obj := Obj.mk (Value.type "tuple") none (Data.seq (List.toArray [(Value.str (S "self") 410), (Value.str (S "place") 411)]) 0) (List.toArray [])
abbrev o186 (P : Params) : Obj := Obj.mk (Value.type "tuple") none (Data.seq (List.toArray []) 0) (List.toArray [])
abbrev o188 (P : Params) : Obj := Obj.mk (Value.type "code") none (Data.fields (List.toArray [(Value.str (S "__init__") 407), (Value.str (S "NoPlace.__init__") 408), (Value.str (S "/claim/cut.py") 409), (Value.int (Int.ofNat 44) 0), (Value.int (Int.ofNat 2) 0), (Value.int (Int.ofNat 0) 0), (Value.int (Int.ofNat 0) 0), (Value.int (Int.ofNat 3) 0), (R 183), (Value.bool true), (Value.int (Int.ofNat 181) 0), (R 184), Value.none, (R 185), (R 186), (R 187), (Value.int (Int.ofNat 412) 0), (Value.int (Int.ofNat 44) 0), (Value.str (S "/claim/cut.py") 413)])) (List.toArray [])
abbrev o189 (P : Params) : Obj := Obj.mk (Value.type "function") none (Data.func (FuncData.mk (S "__init__") (S "NoPlace.__init__") (defArgs (M 10 0)) (FuncBody.stmts (defBody (M 10 0))) (defScope (M 10 0)) 3 [] Value.none Value.none Value.none (Value.str (S "budwright.errors") 194) none (R 188) Value.none 0)) (List.toArray [])
abbrev o190 (P : Params) : Obj := Obj.mk (Value.type "tuple") none (Data.seq (List.toArray [(Value.str (S "place") 415), (Value.str (S "word") 416)]) 0) (List.toArray [])
abbrev o191 (P : Params) : Obj := Obj.mk (Value.type "dict") none (Data.dict (List.toArray [E P "__module__" 402 (Value.str (S "budwright.errors") 194), E P "__firstlineno__" 406 (Value.int (Int.ofNat 42) 405), E P "__init__" 414 (R 189), E P "__static_attributes__" 417 (R 190), E P "__weakref__" 419 (R 193), E P "__doc__" 420 Value.none]) 3) (List.toArray [])
abbrev o192 (P : Params) : Obj := Obj.mk (Value.type "type") none (Data.cls (ClassData.mk (S "NoPlace") [(Value.type "IndexError")] [(R 192), (Value.type "IndexError"), (Value.type "LookupError"), (Value.type "Exception"), (Value.type "BaseException"), (Value.type "object")] 191 (S "NoPlace") true [] [] false none false)) (List.toArray [(some (R 176)), none, (some (Value.str (S "NoPlace") 395)), (some (Value.str (S "NoPlace") 403)), (some (Value.builtin "IndexError.__new__")), (some (Value.bool true))])
abbrev o193 (P : Params) : Obj := Obj.mk (Value.type "getset_descriptor") none (Data.fields (List.toArray [(Value.str (S "__weakref__") 418), (R 192), (Value.builtin "ExceptionGroup.__weakref__"), Value.none])) (List.toArray [])
abbrev o196 (P : Params) : Obj := Obj.mk (Value.type "tuple") none (Data.seq (List.toArray []) 0) (List.toArray [])
abbrev o198 (P : Params) : Obj := Obj.mk (Value.type "tuple") none (Data.seq (List.toArray [(Value.str (S "thing") 436)]) 0) (List.toArray [])
abbrev o199 (P : Params) : Obj := Obj.mk (Value.type "tuple") none (Data.seq (List.toArray []) 0) (List.toArray [])
abbrev o201 (P : Params) : Obj := Obj.mk (Value.type "code") none (Data.fields (List.toArray [(Value.str (S "is_number") 433), (Value.str (S "is_number") 434), (Value.str (S "/claim/cut.py") 435), (Value.int (Int.ofNat 51) 0), (Value.int (Int.ofNat 1) 0), (Value.int (Int.ofNat 0) 0), (Value.int (Int.ofNat 0) 0), (Value.int (Int.ofNat 3) 0), (R 196), (Value.bool true), (Value.int (Int.ofNat 181) 0), (R 197), Value.none, (R 198), (R 199), (R 200), (Value.int (Int.ofNat 437) 0), (Value.int (Int.ofNat 51) 0), (Value.str (S "/claim/cut.py") 438)])) (List.toArray [])
abbrev o202 (P : Params) : Obj := Obj.mk (Value.type "function") none (Data.func (FuncData.mk (S "is_number") (S "is_number") (defArgs (T 14)) (FuncBody.stmts (defBody (T 14))) (defScope (T 14)) 3 [] Value.none Value.none Value.none (Value.str (S "budwright.figures") 425) none (R 201) Value.none 0)) (List.toArray [])
abbrev o203 (P : Params) : Obj := Obj.mk (Value.type "tuple") none (Data.seq (List.toArray []) 0) (List.toArray [])
abbrev o205 (P : Params) : Obj := Obj.mk (Value.type "tuple") none (Data.seq (List.toArray [(Value.str (S "number") 443), (Value.str (S "pieces") 444), (Value.str (S "low") 445)]) 0) (List.toArray [])
abbrev o206 (P : Params) : Obj := Obj.mk (Value.type "tuple") none (Data.seq (List.toArray []) 0) (List.toArray [])
abbrev o208 (P : Params) : Obj := Obj.mk (Value.type "code") none (Data.fields (List.toArray [(Value.str (S "whole_text") 440), (Value.str (S "whole_text") 441), (Value.str (S "/claim/cut.py") 442), (Value.int (Int.ofNat 53) 0), (Value.int (Int.ofNat 1) 0), (Value.int (Int.ofNat 0) 0), (Value.int (Int.ofNat 0) 0), (Value.int (Int.ofNat 3) 0), (R 203), (Value.bool true), (Value.int (Int.ofNat 181) 0), (R 204), Value.none, (R 205), (R 206), (R 207), (Value.int (Int.ofNat 446) 0), (Value.int (Int.ofNat 53) 0), (Value.str (S "/claim/cut.py") 447)])) (List.toArray [])
abbrev o209 (P : Params) : Obj := Obj.mk (Value.type "function") none (Data.func (FuncData.mk (S "whole_text") (S "whole_text") (defArgs (T 15)) (FuncBody.stmts (defBody (T 15))) (defScope (T 15)) 3 [] Value.none Value.none Value.none (Value.str (S "budwright.figures") 425) none (R 208) Value.none 0)) (List.toArray [])
abbrev o210 (P : Params) : Obj := Obj.mk (Value.type "tuple") none (Data.seq (List.toArray []) 0) (List.toArray [])
abbrev o213 (P : Params) : Obj := Obj.mk (Value.type "code") none (Data.fields (List.toArray [(Value.str (S "row_text") 449), (Value.str (S "row_text") 450), (Value.str (S "/claim/cut.py") 451), (Value.int (Int.ofNat 60) 0), (Value.int (Int.ofNat 1) 0), (Value.int (Int.ofNat 0) 0), (Value.int (Int.ofNat 0) 0), (Value.int (Int.ofNat 3) 0), (R 210), (Value.bool true), (Value.int (Int.ofNat 181) 0), (R 211), Value.none, Value.none, Value.none, (R 212), (Value.int (Int.ofNat 452) 0), (Value.int (Int.ofNat 60) 0), (Value.str (S "/claim/cut.py") 453)])) (List.toArray [])
abbrev o214 (P : Params) : Obj := Obj.mk (Value.type "function") none (Data.func (FuncData.mk (S "row_text") (S "row_text") (defArgs (T 16)) (FuncBody.stmts (defBody (T 16))) (defScope (T 16)) 3 [] Value.none Value.none Value.none (Value.str (S "budwright.figures") 425) none (R 213) Value.none 0)) (List.toArray [])
abbrev o215 (P : Params) : Obj := Obj.mk (Value.type "tuple") none (Data.seq (List.toArray []) 0) (List.toArray [])
abbrev o218 (P : Params) : Obj := Obj.mk (Value.type "code") none (Data.fields (List.toArray [(Value.str (S "rows_text") 455), (Value.str (S "rows_text") 456), (Value.str (S "/claim/cut.py") 457), (Value.int (Int.ofNat 62) 0), (Value.int (Int.ofNat 1) 0), (Value.int (Int.ofNat 0) 0), (Value.int (Int.ofNat 0) 0), (Value.int (Int.ofNat 3) 0), (R 215), (Value.bool true), (Value.int (Int.ofNat 181) 0), (R 216), Value.none, Value.none, Value.none, (R 217), (Value.int (Int.ofNat 458) 0), (Value.int (Int.ofNat 62) 0), (Value.str (S "/claim/cut.py") 459)])) (List.toArray [])
abbrev o219 (P : Params) : Obj := Obj.mk (Value.type "function") none (Data.func (FuncData.mk (S "rows_text") (S "rows_text") (defArgs (T 17)) (FuncBody.stmts (defBody (T 17))) (defScope (T 17)) 3 [] Value.none Value.none Value.none (Value.str (S "budwright.figures") 425) none (R 218) Value.none 0)) (List.toArray [])
abbrev o220 (P : Params) : Obj := Obj.mk (Value.type "tuple") none (Data.seq (List.toArray []) 0) (List.toArray [])
abbrev o222 (P : Params) : Obj := Obj.mk (Value.type "tuple") none (Data.seq (List.toArray [(Value.str (S "one") 466), (Value.str (S "other") 467)]) 0) (List.toArray [])
abbrev o223 (P : Params) : Obj := Obj.mk (Value.type "tuple") none (Data.seq (List.toArray []) 0) (List.toArray [])
abbrev o225 (P : Params) : Obj := Obj.mk (Value.type "code") none (Data.fields (List.toArray [(Value.str (S "common") 463), (Value.str (S "common") 464), (Value.str (S "/claim/cut.py") 465), (Value.int (Int.ofNat 65) 0), (Value.int (Int.ofNat 2) 0), (Value.int (Int.ofNat 0) 0), (Value.int (Int.ofNat 0) 0), (Value.int (Int.ofNat 3) 0), (R 220), (Value.bool true), (Value.int (Int.ofNat 181) 0), (R 221), Value.none, (R 222), (R 223), (R 224), (Value.int (Int.ofNat 468) 0), (Value.int (Int.ofNat 65) 0), (Value.str (S "/claim/cut.py") 469)])) (List.toArray [])
abbrev o226 (P : Params) : Obj := Obj.mk (Value.type "function") none (Data.func (FuncData.mk (S "common") (S "common") (defArgs (T 19)) (FuncBody.stmts (defBody (T 19))) (defScope (T 19)) 3 [] Value.none Value.none Value.none (Value.str (S "budwright.parts") 461) none (R 225) Value.none 0)) (List.toArray [])
abbrev o227 (P : Params) : Obj := Obj.mk (Value.type "tuple") none (Data.seq (List.toArray []) 0) (List.toArray [])
abbrev o230 (P : Params) : Obj := Obj.mk (Value.type "code") none (Data.fields (List.toArray [(Value.str (S "added_powers") 473), (Value.str (S "added_powers") 474), (Value.str (S "/claim/cut.py") 475), (Value.int (Int.ofNat 72) 0), (Value.int (Int.ofNat 2) 0), (Value.int (Int.ofNat 0) 0), (Value.int (Int.ofNat 0) 0), (Value.int (Int.ofNat 3) 0), (R 227), (Value.bool true), (Value.int (Int.ofNat 181) 0), (R 228), Value.none, Value.none, Value.none, (R 229), (Value.int (Int.ofNat 476) 0), (Value.int (Int.ofNat 72) 0), (Value.str (S "/claim/cut.py") 477)])) (List.toArray [])
abbrev o231 (P : Params) : Obj := Obj.mk (Value.type "function") none (Data.func (FuncData.mk (S "added_powers") (S "added_powers") (defArgs (T 21)) (FuncBody.stmts (defBody (T 21))) (defScope (T 21)) 3 [] Value.none Value.none Value.none (Value.str (S "budwright.products") 471) none (R 230) Value.none 0)) (List.toArray [])
abbrev o232 (P : Params) : Obj := Obj.mk (Value.type "tuple") none (Data.seq (List.toArray []) 0) (List.toArray [])
abbrev o235 (P : Params) : Obj := Obj.mk (Value.type "code") none (Data.fields (List.toArray [(Value.str (S "lessened_powers") 479), (Value.str (S "lessened_powers") 480), (Value.str (S "/claim/cut.py") 481), (Value.int (Int.ofNat 74) 0), (Value.int (Int.ofNat 2) 0), (Value.int (Int.ofNat 0) 0), (Value.int (Int.ofNat 0) 0), (Value.int (Int.ofNat 3) 0), (R 232), (Value.bool true), (Value.int (Int.ofNat 181) 0), (R 233), Value.none, Value.none, Value.none, (R 234), (Value.int (Int.ofNat 482) 0), (Value.int (Int.ofNat 74) 0), (Value.str (S "/claim/cut.py") 483)])) (List.toArray [])
abbrev o236 (P : Params) : Obj := Obj.mk (Value.type "function") none (Data.func (FuncData.mk (S "lessened_powers") (S "lessened_powers") (defArgs (T 22)) (FuncBody.stmts (defBody (T 22))) (defScope (T 22)) 3 [] Value.none Value.none Value.none (Value.str (S "budwright.products") 471) none (R 235) Value.none 0)) (List.toArray [])
abbrev o237 (P : Params) : Obj := Obj.mk (Value.type "tuple") none (Data.seq (List.toArray []) 0) (List.toArray [])
abbrev o240 (P : Params) : Obj := Obj.mk (Value.type "code") none (Data.fields (List.toArray [(Value.str (S "gathered") 485), (Value.str (S "gathered") 486), (Value.str (S "/claim/cut.py") 487), (Value.int (Int.ofNat 76) 0), (Value.int (Int.ofNat 1) 0), (Value.int (Int.ofNat 0) 0), (Value.int (Int.ofNat 0) 0), (Value.int (Int.ofNat 3) 0), (R 237), (Value.bool true), (Value.int (Int.ofNat 181) 0), (R 238), Value.none, Value.none, Value.none, (R 239), (Value.int (Int.ofNat 488) 0), (Value.int (Int.ofNat 76) 0), (Value.str (S "/claim/cut.py") 489)])) (List.toArray [])
abbrev o241 (P : Params) : Obj := Obj.mk (Value.type "function") none (Data.func (FuncData.mk (S "gathered") (S "gathered") (defArgs (T 23)) (FuncBody.stmts (defBody (T 23))) (defScope (T 23)) 3 [] Value.none Value.none Value.none (Value.str (S "budwright.products") 471) none (R 240) Value.none 0)) (List.toArray [])
abbrev o242 (P : Params) : Obj := Obj.mk (Value.type "tuple") none (Data.seq (List.toArray []) 0) (List.toArray [])
abbrev o245 (P : Params) : Obj := Obj.mk (Value.type "code") none (Data.fields (List.toArray [(Value.str (S "lowest_powers") 491), (Value.str (S "lowest_powers") 492), (Value.str (S "/claim/cut.py") 493), (Value.int (Int.ofNat 82) 0), (Value.int (Int.ofNat 1) 0), (Value.int (Int.ofNat 0) 0), (Value.int (Int.ofNat 0) 0), (Value.int (Int.ofNat 3) 0), (R 242), (Value.bool true), (Value.int (Int.ofNat 181) 0), (R 243), Value.none, Value.none, Value.none, (R 244), (Value.int (Int.ofNat 494) 0), (Value.int (Int.ofNat 82) 0), (Value.str (S "/claim/cut.py") 495)])) (List.toArray [])
abbrev o246 (P : Params) : Obj := Obj.mk (Value.type "function") none (Data.func (FuncData.mk (S "lowest_powers") (S "lowest_powers") (defArgs (T 24)) (FuncBody.stmts (defBody (T 24))) (defScope (T 24)) 3 [] Value.none Value.none Value.none (Value.str (S "budwright.products") 471) none (R 245) Value.none 0)) (List.toArray [])
abbrev o247 (P : Params) : Obj := Obj.mk (Value.type "tuple") none (Data.seq (List.toArray []) 0) (List.toArray [])
abbrev o250 (P : Params) : Obj := Obj.mk (Value.type "code") none (Data.fields (List.toArray [(Value.str (S "highest_powers") 497), (Value.str (S "highest_powers") 498), (Value.str (S "/claim/cut.py") 499), (Value.int (Int.ofNat 85) 0), (Value.int (Int.ofNat 1) 0), (Value.int (Int.ofNat 0) 0), (Value.int (Int.ofNat 0) 0), (Value.int (Int.ofNat 3) 0), (R 247), (Value.bool true), (Value.int (Int.ofNat 181) 0), (R 248), Value.none, Value.none, Value.none, (R 249), (Value.int (Int.ofNat 500) 0), (Value.int (Int.ofNat 85) 0), (Value.str (S "/claim/cut.py") 501)])) (List.toArray [])
abbrev o251 (P : Params) : Obj := Obj.mk (Value.type "function") none (Data.func (FuncData.mk (S "highest_powers") (S "highest_powers") (defArgs (T 25)) (FuncBody.stmts (defBody (T 25))) (defScope (T 25)) 3 [] Value.none Value.none Value.none (Value.str (S "budwright.products") 471) none (R 250) Value.none 0)) (List.toArray [])
abbrev o252 (P : Params) : Obj := Obj.mk (Value.type "tuple") none (Data.seq (List.toArray []) 0) (List.toArray [])
abbrev o255 (P : Params) : Obj := Obj.mk (Value.type "code") none (Data.fields (List.toArray [(Value.str (S "multiplied") 503), (Value.str (S "multiplied") 504), (Value.str (S "/claim/cut.py") 505), (Value.int (Int.ofNat 88) 0), (Value.int (Int.ofNat 2) 0), (Value.int (Int.ofNat 0) 0), (Value.int (Int.ofNat 0) 0), (Value.int (Int.ofNat 3) 0), (R 252), (Value.bool true), (Value.int (Int.ofNat 181) 0), (R 253), Value.none, Value.none, Value.none, (R 254), (Value.int (Int.ofNat 506) 0), (Value.int (Int.ofNat 88) 0), (Value.str (S "/claim/cut.py") 507)])) (List.toArray [])
abbrev o256 (P : Params) : Obj := Obj.mk (Value.type "function") none (Data.func (FuncData.mk (S "multiplied") (S "multiplied") (defArgs (T 26)) (FuncBody.stmts (defBody (T 26))) (defScope (T 26)) 3 [] Value.none Value.none Value.none (Value.str (S "budwright.products") 471) none (R 255) Value.none 0)) (List.toArray [])
abbrev o257 (P : Params) : Obj := Obj.mk (Value.type "tuple") none (Data.seq (List.toArray []) 0) (List.toArray [])
abbrev o259 (P : Params) : Obj := Obj.mk (Value.type "tuple") none (Data.seq (List.toArray [(Value.str (S "one") 512), (Value.str (S "other") 513), (Value.str (S "most") 514), (Value.str (S "counts") 515), (Value.str (S "powers") 516), (Value.str (S "count") 517), (Value.str (S "more") 518), (Value.str (S "many") 519), (Value.str (S "key") 520)]) 0) (List.toArray [])
abbrev o260 (P : Params) : Obj := Obj.mk (Value.type "tuple") none (Data.seq (List.toArray []) 0) (List.toArray [])
abbrev o262 (P : Params) : Obj := Obj.mk (Value.type "code") none (Data.fields (List.toArray [(Value.str (S "multiplied_within") 509), (Value.str (S "multiplied_within") 510), (Value.str (S "/claim/cut.py") 511), (Value.int (Int.ofNat 90) 0), (Value.int (Int.ofNat 3) 0), (Value.int (Int.ofNat 0) 0), (Value.int (Int.ofNat 0) 0), (Value.int (Int.ofNat 3) 0), (R 257), (Value.bool true), (Value.int (Int.ofNat 181) 0), (R 258), Value.none, (R 259), (R 260), (R 261), (Value.int (Int.ofNat 521) 0), (Value.int (Int.ofNat 90) 0), (Value.str (S "/claim/cut.py") 522)])) (List.toArray [])
abbrev o263 (P : Params) : Obj := Obj.mk (Value.type "function") none (Data.func (FuncData.mk (S "multiplied_within") (S "multiplied_within") (defArgs (T 27)) (FuncBody.stmts (defBody (T 27))) (defScope (T 27)) 3 [] Value.none Value.none Value.none (Value.str (S "budwright.products") 471) none (R 262) Value.none 0)) (List.toArray [])
abbrev o264 (P : Params) : Obj := Obj.mk (Value.type "tuple") none (Data.seq (List.toArray []) 0) (List.toArray [])
abbrev o266 (P : Params) : Obj := Obj.mk (Value.type "tuple") none (Data.seq (List.toArray [(Value.str (S "left") 527), (Value.str (S "products") 528), (Value.str (S "powers") 529), (Value.str (S "count") 530), (Value.str (S "more") 531), (Value.str (S "many") 532), (Value.str (S "key") 533), (Value.str (S "rest") 534)]) 0) (List.toArray [])
abbrev o267 (P : Params) : Obj := Obj.mk (Value.type "tuple") none (Data.seq (List.toArray []) 0) (List.toArray [])
abbrev o269 (P : Params) : Obj := Obj.mk (Value.type "code") none (Data.fields (List.toArray [(Value.str (S "taken_off") 524), (Value.str (S "taken_off") 525), (Value.str (S "/claim/cut.py") 526), (Value.int (Int.ofNat 99) 0), (Value.int (Int.ofNat 4) 0), (Value.int (Int.ofNat 0) 0), (Value.int (Int.ofNat 0) 0), (Value.int (Int.ofNat 3) 0), (R 264), (Value.bool true), (Value.int (Int.ofNat 181) 0), (R 265), Value.none, (R 266), (R 267), (R 268), (Value.int (Int.ofNat 535) 0), (Value.int (Int.ofNat 99) 0), (Value.str (S "/claim/cut.py") 536)])) (List.toArray [])
abbrev o270 (P : Params) : Obj := Obj.mk (Value.type "function") none (Data.func (FuncData.mk (S "taken_off") (S "taken_off") (defArgs (T 28)) (FuncBody.stmts (defBody (T 28))) (defScope (T 28)) 3 [] Value.none Value.none Value.none (Value.str (S "budwright.products") 471) none (R 269) Value.none 0)) (List.toArray [])
abbrev o271 (P : Params) : Obj := Obj.mk (Value.type "tuple") none (Data.seq (List.toArray []) 0) (List.toArray [])
abbrev o274 (P : Params) : Obj := Obj.mk (Value.type "code") none (Data.fields (List.toArray [(Value.str (S "quotient") 538), (Value.str (S "quotient") 539), (Value.str (S "/claim/cut.py") 540), (Value.int (Int.ofNat 107) 0), (Value.int (Int.ofNat 3) 0), (Value.int (Int.ofNat 0) 0), (Value.int (Int.ofNat 0) 0), (Value.int (Int.ofNat 3) 0), (R 271), (Value.bool true), (Value.int (Int.ofNat 181) 0), (R 272), Value.none, Value.none, Value.none, (R 273), (Value.int (Int.ofNat 541) 0), (Value.int (Int.ofNat 107) 0), (Value.str (S "/claim/cut.py") 542)])) (List.toArray [])
abbrev o275 (P : Params) : Obj := Obj.mk (Value.type "function") none (Data.func (FuncData.mk (S "quotient") (S "quotient") (defArgs (T 29)) (FuncBody.stmts (defBody (T 29))) (defScope (T 29)) 3 [] Value.none Value.none Value.none (Value.str (S "budwright.products") 471) none (R 274) Value.none 0)) (List.toArray [])
abbrev o276 (P : Params) : Obj := Obj.mk (Value.type "tuple") none (Data.seq (List.toArray []) 0) (List.toArray [])
abbrev o279 (P : Params) : Obj := Obj.mk (Value.type "code") none (Data.fields (List.toArray [(Value.str (S "weighed") 544), (Value.str (S "weighed") 545), (Value.str (S "/claim/cut.py") 546), (Value.int (Int.ofNat 123) 0), (Value.int (Int.ofNat 2) 0), (Value.int (Int.ofNat 0) 0), (Value.int (Int.ofNat 0) 0), (Value.int (Int.ofNat 3) 0), (R 276), (Value.bool true), (Value.int (Int.ofNat 181) 0), (R 277), Value.none, Value.none, Value.none, (R 278), (Value.int (Int.ofNat 547) 0), (Value.int (Int.ofNat 123) 0), (Value.str (S "/claim/cut.py") 548)])) (List.toArray [])
abbrev o280 (P : Params) : Obj := Obj.mk (Value.type "function") none (Data.func (FuncData.mk (S "weighed") (S "weighed") (defArgs (T 30)) (FuncBody.stmts (defBody (T 30))) (defScope (T 30)) 3 [] Value.none Value.none Value.none (Value.str (S "budwright.products") 471) none (R 279) Value.none 0)) (List.toArray [])
abbrev o281 (P : Params) : Obj := Obj.mk (Value.type "tuple") none (Data.seq (List.toArray []) 0) (List.toArray [])
abbrev o284 (P : Params) : Obj := Obj.mk (Value.type "code") none (Data.fields (List.toArray [(Value.str (S "is_row") 558), (Value.str (S "is_row") 559), (Value.str (S "/claim/cut.py") 560), (Value.int (Int.ofNat 129) 0), (Value.int (Int.ofNat 2) 0), (Value.int (Int.ofNat 0) 0), (Value.int (Int.ofNat 0) 0), (Value.int (Int.ofNat 3) 0), (R 281), (Value.bool true), (Value.int (Int.ofNat 181) 0), (R 282), Value.none, Value.none, Value.none, (R 283), (Value.int (Int.ofNat 561) 0), (Value.int (Int.ofNat 129) 0), (Value.str (S "/claim/cut.py") 562)])) (List.toArray [])
abbrev o285 (P : Params) : Obj := Obj.mk (Value.type "function") none (Data.func (FuncData.mk (S "is_row") (S "is_row") (defArgs (T 35)) (FuncBody.stmts (defBody (T 35))) (defScope (T 35)) 3 [] Value.none Value.none Value.none (Value.str (S "budwright.tables") 550) none (R 284) Value.none 0)) (List.toArray [])
abbrev o286 (P : Params) : Obj := Obj.mk (Value.type "tuple") none (Data.seq (List.toArray []) 0) (List.toArray [])
abbrev o289 (P : Params) : Obj := Obj.mk (Value.type "code") none (Data.fields (List.toArray [(Value.str (S "check_form") 564), (Value.str (S "check_form") 565), (Value.str (S "/claim/cut.py") 566), (Value.int (Int.ofNat 133) 0), (Value.int (Int.ofNat 1) 0), (Value.int (Int.ofNat 0) 0), (Value.int (Int.ofNat 0) 0), (Value.int (Int.ofNat 3) 0), (R 286), (Value.bool true), (Value.int (Int.ofNat 181) 0), (R 287), Value.none, Value.none, Value.none, (R 288), (Value.int (Int.ofNat 567) 0), (Value.int (Int.ofNat 133) 0), (Value.str (S "/claim/cut.py") 568)])) (List.toArray [])
abbrev o290 (P : Params) : Obj := Obj.mk (Value.type "function") none (Data.func (FuncData.mk (S "check_form") (S "check_form") (defArgs (T 36)) (FuncBody.stmts (defBody (T 36))) (defScope (T 36)) 3 [] Value.none Value.none Value.none (Value.str (S "budwright.tables") 550) none (R 289) Value.none 0)) (List.toArray [])
abbrev o291 (P : Params) : Obj := Obj.mk (Value.type "tuple") none (Data.seq (List.toArray []) 0) (List.toArray [])
abbrev o293 (P : Params) : Obj := Obj.mk (Value.type "tuple") none (Data.seq (List.toArray [(Value.str (S "table") 573), (Value.str (S "ring") 574)]) 0) (List.toArray [])
abbrev o294 (P : Params) : Obj := Obj.mk (Value.type "tuple") none (Data.seq (List.toArray []) 0) (List.toArray [])
abbrev o296 (P : Params) : Obj := Obj.mk (Value.type "code") none (Data.fields (List.toArray [(Value.str (S "check_table") 570), (Value.str (S "check_table") 571), (Value.str (S "/claim/cut.py") 572), (Value.int (Int.ofNat 141) 0), (Value.int (Int.ofNat 1) 0), (Value.int (Int.ofNat 0) 0), (Value.int (Int.ofNat 0) 0), (Value.int (Int.ofNat 3) 0), (R 291), (Value.bool true), (Value.int (Int.ofNat 181) 0), (R 292), Value.none, (R 293), (R 294), (R 295), (Value.int (Int.ofNat 575) 0), (Value.int (Int.ofNat 141) 0), (Value.str (S "/claim/cut.py") 576)])) (List.toArray [])
abbrev o297 (P : Params) : Obj := Obj.mk (Value.type "function") none (Data.func (FuncData.mk (S "check_table") (S "check_table") (defArgs (T 37)) (FuncBody.stmts (defBody (T 37))) (defScope (T 37)) 3 [] Value.none Value.none Value.none (Value.str (S "budwright.tables") 550) none (R 296) Value.none 0)) (List.toArray [])
abbrev o298 (P : Params) : Obj := Obj.mk (Value.type "tuple") none (Data.seq (List.toArray []) 0) (List.toArray [])
abbrev o300 (P : Params) : Obj := Obj.mk (Value.type "tuple") none (Data.seq (List.toArray [(Value.str (S "table") 581), (Value.str (S "place") 582)]) 0) (List.toArray [])
abbrev o301 (P : Params) : Obj := Obj.mk (Value.type "tuple") none (Data.seq (List.toArray []) 0) (List.toArray [])
abbrev o303 (P : Params) : Obj := Obj.mk (Value.type "code") none (Data.fields (List.toArray [(Value.str (S "check_bud") 578), (Value.str (S "check_bud") 579), (Value.str (S "/claim/cut.py") 580), (Value.int (Int.ofNat 145) 0), (Value.int (Int.ofNat 2) 0), (Value.int (Int.ofNat 0) 0), (Value.int (Int.ofNat 0) 0), (Value.int (Int.ofNat 3) 0), (R 298), (Value.bool true), (Value.int (Int.ofNat 181) 0), (R 299), Value.none, (R 300), (R 301), (R 302), (Value.int (Int.ofNat 583) 0), (Value.int (Int.ofNat 145) 0), (Value.str (S "/claim/cut.py") 584)])) (List.toArray [])
abbrev o304 (P : Params) : Obj := Obj.mk (Value.type "function") none (Data.func (FuncData.mk (S "check_bud") (S "check_bud") (defArgs (T 38)) (FuncBody.stmts (defBody (T 38))) (defScope (T 38)) 3 [] Value.none Value.none Value.none (Value.str (S "budwright.tables") 550) none (R 303) Value.none 0)) (List.toArray [])
abbrev o305 (P : Params) : Obj := Obj.mk (Value.type "tuple") none (Data.seq (List.toArray []) 0) (List.toArray [])
abbrev o307 (P : Params) : Obj := Obj.mk (Value.type "tuple") none (Data.seq (List.toArray [(Value.str (S "table") 589)]) 0) (List.toArray [])
abbrev o308 (P : Params) : Obj := Obj.mk (Value.type "tuple") none (Data.seq (List.toArray []) 0) (List.toArray [])
abbrev o310 (P : Params) : Obj := Obj.mk (Value.type "code") none (Data.fields (List.toArray [(Value.str (S "bud_count") 586), (Value.str (S "bud_count") 587), (Value.str (S "/claim/cut.py") 588), (Value.int (Int.ofNat 148) 0), (Value.int (Int.ofNat 1) 0), (Value.int (Int.ofNat 0) 0), (Value.int (Int.ofNat 0) 0), (Value.int (Int.ofNat 3) 0), (R 305), (Value.bool true), (Value.int (Int.ofNat 181) 0), (R 306), Value.none, (R 307), (R 308), (R 309), (Value.int (Int.ofNat 590) 0), (Value.int (Int.ofNat 148) 0), (Value.str (S "/claim/cut.py") 591)])) (List.toArray [])
abbrev o311 (P : Params) : Obj := Obj.mk (Value.type "function") none (Data.func (FuncData.mk (S "bud_count") (S "bud_count") (defArgs (T 39)) (FuncBody.stmts (defBody (T 39))) (defScope (T 39)) 3 [] Value.none Value.none Value.none (Value.str (S "budwright.tables") 550) none (R 310) Value.none 0)) (List.toArray [])
abbrev o312 (P : Params) : Obj := Obj.mk (Value.type "tuple") none (Data.seq (List.toArray []) 0) (List.toArray [])
abbrev o315 (P : Params) : Obj := Obj.mk (Value.type "code") none (Data.fields (List.toArray [(Value.str (S "unlike_rows") 593), (Value.str (S "unlike_rows") 594), (Value.str (S "/claim/cut.py") 595), (Value.int (Int.ofNat 150) 0), (Value.int (Int.ofNat 2) 0), (Value.int (Int.ofNat 0) 0), (Value.int (Int.ofNat 0) 0), (Value.int (Int.ofNat 3) 0), (R 312), (Value.bool true), (Value.int (Int.ofNat 181) 0), (R 313), Value.none, Value.none, Value.none, (R 314), (Value.int (Int.ofNat 596) 0), (Value.int (Int.ofNat 150) 0), (Value.str (S "/claim/cut.py") 597)])) (List.toArray [])
abbrev o316 (P : Params) : Obj := Obj.mk (Value.type "function") none (Data.func (FuncData.mk (S "unlike_rows") (S "unlike_rows") (defArgs (T 40)) (FuncBody.stmts (defBody (T 40))) (defScope (T 40)) 3 [] Value.none Value.none Value.none (Value.str (S "budwright.tables") 550) none (R 315) Value.none 0)) (List.toArray [])
abbrev o317 (P : Params) : Obj := Obj.mk (Value.type "tuple") none (Data.seq (List.toArray []) 0) (List.toArray [])
abbrev o319 (P : Params) : Obj := Obj.mk (Value.type "tuple") none (Data.seq (List.toArray [(Value.str (S "table") 602), (Value.str (S "i") 603), (Value.str (S "j") 604), (Value.str (S "one") 605), (Value.str (S "other") 606)]) 0) (List.toArray [])
abbrev o320 (P : Params) : Obj := Obj.mk (Value.type "tuple") none (Data.seq (List.toArray []) 0) (List.toArray [])
abbrev o322 (P : Params) : Obj := Obj.mk (Value.type "code") none (Data.fields (List.toArray [(Value.str (S "pair_bars") 599), (Value.str (S "pair_bars") 600), (Value.str (S "/claim/cut.py") 601), (Value.int (Int.ofNat 155) 0), (Value.int (Int.ofNat 3) 0), (Value.int (Int.ofNat 0) 0), (Value.int (Int.ofNat 0) 0), (Value.int (Int.ofNat 3) 0), (R 317), (Value.bool true), (Value.int (Int.ofNat 181) 0), (R 318), Value.none, (R 319), (R 320), (R 321), (Value.int (Int.ofNat 607) 0), (Value.int (Int.ofNat 155) 0), (Value.str (S "/claim/cut.py") 608)])) (List.toArray [])
abbrev o323 (P : Params) : Obj := Obj.mk (Value.type "function") none (Data.func (FuncData.mk (S "pair_bars") (S "pair_bars") (defArgs (T 41)) (FuncBody.stmts (defBody (T 41))) (defScope (T 41)) 3 [] Value.none Value.none Value.none (Value.str (S "budwright.tables") 550) none (R 322) Value.none 0)) (List.toArray [])
abbrev o324 (P : Params) : Obj := Obj.mk (Value.type "tuple") none (Data.seq (List.toArray []) 0) (List.toArray [])
abbrev o326 (P : Params) : Obj := Obj.mk (Value.type "tuple") none (Data.seq (List.toArray [(Value.str (S "table") 613), (Value.str (S "ring") 614), (Value.str (S "onward") 615), (Value.str (S "back") 616), (Value.str (S "i") 617), (Value.str (S "j") 618)]) 0) (List.toArray [])
abbrev o327 (P : Params) : Obj := Obj.mk (Value.type "tuple") none (Data.seq (List.toArray []) 0) (List.toArray [])
abbrev o329 (P : Params) : Obj := Obj.mk (Value.type "code") none (Data.fields (List.toArray [(Value.str (S "ring_bars") 610), (Value.str (S "ring_bars") 611), (Value.str (S "/claim/cut.py") 612), (Value.int (Int.ofNat 159) 0), (Value.int (Int.ofNat 2) 0), (Value.int (Int.ofNat 0) 0), (Value.int (Int.ofNat 0) 0), (Value.int (Int.ofNat 3) 0), (R 324), (Value.bool true), (Value.int (Int.ofNat 181) 0), (R 325), Value.none, (R 326), (R 327), (R 328), (Value.int (Int.ofNat 619) 0), (Value.int (Int.ofNat 159) 0), (Value.str (S "/claim/cut.py") 620)])) (List.toArray [])
abbrev o330 (P : Params) : Obj := Obj.mk (Value.type "function") none (Data.func (FuncData.mk (S "ring_bars") (S "ring_bars") (defArgs (T 42)) (FuncBody.stmts (defBody (T 42))) (defScope (T 42)) 3 [] Value.none Value.none Value.none (Value.str (S "budwright.tables") 550) none (R 329) Value.none 0)) (List.toArray [])
abbrev o331 (P : Params) : Obj := Obj.mk (Value.type "tuple") none (Data.seq (List.toArray []) 0) (List.toArray [])
abbrev o333 (P : Params) : Obj := Obj.mk (Value.type "tuple") none (Data.seq (List.toArray [(Value.str (S "table") 625), (Value.str (S "many") 626), (Value.str (S "i") 627), (Value.str (S "j") 628), (Value.str (S "ring") 629)]) 0) (List.toArray [])
abbrev o334 (P : Params) : Obj := Obj.mk (Value.type "tuple") none (Data.seq (List.toArray []) 0) (List.toArray [])
abbrev o336 (P : Params) : Obj := Obj.mk (Value.type "code") none (Data.fields (List.toArray [(Value.str (S "barred") 622), (Value.str (S "barred") 623), (Value.str (S "/claim/cut.py") 624), (Value.int (Int.ofNat 166) 0), (Value.int (Int.ofNat 1) 0), (Value.int (Int.ofNat 0) 0), (Value.int (Int.ofNat 0) 0), (Value.int (Int.ofNat 3) 0), (R 331), (Value.bool true), (Value.int (Int.ofNat 181) 0), (R 332), Value.none, (R 333), (R 334), (R 335), (Value.int (Int.ofNat 630) 0), (Value.int (Int.ofNat 166) 0), (Value.str (S "/claim/cut.py") 631)])) (List.toArray [])
abbrev o337 (P : Params) : Obj := Obj.mk (Value.type "function") none (Data.func (FuncData.mk (S "barred") (S "barred") (defArgs (T 43)) (FuncBody.stmts (defBody (T 43))) (defScope (T 43)) 3 [] Value.none Value.none Value.none (Value.str (S "budwright.tables") 550) none (R 336) Value.none 0)) (List.toArray [])
abbrev o338 (P : Params) : Obj := Obj.mk (Value.type "tuple") none (Data.seq (List.toArray []) 0) (List.toArray [])
abbrev o341 (P : Params) : Obj := Obj.mk (Value.type "code") none (Data.fields (List.toArray [(Value.str (S "lot_weights") 633), (Value.str (S "lot_weights") 634), (Value.str (S "/claim/cut.py") 635), (Value.int (Int.ofNat 177) 0), (Value.int (Int.ofNat 2) 0), (Value.int (Int.ofNat 0) 0), (Value.int (Int.ofNat 0) 0), (Value.int (Int.ofNat 3) 0), (R 338), (Value.bool true), (Value.int (Int.ofNat 181) 0), (R 339), Value.none, Value.none, Value.none, (R 340), (Value.int (Int.ofNat 636) 0), (Value.int (Int.ofNat 177) 0), (Value.str (S "/claim/cut.py") 637)])) (List.toArray [])
abbrev o342 (P : Params) : Obj := Obj.mk (Value.type "function") none (Data.func (FuncData.mk (S "lot_weights") (S "lot_weights") (defArgs (T 44)) (FuncBody.stmts (defBody (T 44))) (defScope (T 44)) 3 [] Value.none Value.none Value.none (Value.str (S "budwright.tables") 550) none (R 341) Value.none 0)) (List.toArray [])
abbrev o343 (P : Params) : Obj := Obj.mk (Value.type "tuple") none (Data.seq (List.toArray []) 0) (List.toArray [])
abbrev o346 (P : Params) : Obj := Obj.mk (Value.type "code") none (Data.fields (List.toArray [(Value.str (S "weights") 639), (Value.str (S "weights") 640), (Value.str (S "/claim/cut.py") 641), (Value.int (Int.ofNat 192) 0), (Value.int (Int.ofNat 1) 0), (Value.int (Int.ofNat 0) 0), (Value.int (Int.ofNat 0) 0), (Value.int (Int.ofNat 3) 0), (R 343), (Value.bool true), (Value.int (Int.ofNat 181) 0), (R 344), Value.none, Value.none, Value.none, (R 345), (Value.int (Int.ofNat 642) 0), (Value.int (Int.ofNat 192) 0), (Value.str (S "/claim/cut.py") 643)])) (List.toArray [])
abbrev o347 (P : Params) : Obj := Obj.mk (Value.type "function") none (Data.func (FuncData.mk (S "weights") (S "weights") (defArgs (T 45)) (FuncBody.stmts (defBody (T 45))) (defScope (T 45)) 3 [] Value.none Value.none Value.none (Value.str (S "budwright.tables") 550) none (R 346) Value.none 0)) (List.toArray [])
abbrev o348 (P : Params) : Obj := Obj.mk (Value.type "tuple") none (Data.seq (List.toArray []) 0) (List.toArray [])
abbrev o351 (P : Params) : Obj := Obj.mk (Value.type "code") none (Data.fields (List.toArray [(Value.str (S "turned_row") 646), (Value.str (S "turned_row") 647), (Value.str (S "/claim/cut.py") 648), (Value.int (Int.ofNat 200) 0), (Value.int (Int.ofNat 4) 0), (Value.int (Int.ofNat 0) 0), (Value.int (Int.ofNat 0) 0), (Value.int (Int.ofNat 3) 0), (R 348), (Value.bool true), (Value.int (Int.ofNat 181) 0), (R 349), Value.none, Value.none, Value.none, (R 350), (Value.int (Int.ofNat 649) 0), (Value.int (Int.ofNat 200) 0), (Value.str (S "/claim/cut.py") 650)])) (List.toArray [])
abbrev o352 (P : Params) : Obj := Obj.mk (Value.type "function") none (Data.func (FuncData.mk (S "turned_row") (S "turned_row") (defArgs (T 47)) (FuncBody.stmts (defBody (T 47))) (defScope (T 47)) 3 [] Value.none Value.none Value.none (Value.str (S "budwright.tables") 550) none (R 351) Value.none 0)) (List.toArray [])
abbrev o353 (P : Params) : Obj := Obj.mk (Value.type "tuple") none (Data.seq (List.toArray []) 0) (List.toArray [])
abbrev o356 (P : Params) : Obj := Obj.mk (Value.type "code") none (Data.fields (List.toArray [(Value.str (S "turned_table") 652), (Value.str (S "turned_table") 653), (Value.str (S "/claim/cut.py") 654), (Value.int (Int.ofNat 205) 0), (Value.int (Int.ofNat 2) 0), (Value.int (Int.ofNat 0) 0), (Value.int (Int.ofNat 0) 0), (Value.int (Int.ofNat 3) 0), (R 353), (Value.bool true), (Value.int (Int.ofNat 181) 0), (R 354), Value.none, Value.none, Value.none, (R 355), (Value.int (Int.ofNat 655) 0), (Value.int (Int.ofNat 205) 0), (Value.str (S "/claim/cut.py") 656)])) (List.toArray [])
abbrev o357 (P : Params) : Obj := Obj.mk (Value.type "function") none (Data.func (FuncData.mk (S "turned_table") (S "turned_table") (defArgs (T 48)) (FuncBody.stmts (defBody (T 48))) (defScope (T 48)) 3 [] Value.none Value.none Value.none (Value.str (S "budwright.tables") 550) none (R 356) Value.none 0)) (List.toArray [])
abbrev o358 (P : Params) : Obj := Obj.mk (Value.type "tuple") none (Data.seq (List.toArray []) 0) (List.toArray [])
abbrev o361 (P : Params) : Obj := Obj.mk (Value.type "code") none (Data.fields (List.toArray [(Value.str (S "unit_rows") 658), (Value.str (S "unit_rows") 659), (Value.str (S "/claim/cut.py") 660), (Value.int (Int.ofNat 216) 0), (Value.int (Int.ofNat 1) 0), (Value.int (Int.ofNat 0) 0), (Value.int (Int.ofNat 0) 0), (Value.int (Int.ofNat 3) 0), (R 358), (Value.bool true), (Value.int (Int.ofNat 181) 0), (R 359), Value.none, Value.none, Value.none, (R 360), (Value.int (Int.ofNat 661) 0), (Value.int (Int.ofNat 216) 0), (Value.str (S "/claim/cut.py") 662)])) (List.toArray [])
abbrev o362 (P : Params) : Obj := Obj.mk (Value.type "function") none (Data.func (FuncData.mk (S "unit_rows") (S "unit_rows") (defArgs (T 49)) (FuncBody.stmts (defBody (T 49))) (defScope (T 49)) 3 [] Value.none Value.none Value.none (Value.str (S "budwright.tables") 550) none (R 361) Value.none 0)) (List.toArray [])
abbrev o363 (P : Params) : Obj := Obj.mk (Value.type "tuple") none (Data.seq (List.toArray []) 0) (List.toArray [])
abbrev o365 (P : Params) : Obj := Obj.mk (Value.type "tuple") none (Data.seq (List.toArray [(Value.str (S "table") 669), (Value.str (S "units") 670)]) 0) (List.toArray [])
abbrev o366 (P : Params) : Obj := Obj.mk (Value.type "tuple") none (Data.seq (List.toArray []) 0) (List.toArray [])
abbrev o368 (P : Params) : Obj := Obj.mk (Value.type "code") none (Data.fields (List.toArray [(Value.str (S "first_seed") 666), (Value.str (S "first_seed") 667), (Value.str (S "/claim/cut.py") 668), (Value.int (Int.ofNat 219) 0), (Value.int (Int.ofNat 1) 0), (Value.int (Int.ofNat 0) 0), (Value.int (Int.ofNat 0) 0), (Value.int (Int.ofNat 3) 0), (R 363), (Value.bool true), (Value.int (Int.ofNat 181) 0), (R 364), Value.none, (R 365), (R 366), (R 367), (Value.int (Int.ofNat 671) 0), (Value.int (Int.ofNat 219) 0), (Value.str (S "/claim/cut.py") 672)])) (List.toArray [])
abbrev o369 (P : Params) : Obj := Obj.mk (Value.type "function") none (Data.func (FuncData.mk (S "first_seed") (S "first_seed") (defArgs (T 51)) (FuncBody.stmts (defBody (T 51))) (defScope (T 51)) 3 [] Value.none Value.none Value.none (Value.str (S "budwright.seeds") 664) none (R 368) Value.none 0)) (List.toArray [])
abbrev o370 (P : Params) : Obj := Obj.mk (Value.type "tuple") none (Data.seq (List.toArray []) 0) (List.toArray [])
abbrev o372 (P : Params) : Obj := Obj.mk (Value.type "tuple") none (Data.seq (List.toArray [(Value.str (S "hue") 677)]) 0) (List.toArray [])
abbrev o373 (P : Params) : Obj := Obj.mk (Value.type "tuple") none (Data.seq (List.toArray []) 0) (List.toArray [])
abbrev o375 (P : Params) : Obj := Obj.mk (Value.type "code") none (Data.fields (List.toArray [(Value.str (S "sign_of") 674), (Value.str (S "sign_of") 675), (Value.str (S "/claim/cut.py") 676), (Value.int (Int.ofNat 222) 0), (Value.int (Int.ofNat 1) 0), (Value.int (Int.ofNat 0) 0), (Value.int (Int.ofNat 0) 0), (Value.int (Int.ofNat 3) 0), (R 370), (Value.bool true), (Value.int (Int.ofNat 181) 0), (R 371), Value.none, (R 372), (R 373), (R 374), (Value.int (Int.ofNat 678) 0), (Value.int (Int.ofNat 222) 0), (Value.str (S "/claim/cut.py") 679)])) (List.toArray [])
abbrev o376 (P : Params) : Obj := Obj.mk (Value.type "function") none (Data.func (FuncData.mk (S "sign_of") (S "sign_of") (defArgs (T 52)) (FuncBody.stmts (defBody (T 52))) (defScope (T 52)) 3 [] Value.none Value.none Value.none (Value.str (S "budwright.seeds") 664) none (R 375) Value.none 0)) (List.toArray [])
abbrev o377 (P : Params) : Obj := Obj.mk (Value.type "tuple") none (Data.seq (List.toArray []) 0) (List.toArray [])
abbrev o380 (P : Params) : Obj := Obj.mk (Value.type "code") none (Data.fields (List.toArray [(Value.str (S "minus") 681), (Value.str (S "minus") 682), (Value.str (S "/claim/cut.py") 683), (Value.int (Int.ofNat 224) 0), (Value.int (Int.ofNat 1) 0), (Value.int (Int.ofNat 0) 0), (Value.int (Int.ofNat 0) 0), (Value.int (Int.ofNat 3) 0), (R 377), (Value.bool true), (Value.int (Int.ofNat 181) 0), (R 378), Value.none, Value.none, Value.none, (R 379), (Value.int (Int.ofNat 684) 0), (Value.int (Int.ofNat 224) 0), (Value.str (S "/claim/cut.py") 685)])) (List.toArray [])
abbrev o381 (P : Params) : Obj := Obj.mk (Value.type "function") none (Data.func (FuncData.mk (S "minus") (S "minus") (defArgs (T 53)) (FuncBody.stmts (defBody (T 53))) (defScope (T 53)) 3 [] Value.none Value.none Value.none (Value.str (S "budwright.seeds") 664) none (R 380) Value.none 0)) (List.toArray [])
abbrev o382 (P : Params) : Obj := Obj.mk (Value.type "tuple") none (Data.seq (List.toArray []) 0) (List.toArray [])
abbrev o385 (P : Params) : Obj := Obj.mk (Value.type "code") none (Data.fields (List.toArray [(Value.str (S "added_often") 687), (Value.str (S "added_often") 688), (Value.str (S "/claim/cut.py") 689), (Value.int (Int.ofNat 226) 0), (Value.int (Int.ofNat 3) 0), (Value.int (Int.ofNat 0) 0), (Value.int (Int.ofNat 0) 0), (Value.int (Int.ofNat 3) 0), (R 382), (Value.bool true), (Value.int (Int.ofNat 181) 0), (R 383), Value.none, Value.none, Value.none, (R 384), (Value.int (Int.ofNat 690) 0), (Value.int (Int.ofNat 226) 0), (Value.str (S "/claim/cut.py") 691)])) (List.toArray [])
abbrev o386 (P : Params) : Obj := Obj.mk (Value.type "function") none (Data.func (FuncData.mk (S "added_often") (S "added_often") (defArgs (T 54)) (FuncBody.stmts (defBody (T 54))) (defScope (T 54)) 3 [] Value.none Value.none Value.none (Value.str (S "budwright.seeds") 664) none (R 385) Value.none 0)) (List.toArray [])
abbrev o387 (P : Params) : Obj := Obj.mk (Value.type "tuple") none (Data.seq (List.toArray []) 0) (List.toArray [])
abbrev o390 (P : Params) : Obj := Obj.mk (Value.type "code") none (Data.fields (List.toArray [(Value.str (S "turned_hues") 693), (Value.str (S "turned_hues") 694), (Value.str (S "/claim/cut.py") 695), (Value.int (Int.ofNat 230) 0), (Value.int (Int.ofNat 3) 0), (Value.int (Int.ofNat 0) 0), (Value.int (Int.ofNat 0) 0), (Value.int (Int.ofNat 3) 0), (R 387), (Value.bool true), (Value.int (Int.ofNat 181) 0), (R 388), Value.none, Value.none, Value.none, (R 389), (Value.int (Int.ofNat 696) 0), (Value.int (Int.ofNat 230) 0), (Value.str (S "/claim/cut.py") 697)])) (List.toArray [])
abbrev o391 (P : Params) : Obj := Obj.mk (Value.type "function") none (Data.func (FuncData.mk (S "turned_hues") (S "turned_hues") (defArgs (T 55)) (FuncBody.stmts (defBody (T 55))) (defScope (T 55)) 3 [] Value.none Value.none Value.none (Value.str (S "budwright.seeds") 664) none (R 390) Value.none 0)) (List.toArray [])
abbrev o392 (P : Params) : Obj := Obj.mk (Value.type "tuple") none (Data.seq (List.toArray []) 0) (List.toArray [])
abbrev o394 (P : Params) : Obj := Obj.mk (Value.type "tuple") none (Data.seq (List.toArray [(Value.str (S "ties") 702), (Value.str (S "hues") 703), (Value.str (S "leans") 704), (Value.str (S "place") 705), (Value.str (S "sign") 706), (Value.str (S "fresh") 707), (Value.str (S "lean") 708), (Value.str (S "row") 709)]) 0) (List.toArray [])
abbrev o395 (P : Params) : Obj := Obj.mk (Value.type "tuple") none (Data.seq (List.toArray []) 0) (List.toArray [])
abbrev o397 (P : Params) : Obj := Obj.mk (Value.type "code") none (Data.fields (List.toArray [(Value.str (S "fresh_lean") 699), (Value.str (S "fresh_lean") 700), (Value.str (S "/claim/cut.py") 701), (Value.int (Int.ofNat 236) 0), (Value.int (Int.ofNat 4) 0), (Value.int (Int.ofNat 0) 0), (Value.int (Int.ofNat 0) 0), (Value.int (Int.ofNat 3) 0), (R 392), (Value.bool true), (Value.int (Int.ofNat 181) 0), (R 393), Value.none, (R 394), (R 395), (R 396), (Value.int (Int.ofNat 710) 0), (Value.int (Int.ofNat 236) 0), (Value.str (S "/claim/cut.py") 711)])) (List.toArray [])
abbrev o398 (P : Params) : Obj := Obj.mk (Value.type "function") none (Data.func (FuncData.mk (S "fresh_lean") (S "fresh_lean") (defArgs (T 56)) (FuncBody.stmts (defBody (T 56))) (defScope (T 56)) 3 [] Value.none Value.none Value.none (Value.str (S "budwright.seeds") 664) none (R 397) Value.none 0)) (List.toArray [])
abbrev o399 (P : Params) : Obj := Obj.mk (Value.type "tuple") none (Data.seq (List.toArray []) 0) (List.toArray [])
abbrev o401 (P : Params) : Obj := Obj.mk (Value.type "tuple") none (Data.seq (List.toArray [(Value.str (S "ties") 716), (Value.str (S "hues") 717), (Value.str (S "leans") 718), (Value.str (S "place") 719)]) 0) (List.toArray [])
abbrev o402 (P : Params) : Obj := Obj.mk (Value.type "tuple") none (Data.seq (List.toArray []) 0) (List.toArray [])
abbrev o404 (P : Params) : Obj := Obj.mk (Value.type "code") none (Data.fields (List.toArray [(Value.str (S "turned_leans") 713), (Value.str (S "turned_leans") 714), (Value.str (S "/claim/cut.py") 715), (Value.int (Int.ofNat 242) 0), (Value.int (Int.ofNat 4) 0), (Value.int (Int.ofNat 0) 0), (Value.int (Int.ofNat 0) 0), (Value.int (Int.ofNat 3) 0), (R 399), (Value.bool true), (Value.int (Int.ofNat 181) 0), (R 400), Value.none, (R 401), (R 402), (R 403), (Value.int (Int.ofNat 720) 0), (Value.int (Int.ofNat 242) 0), (Value.str (S "/claim/cut.py") 721)])) (List.toArray [])
abbrev o405 (P : Params) : Obj := Obj.mk (Value.type "function") none (Data.func (FuncData.mk (S "turned_leans") (S "turned_leans") (defArgs (T 57)) (FuncBody.stmts (defBody (T 57))) (defScope (T 57)) 3 [] Value.none Value.none Value.none (Value.str (S "budwright.seeds") 664) none (R 404) Value.none 0)) (List.toArray [])
abbrev o406 (P : Params) : Obj := Obj.mk (Value.type "tuple") none (Data.seq (List.toArray []) 0) (List.toArray [])
abbrev o408 (P : Params) : Obj := Obj.mk (Value.type "tuple") none (Data.seq (List.toArray [(Value.str (S "seed") 726), (Value.str (S "place") 727), (Value.str (S "ties") 728), (Value.str (S "hues") 729), (Value.str (S "leans") 730)]) 0) (List.toArray [])
abbrev o409 (P : Params) : Obj := Obj.mk (Value.type "tuple") none (Data.seq (List.toArray []) 0) (List.toArray [])
abbrev o411 (P : Params) : Obj := Obj.mk (Value.type "code") none (Data.fields (List.toArray [(Value.str (S "turned_seed") 723), (Value.str (S "turned_seed") 724), (Value.str (S "/claim/cut.py") 725), (Value.int (Int.ofNat 244) 0), (Value.int (Int.ofNat 2) 0), (Value.int (Int.ofNat 0) 0), (Value.int (Int.ofNat 0) 0), (Value.int (Int.ofNat 3) 0), (R 406), (Value.bool true), (Value.int (Int.ofNat 181) 0), (R 407), Value.none, (R 408), (R 409), (R 410), (Value.int (Int.ofNat 731) 0), (Value.int (Int.ofNat 244) 0), (Value.str (S "/claim/cut.py") 732)])) (List.toArray [])
abbrev o412 (P : Params) : Obj := Obj.mk (Value.type "function") none (Data.func (FuncData.mk (S "turned_seed") (S "turned_seed") (defArgs (T 58)) (FuncBody.stmts (defBody (T 58))) (defScope (T 58)) 3 [] Value.none Value.none Value.none (Value.str (S "budwright.seeds") 664) none (R 411) Value.none 0)) (List.toArray [])
abbrev o413 (P : Params) : Obj := Obj.mk (Value.type "tuple") none (Data.seq (List.toArray []) 0) (List.toArray [])
abbrev o415 (P : Params) : Obj := Obj.mk (Value.type "tuple") none (Data.seq (List.toArray [(Value.str (S "powers") 741), (Value.str (S "pieces") 742), (Value.str (S "letter") 743), (Value.str (S "power") 744)]) 0) (List.toArray [])
abbrev o416 (P : Params) : Obj := Obj.mk (Value.type "tuple") none (Data.seq (List.toArray []) 0) (List.toArray [])
abbrev o418 (P : Params) : Obj := Obj.mk (Value.type "code") none (Data.fields (List.toArray [(Value.str (S "letters_text") 738), (Value.str (S "letters_text") 739), (Value.str (S "/claim/cut.py") 740), (Value.int (Int.ofNat 249) 0), (Value.int (Int.ofNat 1) 0), (Value.int (Int.ofNat 0) 0), (Value.int (Int.ofNat 0) 0), (Value.int (Int.ofNat 3) 0), (R 413), (Value.bool true), (Value.int (Int.ofNat 181) 0), (R 414), Value.none, (R 415), (R 416), (R 417), (Value.int (Int.ofNat 745) 0), (Value.int (Int.ofNat 249) 0), (Value.str (S "/claim/cut.py") 746)])) (List.toArray [])
abbrev o419 (P : Params) : Obj := Obj.mk (Value.type "function") none (Data.func (FuncData.mk (S "letters_text") (S "letters_text") (defArgs (T 61)) (FuncBody.stmts (defBody (T 61))) (defScope (T 61)) 3 [] Value.none Value.none Value.none (Value.str (S "budwright.sumtexts") 734) none (R 418) Value.none 0)) (List.toArray [])
abbrev o420 (P : Params) : Obj := Obj.mk (Value.type "tuple") none (Data.seq (List.toArray []) 0) (List.toArray [])
abbrev o422 (P : Params) : Obj := Obj.mk (Value.type "tuple") none (Data.seq (List.toArray [(Value.str (S "powers") 751), (Value.str (S "count") 752), (Value.str (S "letters") 753)]) 0) (List.toArray [])
abbrev o423 (P : Params) : Obj := Obj.mk (Value.type "tuple") none (Data.seq (List.toArray []) 0) (List.toArray [])
abbrev o425 (P : Params) : Obj := Obj.mk (Value.type "code") none (Data.fields (List.toArray [(Value.str (S "product_text") 748), (Value.str (S "product_text") 749), (Value.str (S "/claim/cut.py") 750), (Value.int (Int.ofNat 257) 0), (Value.int (Int.ofNat 2) 0), (Value.int (Int.ofNat 0) 0), (Value.int (Int.ofNat 0) 0), (Value.int (Int.ofNat 3) 0), (R 420), (Value.bool true), (Value.int (Int.ofNat 181) 0), (R 421), Value.none, (R 422), (R 423), (R 424), (Value.int (Int.ofNat 754) 0), (Value.int (Int.ofNat 257) 0), (Value.str (S "/claim/cut.py") 755)])) (List.toArray [])
abbrev o426 (P : Params) : Obj := Obj.mk (Value.type "function") none (Data.func (FuncData.mk (S "product_text") (S "product_text") (defArgs (T 62)) (FuncBody.stmts (defBody (T 62))) (defScope (T 62)) 3 [] Value.none Value.none Value.none (Value.str (S "budwright.sumtexts") 734) none (R 425) Value.none 0)) (List.toArray [])
abbrev o427 (P : Params) : Obj := Obj.mk (Value.type "tuple") none (Data.seq (List.toArray []) 0) (List.toArray [])
abbrev o429 (P : Params) : Obj := Obj.mk (Value.type "tuple") none (Data.seq (List.toArray [(Value.str (S "products") 760), (Value.str (S "pieces") 761), (Value.str (S "powers") 762), (Value.str (S "count") 763)]) 0) (List.toArray [])
abbrev o430 (P : Params) : Obj := Obj.mk (Value.type "tuple") none (Data.seq (List.toArray []) 0) (List.toArray [])
abbrev o432 (P : Params) : Obj := Obj.mk (Value.type "code") none (Data.fields (List.toArray [(Value.str (S "sum_pieces") 757), (Value.str (S "sum_pieces") 758), (Value.str (S "/claim/cut.py") 759), (Value.int (Int.ofNat 262) 0), (Value.int (Int.ofNat 1) 0), (Value.int (Int.ofNat 0) 0), (Value.int (Int.ofNat 0) 0), (Value.int (Int.ofNat 3) 0), (R 427), (Value.bool true), (Value.int (Int.ofNat 181) 0), (R 428), Value.none, (R 429), (R 430), (R 431), (Value.int (Int.ofNat 764) 0), (Value.int (Int.ofNat 262) 0), (Value.str (S "/claim/cut.py") 765)])) (List.toArray [])
abbrev o433 (P : Params) : Obj := Obj.mk (Value.type "function") none (Data.func (FuncData.mk (S "sum_pieces") (S "sum_pieces") (defArgs (T 63)) (FuncBody.stmts (defBody (T 63))) (defScope (T 63)) 3 [] Value.none Value.none Value.none (Value.str (S "budwright.sumtexts") 734) none (R 432) Value.none 0)) (List.toArray [])
abbrev o441 (P : Params) : Obj := Obj.mk (Value.type "tuple") none (Data.seq (List.toArray []) 0) (List.toArray [])
abbrev o442 (P : Params) : Obj := Obj.mk (Value.type "tuple") none (Data.seq (List.toArray [(R 441)]) 0) (List.toArray [])
abbrev o443 (P : Params) : Obj := Obj.mk (Value.type "tuple") none (Data.seq (List.toArray []) 0) (List.toArray [])
abbrev o446 (P : Params) : Obj := Obj.mk (Value.type "code") none (Data.fields (List.toArray [(Value.str (S "__init__") 783), (Value.str (S "Sum.__init__") 784), (Value.str (S "/claim/cut.py") 785), (Value.int (Int.ofNat 277) 0), (Value.int (Int.ofNat 3) 0), (Value.int (Int.ofNat 0) 0), (Value.int (Int.ofNat 0) 0), (Value.int (Int.ofNat 3) 0), (R 443), (Value.bool true), (Value.int (Int.ofNat 181) 0), (R 444), Value.none, Value.none, Value.none, (R 445), (Value.int (Int.ofNat 786) 0), (Value.int (Int.ofNat 277) 0), (Value.str (S "/claim/cut.py") 787)])) (List.toArray [])
abbrev o447 (P : Params) : Obj := Obj.mk (Value.type "function") none (Data.func (FuncData.mk (S "__init__") (S "Sum.__init__") (defArgs (M 66 0)) (FuncBody.stmts (defBody (M 66 0))) (defScope (M 66 0)) 3 [] (R 442) Value.none Value.none (Value.str (S "budwright.sums") 767) none (R 446) Value.none 0)) (List.toArray [])
abbrev o448 (P : Params) : Obj := Obj.mk (Value.type "tuple") none (Data.seq (List.toArray []) 0) (List.toArray [])
abbrev o450 (P : Params) : Obj := Obj.mk (Value.type "tuple") none (Data.seq (List.toArray [(Value.str (S "self") 792)]) 0) (List.toArray [])
abbrev o451 (P : Params) : Obj := Obj.mk (Value.type "tuple") none (Data.seq (List.toArray []) 0) (List.toArray [])
abbrev o453 (P : Params) : Obj := Obj.mk (Value.type "code") none (Data.fields (List.toArray [(Value.str (S "terms") 789), (Value.str (S "Sum.terms") 790), (Value.str (S "/claim/cut.py") 791), (Value.int (Int.ofNat 286) 0), (Value.int (Int.ofNat 1) 0), (Value.int (Int.ofNat 0) 0), (Value.int (Int.ofNat 0) 0), (Value.int (Int.ofNat 3) 0), (R 448), (Value.bool true), (Value.int (Int.ofNat 181) 0), (R 449), Value.none, (R 450), (R 451), (R 452), (Value.int (Int.ofNat 793) 0), (Value.int (Int.ofNat 286) 0), (Value.str (S "/claim/cut.py") 794)])) (List.toArray [])
abbrev o454 (P : Params) : Obj := Obj.mk (Value.type "function") none (Data.func (FuncData.mk (S "terms") (S "Sum.terms") (defArgs (M 66 1)) (FuncBody.stmts (defBody (M 66 1))) (defScope (M 66 1)) 3 [] Value.none Value.none Value.none (Value.str (S "budwright.sums") 767) none (R 453) Value.none 0)) (List.toArray [])
abbrev o455 (P : Params) : Obj := Obj.mk (Value.type "tuple") none (Data.seq (List.toArray []) 0) (List.toArray [])
abbrev o457 (P : Params) : Obj := Obj.mk (Value.type "tuple") none (Data.seq (List.toArray [(Value.str (S "self") 799), (Value.str (S "other") 800)]) 0) (List.toArray [])
abbrev o458 (P : Params) : Obj := Obj.mk (Value.type "tuple") none (Data.seq (List.toArray []) 0) (List.toArray [])
abbrev o460 (P : Params) : Obj := Obj.mk (Value.type "code") none (Data.fields (List.toArray [(Value.str (S "plus") 796), (Value.str (S "Sum.plus") 797), (Value.str (S "/claim/cut.py") 798), (Value.int (Int.ofNat 289) 0), (Value.int (Int.ofNat 2) 0), (Value.int (Int.ofNat 0) 0), (Value.int (Int.ofNat 0) 0), (Value.int (Int.ofNat 3) 0), (R 455), (Value.bool true), (Value.int (Int.ofNat 181) 0), (R 456), Value.none, (R 457), (R 458), (R 459), (Value.int (Int.ofNat 801) 0), (Value.int (Int.ofNat 289) 0), (Value.str (S "/claim/cut.py") 802)])) (List.toArray [])
abbrev o461 (P : Params) : Obj := Obj.mk (Value.type "function") none (Data.func (FuncData.mk (S "plus") (S "Sum.plus") (defArgs (M 66 2)) (FuncBody.stmts (defBody (M 66 2))) (defScope (M 66 2)) 3 [] Value.none Value.none Value.none (Value.str (S "budwright.sums") 767) none (R 460) Value.none 0)) (List.toArray [])
abbrev o462 (P : Params) : Obj := Obj.mk (Value.type "tuple") none (Data.seq (List.toArray []) 0) (List.toArray [])
abbrev o464 (P : Params) : Obj := Obj.mk (Value.type "tuple") none (Data.seq (List.toArray [(Value.str (S "self") 807), (Value.str (S "other") 808)]) 0) (List.toArray [])
abbrev o465 (P : Params) : Obj := Obj.mk (Value.type "tuple") none (Data.seq (List.toArray []) 0) (List.toArray [])
abbrev o467 (P : Params) : Obj := Obj.mk (Value.type "code") none (Data.fields (List.toArray [(Value.str (S "minus") 804), (Value.str (S "Sum.minus") 805), (Value.str (S "/claim/cut.py") 806), (Value.int (Int.ofNat 292) 0), (Value.int (Int.ofNat 2) 0), (Value.int (Int.ofNat 0) 0), (Value.int (Int.ofNat 0) 0), (Value.int (Int.ofNat 3) 0), (R 462), (Value.bool true), (Value.int (Int.ofNat 181) 0), (R 463), Value.none, (R 464), (R 465), (R 466), (Value.int (Int.ofNat 809) 0), (Value.int (Int.ofNat 292) 0), (Value.str (S "/claim/cut.py") 810)])) (List.toArray [])
abbrev o468 (P : Params) : Obj := Obj.mk (Value.type "function") none (Data.func (FuncData.mk (S "minus") (S "Sum.minus") (defArgs (M 66 3)) (FuncBody.stmts (defBody (M 66 3))) (defScope (M 66 3)) 3 [] Value.none Value.none Value.none (Value.str (S "budwright.sums") 767) none (R 467) Value.none 0)) (List.toArray [])
abbrev o469 (P : Params) : Obj := Obj.mk (Value.type "tuple") none (Data.seq (List.toArray []) 0) (List.toArray [])
abbrev o471 (P : Params) : Obj := Obj.mk (Value.type "tuple") none (Data.seq (List.toArray [(Value.str (S "self") 815), (Value.str (S "other") 816)]) 0) (List.toArray [])
abbrev o472 (P : Params) : Obj := Obj.mk (Value.type "tuple") none (Data.seq (List.toArray []) 0) (List.toArray [])
abbrev o474 (P : Params) : Obj := Obj.mk (Value.type "code") none (Data.fields (List.toArray [(Value.str (S "times") 812), (Value.str (S "Sum.times") 813), (Value.str (S "/claim/cut.py") 814), (Value.int (Int.ofNat 295) 0), (Value.int (Int.ofNat 2) 0), (Value.int (Int.ofNat 0) 0), (Value.int (Int.ofNat 0) 0), (Value.int (Int.ofNat 3) 0), (R 469), (Value.bool true), (Value.int (Int.ofNat 181) 0), (R 470), Value.none, (R 471), (R 472), (R 473), (Value.int (Int.ofNat 817) 0), (Value.int (Int.ofNat 295) 0), (Value.str (S "/claim/cut.py") 818)])) (List.toArray [])
abbrev o475 (P : Params) : Obj := Obj.mk (Value.type "function") none (Data.func (FuncData.mk (S "times") (S "Sum.times") (defArgs (M 66 4)) (FuncBody.stmts (defBody (M 66 4))) (defScope (M 66 4)) 3 [] Value.none Value.none Value.none (Value.str (S "budwright.sums") 767) none (R 474) Value.none 0)) (List.toArray [])
abbrev o476 (P : Params) : Obj := Obj.mk (Value.type "tuple") none (Data.seq (List.toArray []) 0) (List.toArray [])
abbrev o478 (P : Params) : Obj := Obj.mk (Value.type "tuple") none (Data.seq (List.toArray [(Value.str (S "self") 823), (Value.str (S "many") 824)]) 0) (List.toArray [])
abbrev o479 (P : Params) : Obj := Obj.mk (Value.type "tuple") none (Data.seq (List.toArray []) 0) (List.toArray [])
abbrev o481 (P : Params) : Obj := Obj.mk (Value.type "code") none (Data.fields (List.toArray [(Value.str (S "raised") 820), (Value.str (S "Sum.raised") 821), (Value.str (S "/claim/cut.py") 822), (Value.int (Int.ofNat 299) 0), (Value.int (Int.ofNat 2) 0), (Value.int (Int.ofNat 0) 0), (Value.int (Int.ofNat 0) 0), (Value.int (Int.ofNat 3) 0), (R 476), (Value.bool true), (Value.int (Int.ofNat 181) 0), (R 477), Value.none, (R 478), (R 479), (R 480), (Value.int (Int.ofNat 825) 0), (Value.int (Int.ofNat 299) 0), (Value.str (S "/claim/cut.py") 826)])) (List.toArray [])
abbrev o482 (P : Params) : Obj := Obj.mk (Value.type "function") none (Data.func (FuncData.mk (S "raised") (S "Sum.raised") (defArgs (M 66 5)) (FuncBody.stmts (defBody (M 66 5))) (defScope (M 66 5)) 3 [] Value.none Value.none Value.none (Value.str (S "budwright.sums") 767) none (R 481) Value.none 0)) (List.toArray [])
abbrev o483 (P : Params) : Obj := Obj.mk (Value.type "tuple") none (Data.seq (List.toArray []) 0) (List.toArray [])
abbrev o485 (P : Params) : Obj := Obj.mk (Value.type "tuple") none (Data.seq (List.toArray [(Value.str (S "self") 831), (Value.str (S "other") 832), (Value.str (S "found") 833)]) 0) (List.toArray [])
abbrev o486 (P : Params) : Obj := Obj.mk (Value.type "tuple") none (Data.seq (List.toArray []) 0) (List.toArray [])
abbrev o488 (P : Params) : Obj := Obj.mk (Value.type "code") none (Data.fields (List.toArray [(Value.str (S "shared") 828), (Value.str (S "Sum.shared") 829), (Value.str (S "/claim/cut.py") 830), (Value.int (Int.ofNat 302) 0), (Value.int (Int.ofNat 2) 0), (Value.int (Int.ofNat 0) 0), (Value.int (Int.ofNat 0) 0), (Value.int (Int.ofNat 3) 0), (R 483), (Value.bool true), (Value.int (Int.ofNat 181) 0), (R 484), Value.none, (R 485), (R 486), (R 487), (Value.int (Int.ofNat 834) 0), (Value.int (Int.ofNat 302) 0), (Value.str (S "/claim/cut.py") 835)])) (List.toArray [])
abbrev o489 (P : Params) : Obj := Obj.mk (Value.type "function") none (Data.func (FuncData.mk (S "shared") (S "Sum.shared") (defArgs (M 66 6)) (FuncBody.stmts (defBody (M 66 6))) (defScope (M 66 6)) 3 [] Value.none Value.none Value.none (Value.str (S "budwright.sums") 767) none (R 488) Value.none 0)) (List.toArray [])
abbrev o490 (P : Params) : Obj := Obj.mk (Value.type "tuple") none (Data.seq (List.toArray []) 0) (List.toArray [])
abbrev o492 (P : Params) : Obj := Obj.mk (Value.type "tuple") none (Data.seq (List.toArray [(Value.str (S "self") 840), (Value.str (S "parts") 841)]) 0) (List.toArray [])
abbrev o493 (P : Params) : Obj := Obj.mk (Value.type "tuple") none (Data.seq (List.toArray []) 0) (List.toArray [])
abbrev o495 (P : Params) : Obj := Obj.mk (Value.type "code") none (Data.fields (List.toArray [(Value.str (S "worth") 837), (Value.str (S "Sum.worth") 838), (Value.str (S "/claim/cut.py") 839), (Value.int (Int.ofNat 311) 0), (Value.int (Int.ofNat 2) 0), (Value.int (Int.ofNat 0) 0), (Value.int (Int.ofNat 0) 0), (Value.int (Int.ofNat 3) 0), (R 490), (Value.bool true), (Value.int (Int.ofNat 181) 0), (R 491), Value.none, (R 492), (R 493), (R 494), (Value.int (Int.ofNat 842) 0), (Value.int (Int.ofNat 311) 0), (Value.str (S "/claim/cut.py") 843)])) (List.toArray [])
abbrev o496 (P : Params) : Obj := Obj.mk (Value.type "function") none (Data.func (FuncData.mk (S "worth") (S "Sum.worth") (defArgs (M 66 7)) (FuncBody.stmts (defBody (M 66 7))) (defScope (M 66 7)) 3 [] Value.none Value.none Value.none (Value.str (S "budwright.sums") 767) none (R 495) Value.none 0)) (List.toArray [])
abbrev o497 (P : Params) : Obj := Obj.mk (Value.type "tuple") none (Data.seq (List.toArray []) 0) (List.toArray [])
abbrev o499 (P : Params) : Obj := Obj.mk (Value.type "tuple") none (Data.seq (List.toArray [(Value.str (S "self") 848), (Value.str (S "numbers") 849)]) 0) (List.toArray [])
abbrev o500 (P : Params) : Obj := Obj.mk (Value.type "tuple") none (Data.seq (List.toArray []) 0) (List.toArray [])
abbrev o502 (P : Params) : Obj := Obj.mk (Value.type "code") none (Data.fields (List.toArray [(Value.str (S "least") 845), (Value.str (S "Sum.least") 846), (Value.str (S "/claim/cut.py") 847), (Value.int (Int.ofNat 314) 0), (Value.int (Int.ofNat 2) 0), (Value.int (Int.ofNat 0) 0), (Value.int (Int.ofNat 0) 0), (Value.int (Int.ofNat 3) 0), (R 497), (Value.bool true), (Value.int (Int.ofNat 181) 0), (R 498), Value.none, (R 499), (R 500), (R 501), (Value.int (Int.ofNat 850) 0), (Value.int (Int.ofNat 314) 0), (Value.str (S "/claim/cut.py") 851)])) (List.toArray [])
abbrev o503 (P : Params) : Obj := Obj.mk (Value.type "function") none (Data.func (FuncData.mk (S "least") (S "Sum.least") (defArgs (M 66 8)) (FuncBody.stmts (defBody (M 66 8))) (defScope (M 66 8)) 3 [] Value.none Value.none Value.none (Value.str (S "budwright.sums") 767) none (R 502) Value.none 0)) (List.toArray [])
abbrev o504 (P : Params) : Obj := Obj.mk (Value.type "tuple") none (Data.seq (List.toArray []) 0) (List.toArray [])
abbrev o506 (P : Params) : Obj := Obj.mk (Value.type "tuple") none (Data.seq (List.toArray [(Value.str (S "self") 856), (Value.str (S "numbers") 857)]) 0) (List.toArray [])
abbrev o507 (P : Params) : Obj := Obj.mk (Value.type "tuple") none (Data.seq (List.toArray []) 0) (List.toArray [])
abbrev o509 (P : Params) : Obj := Obj.mk (Value.type "code") none (Data.fields (List.toArray [(Value.str (S "greatest") 853), (Value.str (S "Sum.greatest") 854), (Value.str (S "/claim/cut.py") 855), (Value.int (Int.ofNat 318) 0), (Value.int (Int.ofNat 2) 0), (Value.int (Int.ofNat 0) 0), (Value.int (Int.ofNat 0) 0), (Value.int (Int.ofNat 3) 0), (R 504), (Value.bool true), (Value.int (Int.ofNat 181) 0), (R 505), Value.none, (R 506), (R 507), (R 508), (Value.int (Int.ofNat 858) 0), (Value.int (Int.ofNat 318) 0), (Value.str (S "/claim/cut.py") 859)])) (List.toArray [])
abbrev o510 (P : Params) : Obj := Obj.mk (Value.type "function") none (Data.func (FuncData.mk (S "greatest") (S "Sum.greatest") (defArgs (M 66 9)) (FuncBody.stmts (defBody (M 66 9))) (defScope (M 66 9)) 3 [] Value.none Value.none Value.none (Value.str (S "budwright.sums") 767) none (R 509) Value.none 0)) (List.toArray [])
abbrev o511 (P : Params) : Obj := Obj.mk (Value.type "tuple") none (Data.seq (List.toArray []) 0) (List.toArray [])
abbrev o513 (P : Params) : Obj := Obj.mk (Value.type "tuple") none (Data.seq (List.toArray [(Value.str (S "self") 864)]) 0) (List.toArray [])
abbrev o514 (P : Params) : Obj := Obj.mk (Value.type "tuple") none (Data.seq (List.toArray []) 0) (List.toArray [])
abbrev o516 (P : Params) : Obj := Obj.mk (Value.type "code") none (Data.fields (List.toArray [(Value.str (S "lowest") 861), (Value.str (S "Sum.lowest") 862), (Value.str (S "/claim/cut.py") 863), (Value.int (Int.ofNat 322) 0), (Value.int (Int.ofNat 1) 0), (Value.int (Int.ofNat 0) 0), (Value.int (Int.ofNat 0) 0), (Value.int (Int.ofNat 3) 0), (R 511), (Value.bool true), (Value.int (Int.ofNat 181) 0), (R 512), Value.none, (R 513), (R 514), (R 515), (Value.int (Int.ofNat 865) 0), (Value.int (Int.ofNat 322) 0), (Value.str (S "/claim/cut.py") 866)])) (List.toArray [])
abbrev o517 (P : Params) : Obj := Obj.mk (Value.type "function") none (Data.func (FuncData.mk (S "lowest") (S "Sum.lowest") (defArgs (M 66 10)) (FuncBody.stmts (defBody (M 66 10))) (defScope (M 66 10)) 3 [] Value.none Value.none Value.none (Value.str (S "budwright.sums") 767) none (R 516) Value.none 0)) (List.toArray [])
abbrev o518 (P : Params) : Obj := Obj.mk (Value.type "tuple") none (Data.seq (List.toArray []) 0) (List.toArray [])
abbrev o520 (P : Params) : Obj := Obj.mk (Value.type "tuple") none (Data.seq (List.toArray [(Value.str (S "self") 871), (Value.str (S "places") 872)]) 0) (List.toArray [])
abbrev o521 (P : Params) : Obj := Obj.mk (Value.type "tuple") none (Data.seq (List.toArray []) 0) (List.toArray [])
abbrev o523 (P : Params) : Obj := Obj.mk (Value.type "code") none (Data.fields (List.toArray [(Value.str (S "with_ones") 868), (Value.str (S "Sum.with_ones") 869), (Value.str (S "/claim/cut.py") 870), (Value.int (Int.ofNat 325) 0), (Value.int (Int.ofNat 2) 0), (Value.int (Int.ofNat 0) 0), (Value.int (Int.ofNat 0) 0), (Value.int (Int.ofNat 3) 0), (R 518), (Value.bool true), (Value.int (Int.ofNat 181) 0), (R 519), Value.none, (R 520), (R 521), (R 522), (Value.int (Int.ofNat 873) 0), (Value.int (Int.ofNat 325) 0), (Value.str (S "/claim/cut.py") 874)])) (List.toArray [])
abbrev o524 (P : Params) : Obj := Obj.mk (Value.type "function") none (Data.func (FuncData.mk (S "with_ones") (S "Sum.with_ones") (defArgs (M 66 11)) (FuncBody.stmts (defBody (M 66 11))) (defScope (M 66 11)) 3 [] Value.none Value.none Value.none (Value.str (S "budwright.sums") 767) none (R 523) Value.none 0)) (List.toArray [])
abbrev o525 (P : Params) : Obj := Obj.mk (Value.type "tuple") none (Data.seq (List.toArray []) 0) (List.toArray [])
abbrev o527 (P : Params) : Obj := Obj.mk (Value.type "tuple") none (Data.seq (List.toArray [(Value.str (S "self") 879), (Value.str (S "width") 880)]) 0) (List.toArray [])
abbrev o528 (P : Params) : Obj := Obj.mk (Value.type "tuple") none (Data.seq (List.toArray []) 0) (List.toArray [])
abbrev o530 (P : Params) : Obj := Obj.mk (Value.type "code") none (Data.fields (List.toArray [(Value.str (S "widened") 876), (Value.str (S "Sum.widened") 877), (Value.str (S "/claim/cut.py") 878), (Value.int (Int.ofNat 328) 0), (Value.int (Int.ofNat 2) 0), (Value.int (Int.ofNat 0) 0), (Value.int (Int.ofNat 0) 0), (Value.int (Int.ofNat 3) 0), (R 525), (Value.bool true), (Value.int (Int.ofNat 181) 0), (R 526), Value.none, (R 527), (R 528), (R 529), (Value.int (Int.ofNat 881) 0), (Value.int (Int.ofNat 328) 0), (Value.str (S "/claim/cut.py") 882)])) (List.toArray [])
abbrev o531 (P : Params) : Obj := Obj.mk (Value.type "function") none (Data.func (FuncData.mk (S "widened") (S "Sum.widened") (defArgs (M 66 12)) (FuncBody.stmts (defBody (M 66 12))) (defScope (M 66 12)) 3 [] Value.none Value.none Value.none (Value.str (S "budwright.sums") 767) none (R 530) Value.none 0)) (List.toArray [])
abbrev o532 (P : Params) : Obj := Obj.mk (Value.type "tuple") none (Data.seq (List.toArray []) 0) (List.toArray [])
abbrev o534 (P : Params) : Obj := Obj.mk (Value.type "tuple") none (Data.seq (List.toArray [(Value.str (S "self") 887)]) 0) (List.toArray [])
abbrev o535 (P : Params) : Obj := Obj.mk (Value.type "tuple") none (Data.seq (List.toArray []) 0) (List.toArray [])
abbrev o537 (P : Params) : Obj := Obj.mk (Value.type "code") none (Data.fields (List.toArray [(Value.str (S "__len__") 884), (Value.str (S "Sum.__len__") 885), (Value.str (S "/claim/cut.py") 886), (Value.int (Int.ofNat 331) 0), (Value.int (Int.ofNat 1) 0), (Value.int (Int.ofNat 0) 0), (Value.int (Int.ofNat 0) 0), (Value.int (Int.ofNat 3) 0), (R 532), (Value.bool true), (Value.int (Int.ofNat 181) 0), (R 533), Value.none, (R 534), (R 535), (R 536), (Value.int (Int.ofNat 888) 0), (Value.int (Int.ofNat 331) 0), (Value.str (S "/claim/cut.py") 889)])) (List.toArray [])
abbrev o538 (P : Params) : Obj := Obj.mk (Value.type "function") none (Data.func (FuncData.mk (S "__len__") (S "Sum.__len__") (defArgs (M 66 13)) (FuncBody.stmts (defBody (M 66 13))) (defScope (M 66 13)) 3 [] Value.none Value.none Value.none (Value.str (S "budwright.sums") 767) none (R 537) Value.none 0)) (List.toArray [])
abbrev o539 (P : Params) : Obj := Obj.mk (Value.type "tuple") none (Data.seq (List.toArray []) 0) (List.toArray [])
abbrev o541 (P : Params) : Obj := Obj.mk (Value.type "tuple") none (Data.seq (List.toArray [(Value.str (S "self") 894), (Value.str (S "other") 895)]) 0) (List.toArray [])
abbrev o542 (P : Params) : Obj := Obj.mk (Value.type "tuple") none (Data.seq (List.toArray []) 0) (List.toArray [])
abbrev o544 (P : Params) : Obj := Obj.mk (Value.type "code") none (Data.fields (List.toArray [(Value.str (S "__eq__") 891), (Value.str (S "Sum.__eq__") 892), (Value.str (S "/claim/cut.py") 893), (Value.int (Int.ofNat 334) 0), (Value.int (Int.ofNat 2) 0), (Value.int (Int.ofNat 0) 0), (Value.int (Int.ofNat 0) 0), (Value.int (Int.ofNat 3) 0), (R 539), (Value.bool true), (Value.int (Int.ofNat 181) 0), (R 540), Value.none, (R 541), (R 542), (R 543), (Value.int (Int.ofNat 896) 0), (Value.int (Int.ofNat 334) 0), (Value.str (S "/claim/cut.py") 897)])) (List.toArray [])
abbrev o545 (P : Params) : Obj := Obj.mk (Value.type "function") none (Data.func (FuncData.mk (S "__eq__") (S "Sum.__eq__") (defArgs (M 66 14)) (FuncBody.stmts (defBody (M 66 14))) (defScope (M 66 14)) 3 [] Value.none Value.none Value.none (Value.str (S "budwright.sums") 767) none (R 544) Value.none 0)) (List.toArray [])
abbrev o546 (P : Params) : Obj := Obj.mk (Value.type "tuple") none (Data.seq (List.toArray []) 0) (List.toArray [])
abbrev o548 (P : Params) : Obj := Obj.mk (Value.type "tuple") none (Data.seq (List.toArray [(Value.str (S "self") 902)]) 0) (List.toArray [])
abbrev o549 (P : Params) : Obj := Obj.mk (Value.type "tuple") none (Data.seq (List.toArray []) 0) (List.toArray [])
abbrev o551 (P : Params) : Obj := Obj.mk (Value.type "code") none (Data.fields (List.toArray [(Value.str (S "__str__") 899), (Value.str (S "Sum.__str__") 900), (Value.str (S "/claim/cut.py") 901), (Value.int (Int.ofNat 337) 0), (Value.int (Int.ofNat 1) 0), (Value.int (Int.ofNat 0) 0), (Value.int (Int.ofNat 0) 0), (Value.int (Int.ofNat 3) 0), (R 546), (Value.bool true), (Value.int (Int.ofNat 181) 0), (R 547), Value.none, (R 548), (R 549), (R 550), (Value.int (Int.ofNat 903) 0), (Value.int (Int.ofNat 337) 0), (Value.str (S "/claim/cut.py") 904)])) (List.toArray [])
abbrev o552 (P : Params) : Obj := Obj.mk (Value.type "function") none (Data.func (FuncData.mk (S "__str__") (S "Sum.__str__") (defArgs (M 66 15)) (FuncBody.stmts (defBody (M 66 15))) (defScope (M 66 15)) 3 [] Value.none Value.none Value.none (Value.str (S "budwright.sums") 767) none (R 551) Value.none 0)) (List.toArray [])
abbrev o553 (P : Params) : Obj := Obj.mk (Value.type "tuple") none (Data.seq (List.toArray []) 0) (List.toArray [])
abbrev o555 (P : Params) : Obj := Obj.mk (Value.type "tuple") none (Data.seq (List.toArray [(Value.str (S "self") 909)]) 0) (List.toArray [])
abbrev o556 (P : Params) : Obj := Obj.mk (Value.type "tuple") none (Data.seq (List.toArray []) 0) (List.toArray [])
abbrev o558 (P : Params) : Obj := Obj.mk (Value.type "code") none (Data.fields (List.toArray [(Value.str (S "__repr__") 906), (Value.str (S "Sum.__repr__") 907), (Value.str (S "/claim/cut.py") 908), (Value.int (Int.ofNat 340) 0), (Value.int (Int.ofNat 1) 0), (Value.int (Int.ofNat 0) 0), (Value.int (Int.ofNat 0) 0), (Value.int (Int.ofNat 3) 0), (R 553), (Value.bool true), (Value.int (Int.ofNat 181) 0), (R 554), Value.none, (R 555), (R 556), (R 557), (Value.int (Int.ofNat 910) 0), (Value.int (Int.ofNat 340) 0), (Value.str (S "/claim/cut.py") 911)])) (List.toArray [])
abbrev o559 (P : Params) : Obj := Obj.mk (Value.type "function") none (Data.func (FuncData.mk (S "__repr__") (S "Sum.__repr__") (defArgs (M 66 16)) (FuncBody.stmts (defBody (M 66 16))) (defScope (M 66 16)) 3 [] Value.none Value.none Value.none (Value.str (S "budwright.sums") 767) none (R 558) Value.none 0)) (List.toArray [])
abbrev o560 (P : Params) : Obj := Obj.mk (Value.type "tuple") none (Data.seq (List.toArray [(Value.str (S "products") 913), (Value.str (S "width") 914)]) 0) (List.toArray [])
abbrev o561 (P : Params) : Obj := Obj.mk (Value.type "dict") none (Data.dict (List.toArray [E P "__module__" 778 (Value.str (S "budwright.sums") 767), E P "__firstlineno__" 782 (Value.int (Int.ofNat 275) 781), E P "__init__" 788 (R 447), E P "terms" 795 (R 454), E P "plus" 803 (R 461), E P "minus" 811 (R 468), E P "times" 819 (R 475), E P "raised" 827 (R 482), E P "shared" 836 (R 489), E P "worth" 844 (R 496), E P "least" 852 (R 503), E P "greatest" 860 (R 510), E P "lowest" 867 (R 517), E P "with_ones" 875 (R 524), E P "widened" 883 (R 531), E P "__len__" 890 (R 538), E P "__eq__" 898 (R 545), E P "__str__" 905 (R 552), E P "__repr__" 912 (R 559), E P "__static_attributes__" 915 (R 560), E P "__dict__" 917 (R 563), E P "__weakref__" 919 (R 564), E P "__doc__" 920 Value.none, E P "__hash__" 921 Value.none]) 5) (List.toArray [])
abbrev o562 (P : Params) : Obj := Obj.mk (Value.type "type") none (Data.cls (ClassData.mk (S "Sum") [(Value.type "object")] [(R 562), (Value.type "object")] 561 (S "Sum") true [] [] false none false)) (List.toArray [none, none, (some (Value.str (S "Sum") 771)), (some (Value.str (S "Sum") 779)), (some (Value.builtin "object.__new__")), (some (Value.bool true))])
abbrev o563 (P : Params) : Obj := Obj.mk (Value.type "getset_descriptor") none (Data.fields (List.toArray [(Value.str (S "__dict__") 916), (R 562), (Value.builtin "function.__dict__"), (Value.builtin "function.__dict__#set")])) (List.toArray [])
abbrev o564 (P : Params) : Obj := Obj.mk (Value.type "getset_descriptor") none (Data.fields (List.toArray [(Value.str (S "__weakref__") 918), (R 562), (Value.builtin "ExceptionGroup.__weakref__"), Value.none])) (List.toArray [])
abbrev o567 (P : Params) : Obj := Obj.mk (Value.type "tuple") none (Data.seq (List.toArray []) 0) (List.toArray [])
abbrev o569 (P : Params) : Obj := Obj.mk (Value.type "tuple") none (Data.seq (List.toArray [(Value.str (S "width") 927), (Value.str (S "other") 928)]) 0) (List.toArray [])
abbrev o570 (P : Params) : Obj := Obj.mk (Value.type "tuple") none (Data.seq (List.toArray []) 0) (List.toArray [])
abbrev o572 (P : Params) : Obj := Obj.mk (Value.type "code") none (Data.fields (List.toArray [(Value.str (S "check_width") 924), (Value.str (S "check_width") 925), (Value.str (S "/claim/cut.py") 926), (Value.int (Int.ofNat 342) 0), (Value.int (Int.ofNat 2) 0), (Value.int (Int.ofNat 0) 0), (Value.int (Int.ofNat 0) 0), (Value.int (Int.ofNat 3) 0), (R 567), (Value.bool true), (Value.int (Int.ofNat 181) 0), (R 568), Value.none, (R 569), (R 570), (R 571), (Value.int (Int.ofNat 929) 0), (Value.int (Int.ofNat 342) 0), (Value.str (S "/claim/cut.py") 930)])) (List.toArray [])
abbrev o573 (P : Params) : Obj := Obj.mk (Value.type "function") none (Data.func (FuncData.mk (S "check_width") (S "check_width") (defArgs (T 67)) (FuncBody.stmts (defBody (T 67))) (defScope (T 67)) 3 [] Value.none Value.none Value.none (Value.str (S "budwright.sums") 767) none (R 572) Value.none 0)) (List.toArray [])
abbrev o574 (P : Params) : Obj := Obj.mk (Value.type "dict") none (Data.dict (List.toArray [E P "by" 933 (Value.int (Int.ofNat 1) 932)]) 1) (List.toArray [])
abbrev o575 (P : Params) : Obj := Obj.mk (Value.type "tuple") none (Data.seq (List.toArray []) 0) (List.toArray [])
abbrev o578 (P : Params) : Obj := Obj.mk (Value.type "code") none (Data.fields (List.toArray [(Value.str (S "letter") 934), (Value.str (S "letter") 935), (Value.str (S "/claim/cut.py") 936), (Value.int (Int.ofNat 345) 0), (Value.int (Int.ofNat 2) 0), (Value.int (Int.ofNat 0) 0), (Value.int (Int.ofNat 1) 0), (Value.int (Int.ofNat 3) 0), (R 575), (Value.bool true), (Value.int (Int.ofNat 181) 0), (R 576), Value.none, Value.none, Value.none, (R 577), (Value.int (Int.ofNat 937) 0), (Value.int (Int.ofNat 345) 0), (Value.str (S "/claim/cut.py") 938)])) (List.toArray [])
abbrev o579 (P : Params) : Obj := Obj.mk (Value.type "function") none (Data.func (FuncData.mk (S "letter") (S "letter") (defArgs (T 68)) (FuncBody.stmts (defBody (T 68))) (defScope (T 68)) 3 [] Value.none (R 574) Value.none (Value.str (S "budwright.sums") 767) none (R 578) Value.none 0)) (List.toArray [])
abbrev o580 (P : Params) : Obj := Obj.mk (Value.type "tuple") none (Data.seq (List.toArray []) 0) (List.toArray [])
abbrev o583 (P : Params) : Obj := Obj.mk (Value.type "code") none (Data.fields (List.toArray [(Value.str (S "first_sums") 946), (Value.str (S "first_sums") 947), (Value.str (S "/claim/cut.py") 948), (Value.int (Int.ofNat 351) 0), (Value.int (Int.ofNat 1) 0), (Value.int (Int.ofNat 0) 0), (Value.int (Int.ofNat 0) 0), (Value.int (Int.ofNat 3) 0), (R 580), (Value.bool true), (Value.int (Int.ofNat 181) 0), (R 581), Value.none, Value.none, Value.none, (R 582), (Value.int (Int.ofNat 949) 0), (Value.int (Int.ofNat 351) 0), (Value.str (S "/claim/cut.py") 950)])) (List.toArray [])
abbrev o584 (P : Params) : Obj := Obj.mk (Value.type "function") none (Data.func (FuncData.mk (S "first_sums") (S "first_sums") (defArgs (T 72)) (FuncBody.stmts (defBody (T 72))) (defScope (T 72)) 3 [] Value.none Value.none Value.none (Value.str (S "budwright.webs") 940) none (R 583) Value.none 0)) (List.toArray [])
abbrev o585 (P : Params) : Obj := Obj.mk (Value.type "tuple") none (Data.seq (List.toArray []) 0) (List.toArray [])
abbrev o587 (P : Params) : Obj := Obj.mk (Value.type "tuple") none (Data.seq (List.toArray [(Value.str (S "sums") 955), (Value.str (S "column") 956), (Value.str (S "found") 957), (Value.str (S "one") 958), (Value.str (S "tie") 959), (Value.str (S "step") 960)]) 0) (List.toArray [])
abbrev o588 (P : Params) : Obj := Obj.mk (Value.type "tuple") none (Data.seq (List.toArray []) 0) (List.toArray [])
abbrev o590 (P : Params) : Obj := Obj.mk (Value.type "code") none (Data.fields (List.toArray [(Value.str (S "side_products") 952), (Value.str (S "side_products") 953), (Value.str (S "/claim/cut.py") 954), (Value.int (Int.ofNat 353) 0), (Value.int (Int.ofNat 2) 0), (Value.int (Int.ofNat 0) 0), (Value.int (Int.ofNat 0) 0), (Value.int (Int.ofNat 3) 0), (R 585), (Value.bool true), (Value.int (Int.ofNat 181) 0), (R 586), Value.none, (R 587), (R 588), (R 589), (Value.int (Int.ofNat 961) 0), (Value.int (Int.ofNat 353) 0), (Value.str (S "/claim/cut.py") 962)])) (List.toArray [])
abbrev o591 (P : Params) : Obj := Obj.mk (Value.type "function") none (Data.func (FuncData.mk (S "side_products") (S "side_products") (defArgs (T 73)) (FuncBody.stmts (defBody (T 73))) (defScope (T 73)) 3 [] Value.none Value.none Value.none (Value.str (S "budwright.webs") 940) none (R 590) Value.none 0)) (List.toArray [])
abbrev o592 (P : Params) : Obj := Obj.mk (Value.type "tuple") none (Data.seq (List.toArray []) 0) (List.toArray [])
abbrev o595 (P : Params) : Obj := Obj.mk (Value.type "code") none (Data.fields (List.toArray [(Value.str (S "new_bud") 964), (Value.str (S "new_bud") 965), (Value.str (S "/claim/cut.py") 966), (Value.int (Int.ofNat 361) 0), (Value.int (Int.ofNat 3) 0), (Value.int (Int.ofNat 0) 0), (Value.int (Int.ofNat 0) 0), (Value.int (Int.ofNat 3) 0), (R 592), (Value.bool true), (Value.int (Int.ofNat 181) 0), (R 593), Value.none, Value.none, Value.none, (R 594), (Value.int (Int.ofNat 967) 0), (Value.int (Int.ofNat 361) 0), (Value.str (S "/claim/cut.py") 968)])) (List.toArray [])
abbrev o596 (P : Params) : Obj := Obj.mk (Value.type "function") none (Data.func (FuncData.mk (S "new_bud") (S "new_bud") (defArgs (T 74)) (FuncBody.stmts (defBody (T 74))) (defScope (T 74)) 3 [] Value.none Value.none Value.none (Value.str (S "budwright.webs") 940) none (R 595) Value.none 0)) (List.toArray [])
abbrev o597 (P : Params) : Obj := Obj.mk (Value.type "tuple") none (Data.seq (List.toArray []) 0) (List.toArray [])
abbrev o599 (P : Params) : Obj := Obj.mk (Value.type "tuple") none (Data.seq (List.toArray [(Value.str (S "ties") 973), (Value.str (S "sums") 974), (Value.str (S "place") 975)]) 0) (List.toArray [])
abbrev o600 (P : Params) : Obj := Obj.mk (Value.type "tuple") none (Data.seq (List.toArray []) 0) (List.toArray [])
abbrev o602 (P : Params) : Obj := Obj.mk (Value.type "code") none (Data.fields (List.toArray [(Value.str (S "exchanged") 970), (Value.str (S "exchanged") 971), (Value.str (S "/claim/cut.py") 972), (Value.int (Int.ofNat 370) 0), (Value.int (Int.ofNat 3) 0), (Value.int (Int.ofNat 0) 0), (Value.int (Int.ofNat 0) 0), (Value.int (Int.ofNat 3) 0), (R 597), (Value.bool true), (Value.int (Int.ofNat 181) 0), (R 598), Value.none, (R 599), (R 600), (R 601), (Value.int (Int.ofNat 976) 0), (Value.int (Int.ofNat 370) 0), (Value.str (S "/claim/cut.py") 977)])) (List.toArray [])
abbrev o603 (P : Params) : Obj := Obj.mk (Value.type "function") none (Data.func (FuncData.mk (S "exchanged") (S "exchanged") (defArgs (T 75)) (FuncBody.stmts (defBody (T 75))) (defScope (T 75)) 3 [] Value.none Value.none Value.none (Value.str (S "budwright.webs") 940) none (R 602) Value.none 0)) (List.toArray [])
abbrev o611 (P : Params) : Obj := Obj.mk (Value.type "tuple") none (Data.seq (List.toArray []) 0) (List.toArray [])
abbrev o613 (P : Params) : Obj := Obj.mk (Value.type "tuple") none (Data.seq (List.toArray [(Value.str (S "self") 994), (Value.str (S "table") 995)]) 0) (List.toArray [])
abbrev o614 (P : Params) : Obj := Obj.mk (Value.type "tuple") none (Data.seq (List.toArray []) 0) (List.toArray [])
abbrev o616 (P : Params) : Obj := Obj.mk (Value.type "code") none (Data.fields (List.toArray [(Value.str (S "__init__") 991), (Value.str (S "Web.__init__") 992), (Value.str (S "/claim/cut.py") 993), (Value.int (Int.ofNat 374) 0), (Value.int (Int.ofNat 2) 0), (Value.int (Int.ofNat 0) 0), (Value.int (Int.ofNat 0) 0), (Value.int (Int.ofNat 3) 0), (R 611), (Value.bool true), (Value.int (Int.ofNat 181) 0), (R 612), Value.none, (R 613), (R 614), (R 615), (Value.int (Int.ofNat 996) 0), (Value.int (Int.ofNat 374) 0), (Value.str (S "/claim/cut.py") 997)])) (List.toArray [])
abbrev o617 (P : Params) : Obj := Obj.mk (Value.type "function") none (Data.func (FuncData.mk (S "__init__") (S "Web.__init__") (defArgs (M 76 0)) (FuncBody.stmts (defBody (M 76 0))) (defScope (M 76 0)) 3 [] Value.none Value.none Value.none (Value.str (S "budwright.webs") 940) none (R 616) Value.none 0)) (List.toArray [])
abbrev o618 (P : Params) : Obj := Obj.mk (Value.type "tuple") none (Data.seq (List.toArray []) 0) (List.toArray [])
abbrev o620 (P : Params) : Obj := Obj.mk (Value.type "tuple") none (Data.seq (List.toArray [(Value.str (S "self") 1002), (Value.str (S "place") 1003)]) 0) (List.toArray [])
abbrev o621 (P : Params) : Obj := Obj.mk (Value.type "tuple") none (Data.seq (List.toArray []) 0) (List.toArray [])
abbrev o623 (P : Params) : Obj := Obj.mk (Value.type "code") none (Data.fields (List.toArray [(Value.str (S "exchange") 999), (Value.str (S "Web.exchange") 1000), (Value.str (S "/claim/cut.py") 1001), (Value.int (Int.ofNat 381) 0), (Value.int (Int.ofNat 2) 0), (Value.int (Int.ofNat 0) 0), (Value.int (Int.ofNat 0) 0), (Value.int (Int.ofNat 3) 0), (R 618), (Value.bool true), (Value.int (Int.ofNat 181) 0), (R 619), Value.none, (R 620), (R 621), (R 622), (Value.int (Int.ofNat 1004) 0), (Value.int (Int.ofNat 381) 0), (Value.str (S "/claim/cut.py") 1005)])) (List.toArray [])
abbrev o624 (P : Params) : Obj := Obj.mk (Value.type "function") none (Data.func (FuncData.mk (S "exchange") (S "Web.exchange") (defArgs (M 76 1)) (FuncBody.stmts (defBody (M 76 1))) (defScope (M 76 1)) 3 [] Value.none Value.none Value.none (Value.str (S "budwright.webs") 940) none (R 623) Value.none 0)) (List.toArray [])
abbrev o625 (P : Params) : Obj := Obj.mk (Value.type "tuple") none (Data.seq (List.toArray []) 0) (List.toArray [])
abbrev o627 (P : Params) : Obj := Obj.mk (Value.type "tuple") none (Data.seq (List.toArray [(Value.str (S "self") 1010), (Value.str (S "places") 1011), (Value.str (S "seed") 1012), (Value.str (S "sums") 1013), (Value.str (S "made") 1014), (Value.str (S "place") 1015), (Value.str (S "after") 1016)]) 0) (List.toArray [])
abbrev o628 (P : Params) : Obj := Obj.mk (Value.type "tuple") none (Data.seq (List.toArray []) 0) (List.toArray [])
abbrev o630 (P : Params) : Obj := Obj.mk (Value.type "code") none (Data.fields (List.toArray [(Value.str (S "walk") 1007), (Value.str (S "Web.walk") 1008), (Value.str (S "/claim/cut.py") 1009), (Value.int (Int.ofNat 384) 0), (Value.int (Int.ofNat 2) 0), (Value.int (Int.ofNat 0) 0), (Value.int (Int.ofNat 0) 0), (Value.int (Int.ofNat 3) 0), (R 625), (Value.bool true), (Value.int (Int.ofNat 181) 0), (R 626), Value.none, (R 627), (R 628), (R 629), (Value.int (Int.ofNat 1017) 0), (Value.int (Int.ofNat 384) 0), (Value.str (S "/claim/cut.py") 1018)])) (List.toArray [])
abbrev o631 (P : Params) : Obj := Obj.mk (Value.type "function") none (Data.func (FuncData.mk (S "walk") (S "Web.walk") (defArgs (M 76 2)) (FuncBody.stmts (defBody (M 76 2))) (defScope (M 76 2)) 3 [] Value.none Value.none Value.none (Value.str (S "budwright.webs") 940) none (R 630) Value.none 0)) (List.toArray [])
abbrev o632 (P : Params) : Obj := Obj.mk (Value.type "tuple") none (Data.seq (List.toArray []) 0) (List.toArray [])
abbrev o634 (P : Params) : Obj := Obj.mk (Value.type "tuple") none (Data.seq (List.toArray [(Value.str (S "self") 1023), (Value.str (S "place") 1024), (Value.str (S "many") 1025)]) 0) (List.toArray [])
abbrev o635 (P : Params) : Obj := Obj.mk (Value.type "tuple") none (Data.seq (List.toArray []) 0) (List.toArray [])
abbrev o637 (P : Params) : Obj := Obj.mk (Value.type "code") none (Data.fields (List.toArray [(Value.str (S "check_exchange") 1020), (Value.str (S "Web.check_exchange") 1021), (Value.str (S "/claim/cut.py") 1022), (Value.int (Int.ofNat 398) 0), (Value.int (Int.ofNat 3) 0), (Value.int (Int.ofNat 0) 0), (Value.int (Int.ofNat 0) 0), (Value.int (Int.ofNat 3) 0), (R 632), (Value.bool true), (Value.int (Int.ofNat 181) 0), (R 633), Value.none, (R 634), (R 635), (R 636), (Value.int (Int.ofNat 1026) 0), (Value.int (Int.ofNat 398) 0), (Value.str (S "/claim/cut.py") 1027)])) (List.toArray [])
abbrev o638 (P : Params) : Obj := Obj.mk (Value.type "function") none (Data.func (FuncData.mk (S "check_exchange") (S "Web.check_exchange") (defArgs (M 76 3)) (FuncBody.stmts (defBody (M 76 3))) (defScope (M 76 3)) 3 [] Value.none Value.none Value.none (Value.str (S "budwright.webs") 940) none (R 637) Value.none 0)) (List.toArray [])
abbrev o639 (P : Params) : Obj := Obj.mk (Value.type "tuple") none (Data.seq (List.toArray []) 0) (List.toArray [])
abbrev o641 (P : Params) : Obj := Obj.mk (Value.type "tuple") none (Data.seq (List.toArray [(Value.str (S "self") 1032)]) 0) (List.toArray [])
abbrev o642 (P : Params) : Obj := Obj.mk (Value.type "tuple") none (Data.seq (List.toArray []) 0) (List.toArray [])
abbrev o644 (P : Params) : Obj := Obj.mk (Value.type "code") none (Data.fields (List.toArray [(Value.str (S "table") 1029), (Value.str (S "Web.table") 1030), (Value.str (S "/claim/cut.py") 1031), (Value.int (Int.ofNat 405) 0), (Value.int (Int.ofNat 1) 0), (Value.int (Int.ofNat 0) 0), (Value.int (Int.ofNat 0) 0), (Value.int (Int.ofNat 3) 0), (R 639), (Value.bool true), (Value.int (Int.ofNat 181) 0), (R 640), Value.none, (R 641), (R 642), (R 643), (Value.int (Int.ofNat 1033) 0), (Value.int (Int.ofNat 405) 0), (Value.str (S "/claim/cut.py") 1034)])) (List.toArray [])
abbrev o645 (P : Params) : Obj := Obj.mk (Value.type "function") none (Data.func (FuncData.mk (S "table") (S "Web.table") (defArgs (M 76 4)) (FuncBody.stmts (defBody (M 76 4))) (defScope (M 76 4)) 3 [] Value.none Value.none Value.none (Value.str (S "budwright.webs") 940) none (R 644) Value.none 0)) (List.toArray [])
abbrev o646 (P : Params) : Obj := Obj.mk (Value.type "tuple") none (Data.seq (List.toArray []) 0) (List.toArray [])
abbrev o648 (P : Params) : Obj := Obj.mk (Value.type "tuple") none (Data.seq (List.toArray [(Value.str (S "self") 1039)]) 0) (List.toArray [])
abbrev o649 (P : Params) : Obj := Obj.mk (Value.type "tuple") none (Data.seq (List.toArray []) 0) (List.toArray [])
abbrev o651 (P : Params) : Obj := Obj.mk (Value.type "code") none (Data.fields (List.toArray [(Value.str (S "weights") 1036), (Value.str (S "Web.weights") 1037), (Value.str (S "/claim/cut.py") 1038), (Value.int (Int.ofNat 408) 0), (Value.int (Int.ofNat 1) 0), (Value.int (Int.ofNat 0) 0), (Value.int (Int.ofNat 0) 0), (Value.int (Int.ofNat 3) 0), (R 646), (Value.bool true), (Value.int (Int.ofNat 181) 0), (R 647), Value.none, (R 648), (R 649), (R 650), (Value.int (Int.ofNat 1040) 0), (Value.int (Int.ofNat 408) 0), (Value.str (S "/claim/cut.py") 1041)])) (List.toArray [])
abbrev o652 (P : Params) : Obj := Obj.mk (Value.type "function") none (Data.func (FuncData.mk (S "weights") (S "Web.weights") (defArgs (M 76 5)) (FuncBody.stmts (defBody (M 76 5))) (defScope (M 76 5)) 3 [] Value.none Value.none Value.none (Value.str (S "budwright.webs") 940) none (R 651) Value.none 0)) (List.toArray [])
abbrev o653 (P : Params) : Obj := Obj.mk (Value.type "tuple") none (Data.seq (List.toArray []) 0) (List.toArray [])
abbrev o655 (P : Params) : Obj := Obj.mk (Value.type "tuple") none (Data.seq (List.toArray [(Value.str (S "self") 1046)]) 0) (List.toArray [])
abbrev o656 (P : Params) : Obj := Obj.mk (Value.type "tuple") none (Data.seq (List.toArray []) 0) (List.toArray [])
abbrev o658 (P : Params) : Obj := Obj.mk (Value.type "code") none (Data.fields (List.toArray [(Value.str (S "places") 1043), (Value.str (S "Web.places") 1044), (Value.str (S "/claim/cut.py") 1045), (Value.int (Int.ofNat 411) 0), (Value.int (Int.ofNat 1) 0), (Value.int (Int.ofNat 0) 0), (Value.int (Int.ofNat 0) 0), (Value.int (Int.ofNat 3) 0), (R 653), (Value.bool true), (Value.int (Int.ofNat 181) 0), (R 654), Value.none, (R 655), (R 656), (R 657), (Value.int (Int.ofNat 1047) 0), (Value.int (Int.ofNat 411) 0), (Value.str (S "/claim/cut.py") 1048)])) (List.toArray [])
abbrev o659 (P : Params) : Obj := Obj.mk (Value.type "function") none (Data.func (FuncData.mk (S "places") (S "Web.places") (defArgs (M 76 6)) (FuncBody.stmts (defBody (M 76 6))) (defScope (M 76 6)) 3 [] Value.none Value.none Value.none (Value.str (S "budwright.webs") 940) none (R 658) Value.none 0)) (List.toArray [])
abbrev o660 (P : Params) : Obj := Obj.mk (Value.type "tuple") none (Data.seq (List.toArray []) 0) (List.toArray [])
abbrev o662 (P : Params) : Obj := Obj.mk (Value.type "tuple") none (Data.seq (List.toArray [(Value.str (S "self") 1053), (Value.str (S "place") 1054)]) 0) (List.toArray [])
abbrev o663 (P : Params) : Obj := Obj.mk (Value.type "tuple") none (Data.seq (List.toArray []) 0) (List.toArray [])
abbrev o665 (P : Params) : Obj := Obj.mk (Value.type "code") none (Data.fields (List.toArray [(Value.str (S "bud") 1050), (Value.str (S "Web.bud") 1051), (Value.str (S "/claim/cut.py") 1052), (Value.int (Int.ofNat 414) 0), (Value.int (Int.ofNat 2) 0), (Value.int (Int.ofNat 0) 0), (Value.int (Int.ofNat 0) 0), (Value.int (Int.ofNat 3) 0), (R 660), (Value.bool true), (Value.int (Int.ofNat 181) 0), (R 661), Value.none, (R 662), (R 663), (R 664), (Value.int (Int.ofNat 1055) 0), (Value.int (Int.ofNat 414) 0), (Value.str (S "/claim/cut.py") 1056)])) (List.toArray [])
abbrev o666 (P : Params) : Obj := Obj.mk (Value.type "function") none (Data.func (FuncData.mk (S "bud") (S "Web.bud") (defArgs (M 76 7)) (FuncBody.stmts (defBody (M 76 7))) (defScope (M 76 7)) 3 [] Value.none Value.none Value.none (Value.str (S "budwright.webs") 940) none (R 665) Value.none 0)) (List.toArray [])
abbrev o667 (P : Params) : Obj := Obj.mk (Value.type "tuple") none (Data.seq (List.toArray []) 0) (List.toArray [])
abbrev o669 (P : Params) : Obj := Obj.mk (Value.type "tuple") none (Data.seq (List.toArray [(Value.str (S "self") 1061)]) 0) (List.toArray [])
abbrev o670 (P : Params) : Obj := Obj.mk (Value.type "tuple") none (Data.seq (List.toArray []) 0) (List.toArray [])
abbrev o672 (P : Params) : Obj := Obj.mk (Value.type "code") none (Data.fields (List.toArray [(Value.str (S "buds") 1058), (Value.str (S "Web.buds") 1059), (Value.str (S "/claim/cut.py") 1060), (Value.int (Int.ofNat 419) 0), (Value.int (Int.ofNat 1) 0), (Value.int (Int.ofNat 0) 0), (Value.int (Int.ofNat 0) 0), (Value.int (Int.ofNat 3) 0), (R 667), (Value.bool true), (Value.int (Int.ofNat 181) 0), (R 668), Value.none, (R 669), (R 670), (R 671), (Value.int (Int.ofNat 1062) 0), (Value.int (Int.ofNat 419) 0), (Value.str (S "/claim/cut.py") 1063)])) (List.toArray [])
abbrev o673 (P : Params) : Obj := Obj.mk (Value.type "function") none (Data.func (FuncData.mk (S "buds") (S "Web.buds") (defArgs (M 76 8)) (FuncBody.stmts (defBody (M 76 8))) (defScope (M 76 8)) 3 [] Value.none Value.none Value.none (Value.str (S "budwright.webs") 940) none (R 672) Value.none 0)) (List.toArray [])
abbrev o674 (P : Params) : Obj := Obj.mk (Value.type "tuple") none (Data.seq (List.toArray []) 0) (List.toArray [])
abbrev o676 (P : Params) : Obj := Obj.mk (Value.type "tuple") none (Data.seq (List.toArray [(Value.str (S "self") 1068)]) 0) (List.toArray [])
abbrev o677 (P : Params) : Obj := Obj.mk (Value.type "tuple") none (Data.seq (List.toArray []) 0) (List.toArray [])
abbrev o679 (P : Params) : Obj := Obj.mk (Value.type "code") none (Data.fields (List.toArray [(Value.str (S "hues") 1065), (Value.str (S "Web.hues") 1066), (Value.str (S "/claim/cut.py") 1067), (Value.int (Int.ofNat 422) 0), (Value.int (Int.ofNat 1) 0), (Value.int (Int.ofNat 0) 0), (Value.int (Int.ofNat 0) 0), (Value.int (Int.ofNat 3) 0), (R 674), (Value.bool true), (Value.int (Int.ofNat 181) 0), (R 675), Value.none, (R 676), (R 677), (R 678), (Value.int (Int.ofNat 1069) 0), (Value.int (Int.ofNat 422) 0), (Value.str (S "/claim/cut.py") 1070)])) (List.toArray [])
abbrev o680 (P : Params) : Obj := Obj.mk (Value.type "function") none (Data.func (FuncData.mk (S "hues") (S "Web.hues") (defArgs (M 76 9)) (FuncBody.stmts (defBody (M 76 9))) (defScope (M 76 9)) 3 [] Value.none Value.none Value.none (Value.str (S "budwright.webs") 940) none (R 679) Value.none 0)) (List.toArray [])
abbrev o681 (P : Params) : Obj := Obj.mk (Value.type "tuple") none (Data.seq (List.toArray []) 0) (List.toArray [])
abbrev o683 (P : Params) : Obj := Obj.mk (Value.type "tuple") none (Data.seq (List.toArray [(Value.str (S "self") 1075)]) 0) (List.toArray [])
abbrev o684 (P : Params) : Obj := Obj.mk (Value.type "tuple") none (Data.seq (List.toArray []) 0) (List.toArray [])
abbrev o686 (P : Params) : Obj := Obj.mk (Value.type "code") none (Data.fields (List.toArray [(Value.str (S "leans") 1072), (Value.str (S "Web.leans") 1073), (Value.str (S "/claim/cut.py") 1074), (Value.int (Int.ofNat 425) 0), (Value.int (Int.ofNat 1) 0), (Value.int (Int.ofNat 0) 0), (Value.int (Int.ofNat 0) 0), (Value.int (Int.ofNat 3) 0), (R 681), (Value.bool true), (Value.int (Int.ofNat 181) 0), (R 682), Value.none, (R 683), (R 684), (R 685), (Value.int (Int.ofNat 1076) 0), (Value.int (Int.ofNat 425) 0), (Value.str (S "/claim/cut.py") 1077)])) (List.toArray [])
abbrev o687 (P : Params) : Obj := Obj.mk (Value.type "function") none (Data.func (FuncData.mk (S "leans") (S "Web.leans") (defArgs (M 76 10)) (FuncBody.stmts (defBody (M 76 10))) (defScope (M 76 10)) 3 [] Value.none Value.none Value.none (Value.str (S "budwright.webs") 940) none (R 686) Value.none 0)) (List.toArray [])
abbrev o688 (P : Params) : Obj := Obj.mk (Value.type "tuple") none (Data.seq (List.toArray []) 0) (List.toArray [])
abbrev o690 (P : Params) : Obj := Obj.mk (Value.type "tuple") none (Data.seq (List.toArray [(Value.str (S "self") 1082)]) 0) (List.toArray [])
abbrev o691 (P : Params) : Obj := Obj.mk (Value.type "tuple") none (Data.seq (List.toArray []) 0) (List.toArray [])
abbrev o693 (P : Params) : Obj := Obj.mk (Value.type "code") none (Data.fields (List.toArray [(Value.str (S "done") 1079), (Value.str (S "Web.done") 1080), (Value.str (S "/claim/cut.py") 1081), (Value.int (Int.ofNat 428) 0), (Value.int (Int.ofNat 1) 0), (Value.int (Int.ofNat 0) 0), (Value.int (Int.ofNat 0) 0), (Value.int (Int.ofNat 3) 0), (R 688), (Value.bool true), (Value.int (Int.ofNat 181) 0), (R 689), Value.none, (R 690), (R 691), (R 692), (Value.int (Int.ofNat 1083) 0), (Value.int (Int.ofNat 428) 0), (Value.str (S "/claim/cut.py") 1084)])) (List.toArray [])
abbrev o694 (P : Params) : Obj := Obj.mk (Value.type "function") none (Data.func (FuncData.mk (S "done") (S "Web.done") (defArgs (M 76 11)) (FuncBody.stmts (defBody (M 76 11))) (defScope (M 76 11)) 3 [] Value.none Value.none Value.none (Value.str (S "budwright.webs") 940) none (R 693) Value.none 0)) (List.toArray [])
abbrev o695 (P : Params) : Obj := Obj.mk (Value.type "tuple") none (Data.seq (List.toArray []) 0) (List.toArray [])
abbrev o697 (P : Params) : Obj := Obj.mk (Value.type "tuple") none (Data.seq (List.toArray [(Value.str (S "self") 1089), (Value.str (S "place") 1090)]) 0) (List.toArray [])
abbrev o698 (P : Params) : Obj := Obj.mk (Value.type "tuple") none (Data.seq (List.toArray []) 0) (List.toArray [])
abbrev o700 (P : Params) : Obj := Obj.mk (Value.type "code") none (Data.fields (List.toArray [(Value.str (S "hold") 1086), (Value.str (S "Web.hold") 1087), (Value.str (S "/claim/cut.py") 1088), (Value.int (Int.ofNat 431) 0), (Value.int (Int.ofNat 2) 0), (Value.int (Int.ofNat 0) 0), (Value.int (Int.ofNat 0) 0), (Value.int (Int.ofNat 3) 0), (R 695), (Value.bool true), (Value.int (Int.ofNat 181) 0), (R 696), Value.none, (R 697), (R 698), (R 699), (Value.int (Int.ofNat 1091) 0), (Value.int (Int.ofNat 431) 0), (Value.str (S "/claim/cut.py") 1092)])) (List.toArray [])
abbrev o701 (P : Params) : Obj := Obj.mk (Value.type "function") none (Data.func (FuncData.mk (S "hold") (S "Web.hold") (defArgs (M 76 12)) (FuncBody.stmts (defBody (M 76 12))) (defScope (M 76 12)) 3 [] Value.none Value.none Value.none (Value.str (S "budwright.webs") 940) none (R 700) Value.none 0)) (List.toArray [])
abbrev o702 (P : Params) : Obj := Obj.mk (Value.type "tuple") none (Data.seq (List.toArray []) 0) (List.toArray [])
abbrev o704 (P : Params) : Obj := Obj.mk (Value.type "tuple") none (Data.seq (List.toArray [(Value.str (S "self") 1097), (Value.str (S "place") 1098)]) 0) (List.toArray [])
abbrev o705 (P : Params) : Obj := Obj.mk (Value.type "tuple") none (Data.seq (List.toArray []) 0) (List.toArray [])
abbrev o707 (P : Params) : Obj := Obj.mk (Value.type "code") none (Data.fields (List.toArray [(Value.str (S "release") 1094), (Value.str (S "Web.release") 1095), (Value.str (S "/claim/cut.py") 1096), (Value.int (Int.ofNat 434) 0), (Value.int (Int.ofNat 2) 0), (Value.int (Int.ofNat 0) 0), (Value.int (Int.ofNat 0) 0), (Value.int (Int.ofNat 3) 0), (R 702), (Value.bool true), (Value.int (Int.ofNat 181) 0), (R 703), Value.none, (R 704), (R 705), (R 706), (Value.int (Int.ofNat 1099) 0), (Value.int (Int.ofNat 434) 0), (Value.str (S "/claim/cut.py") 1100)])) (List.toArray [])
abbrev o708 (P : Params) : Obj := Obj.mk (Value.type "function") none (Data.func (FuncData.mk (S "release") (S "Web.release") (defArgs (M 76 13)) (FuncBody.stmts (defBody (M 76 13))) (defScope (M 76 13)) 3 [] Value.none Value.none Value.none (Value.str (S "budwright.webs") 940) none (R 707) Value.none 0)) (List.toArray [])
abbrev o709 (P : Params) : Obj := Obj.mk (Value.type "tuple") none (Data.seq (List.toArray []) 0) (List.toArray [])
abbrev o711 (P : Params) : Obj := Obj.mk (Value.type "tuple") none (Data.seq (List.toArray [(Value.str (S "self") 1105)]) 0) (List.toArray [])
abbrev o712 (P : Params) : Obj := Obj.mk (Value.type "tuple") none (Data.seq (List.toArray []) 0) (List.toArray [])
abbrev o714 (P : Params) : Obj := Obj.mk (Value.type "code") none (Data.fields (List.toArray [(Value.str (S "held") 1102), (Value.str (S "Web.held") 1103), (Value.str (S "/claim/cut.py") 1104), (Value.int (Int.ofNat 437) 0), (Value.int (Int.ofNat 1) 0), (Value.int (Int.ofNat 0) 0), (Value.int (Int.ofNat 0) 0), (Value.int (Int.ofNat 3) 0), (R 709), (Value.bool true), (Value.int (Int.ofNat 181) 0), (R 710), Value.none, (R 711), (R 712), (R 713), (Value.int (Int.ofNat 1106) 0), (Value.int (Int.ofNat 437) 0), (Value.str (S "/claim/cut.py") 1107)])) (List.toArray [])
abbrev o715 (P : Params) : Obj := Obj.mk (Value.type "function") none (Data.func (FuncData.mk (S "held") (S "Web.held") (defArgs (M 76 14)) (FuncBody.stmts (defBody (M 76 14))) (defScope (M 76 14)) 3 [] Value.none Value.none Value.none (Value.str (S "budwright.webs") 940) none (R 714) Value.none 0)) (List.toArray [])
abbrev o716 (P : Params) : Obj := Obj.mk (Value.type "tuple") none (Data.seq (List.toArray []) 0) (List.toArray [])
abbrev o718 (P : Params) : Obj := Obj.mk (Value.type "tuple") none (Data.seq (List.toArray [(Value.str (S "self") 1112), (Value.str (S "order") 1113)]) 0) (List.toArray [])
abbrev o719 (P : Params) : Obj := Obj.mk (Value.type "tuple") none (Data.seq (List.toArray []) 0) (List.toArray [])
abbrev o721 (P : Params) : Obj := Obj.mk (Value.type "code") none (Data.fields (List.toArray [(Value.str (S "reorder") 1109), (Value.str (S "Web.reorder") 1110), (Value.str (S "/claim/cut.py") 1111), (Value.int (Int.ofNat 440) 0), (Value.int (Int.ofNat 2) 0), (Value.int (Int.ofNat 0) 0), (Value.int (Int.ofNat 0) 0), (Value.int (Int.ofNat 3) 0), (R 716), (Value.bool true), (Value.int (Int.ofNat 181) 0), (R 717), Value.none, (R 718), (R 719), (R 720), (Value.int (Int.ofNat 1114) 0), (Value.int (Int.ofNat 440) 0), (Value.str (S "/claim/cut.py") 1115)])) (List.toArray [])
abbrev o722 (P : Params) : Obj := Obj.mk (Value.type "function") none (Data.func (FuncData.mk (S "reorder") (S "Web.reorder") (defArgs (M 76 15)) (FuncBody.stmts (defBody (M 76 15))) (defScope (M 76 15)) 3 [] Value.none Value.none Value.none (Value.str (S "budwright.webs") 940) none (R 721) Value.none 0)) (List.toArray [])
abbrev o723 (P : Params) : Obj := Obj.mk (Value.type "tuple") none (Data.seq (List.toArray []) 0) (List.toArray [])
abbrev o725 (P : Params) : Obj := Obj.mk (Value.type "tuple") none (Data.seq (List.toArray [(Value.str (S "self") 1120), (Value.str (S "other") 1121)]) 0) (List.toArray [])
abbrev o726 (P : Params) : Obj := Obj.mk (Value.type "tuple") none (Data.seq (List.toArray []) 0) (List.toArray [])
abbrev o728 (P : Params) : Obj := Obj.mk (Value.type "code") none (Data.fields (List.toArray [(Value.str (S "alike") 1117), (Value.str (S "Web.alike") 1118), (Value.str (S "/claim/cut.py") 1119), (Value.int (Int.ofNat 443) 0), (Value.int (Int.ofNat 2) 0), (Value.int (Int.ofNat 0) 0), (Value.int (Int.ofNat 0) 0), (Value.int (Int.ofNat 3) 0), (R 723), (Value.bool true), (Value.int (Int.ofNat 181) 0), (R 724), Value.none, (R 725), (R 726), (R 727), (Value.int (Int.ofNat 1122) 0), (Value.int (Int.ofNat 443) 0), (Value.str (S "/claim/cut.py") 1123)])) (List.toArray [])
abbrev o729 (P : Params) : Obj := Obj.mk (Value.type "function") none (Data.func (FuncData.mk (S "alike") (S "Web.alike") (defArgs (M 76 16)) (FuncBody.stmts (defBody (M 76 16))) (defScope (M 76 16)) 3 [] Value.none Value.none Value.none (Value.str (S "budwright.webs") 940) none (R 728) Value.none 0)) (List.toArray [])
abbrev o730 (P : Params) : Obj := Obj.mk (Value.type "tuple") none (Data.seq (List.toArray []) 0) (List.toArray [])
abbrev o732 (P : Params) : Obj := Obj.mk (Value.type "tuple") none (Data.seq (List.toArray [(Value.str (S "self") 1128)]) 0) (List.toArray [])
abbrev o733 (P : Params) : Obj := Obj.mk (Value.type "tuple") none (Data.seq (List.toArray []) 0) (List.toArray [])
abbrev o735 (P : Params) : Obj := Obj.mk (Value.type "code") none (Data.fields (List.toArray [(Value.str (S "twin") 1125), (Value.str (S "Web.twin") 1126), (Value.str (S "/claim/cut.py") 1127), (Value.int (Int.ofNat 446) 0), (Value.int (Int.ofNat 1) 0), (Value.int (Int.ofNat 0) 0), (Value.int (Int.ofNat 0) 0), (Value.int (Int.ofNat 3) 0), (R 730), (Value.bool true), (Value.int (Int.ofNat 181) 0), (R 731), Value.none, (R 732), (R 733), (R 734), (Value.int (Int.ofNat 1129) 0), (Value.int (Int.ofNat 446) 0), (Value.str (S "/claim/cut.py") 1130)])) (List.toArray [])
abbrev o736 (P : Params) : Obj := Obj.mk (Value.type "function") none (Data.func (FuncData.mk (S "twin") (S "Web.twin") (defArgs (M 76 17)) (FuncBody.stmts (defBody (M 76 17))) (defScope (M 76 17)) 3 [] Value.none Value.none Value.none (Value.str (S "budwright.webs") 940) none (R 735) Value.none 0)) (List.toArray [])
abbrev o737 (P : Params) : Obj := Obj.mk (Value.type "tuple") none (Data.seq (List.toArray []) 0) (List.toArray [])
abbrev o739 (P : Params) : Obj := Obj.mk (Value.type "tuple") none (Data.seq (List.toArray [(Value.str (S "self") 1135)]) 0) (List.toArray [])
abbrev o740 (P : Params) : Obj := Obj.mk (Value.type "tuple") none (Data.seq (List.toArray []) 0) (List.toArray [])
abbrev o742 (P : Params) : Obj := Obj.mk (Value.type "code") none (Data.fields (List.toArray [(Value.str (S "__len__") 1132), (Value.str (S "Web.__len__") 1133), (Value.str (S "/claim/cut.py") 1134), (Value.int (Int.ofNat 449) 0), (Value.int (Int.ofNat 1) 0), (Value.int (Int.ofNat 0) 0), (Value.int (Int.ofNat 0) 0), (Value.int (Int.ofNat 3) 0), (R 737), (Value.bool true), (Value.int (Int.ofNat 181) 0), (R 738), Value.none, (R 739), (R 740), (R 741), (Value.int (Int.ofNat 1136) 0), (Value.int (Int.ofNat 449) 0), (Value.str (S "/claim/cut.py") 1137)])) (List.toArray [])
abbrev o743 (P : Params) : Obj := Obj.mk (Value.type "function") none (Data.func (FuncData.mk (S "__len__") (S "Web.__len__") (defArgs (M 76 18)) (FuncBody.stmts (defBody (M 76 18))) (defScope (M 76 18)) 3 [] Value.none Value.none Value.none (Value.str (S "budwright.webs") 940) none (R 742) Value.none 0)) (List.toArray [])
abbrev o744 (P : Params) : Obj := Obj.mk (Value.type "tuple") none (Data.seq (List.toArray []) 0) (List.toArray [])
abbrev o746 (P : Params) : Obj := Obj.mk (Value.type "tuple") none (Data.seq (List.toArray [(Value.str (S "self") 1142), (Value.str (S "other") 1143)]) 0) (List.toArray [])
abbrev o747 (P : Params) : Obj := Obj.mk (Value.type "tuple") none (Data.seq (List.toArray []) 0) (List.toArray [])
abbrev o749 (P : Params) : Obj := Obj.mk (Value.type "code") none (Data.fields (List.toArray [(Value.str (S "__eq__") 1139), (Value.str (S "Web.__eq__") 1140), (Value.str (S "/claim/cut.py") 1141), (Value.int (Int.ofNat 452) 0), (Value.int (Int.ofNat 2) 0), (Value.int (Int.ofNat 0) 0), (Value.int (Int.ofNat 0) 0), (Value.int (Int.ofNat 3) 0), (R 744), (Value.bool true), (Value.int (Int.ofNat 181) 0), (R 745), Value.none, (R 746), (R 747), (R 748), (Value.int (Int.ofNat 1144) 0), (Value.int (Int.ofNat 452) 0), (Value.str (S "/claim/cut.py") 1145)])) (List.toArray [])
abbrev o750 (P : Params) : Obj := Obj.mk (Value.type "function") none (Data.func (FuncData.mk (S "__eq__") (S "Web.__eq__") (defArgs (M 76 19)) (FuncBody.stmts (defBody (M 76 19))) (defScope (M 76 19)) 3 [] Value.none Value.none Value.none (Value.str (S "budwright.webs") 940) none (R 749) Value.none 0)) (List.toArray [])
abbrev o751 (P : Params) : Obj := Obj.mk (Value.type "tuple") none (Data.seq (List.toArray []) 0) (List.toArray [])
abbrev o753 (P : Params) : Obj := Obj.mk (Value.type "tuple") none (Data.seq (List.toArray [(Value.str (S "self") 1150)]) 0) (List.toArray [])
abbrev o754 (P : Params) : Obj := Obj.mk (Value.type "tuple") none (Data.seq (List.toArray []) 0) (List.toArray [])
abbrev o756 (P : Params) : Obj := Obj.mk (Value.type "code") none (Data.fields (List.toArray [(Value.str (S "__str__") 1147), (Value.str (S "Web.__str__") 1148), (Value.str (S "/claim/cut.py") 1149), (Value.int (Int.ofNat 455) 0), (Value.int (Int.ofNat 1) 0), (Value.int (Int.ofNat 0) 0), (Value.int (Int.ofNat 0) 0), (Value.int (Int.ofNat 3) 0), (R 751), (Value.bool true), (Value.int (Int.ofNat 181) 0), (R 752), Value.none, (R 753), (R 754), (R 755), (Value.int (Int.ofNat 1151) 0), (Value.int (Int.ofNat 455) 0), (Value.str (S "/claim/cut.py") 1152)])) (List.toArray [])
abbrev o757 (P : Params) : Obj := Obj.mk (Value.type "function") none (Data.func (FuncData.mk (S "__str__") (S "Web.__str__") (defArgs (M 76 20)) (FuncBody.stmts (defBody (M 76 20))) (defScope (M 76 20)) 3 [] Value.none Value.none Value.none (Value.str (S "budwright.webs") 940) none (R 756) Value.none 0)) (List.toArray [])
abbrev o758 (P : Params) : Obj := Obj.mk (Value.type "tuple") none (Data.seq (List.toArray []) 0) (List.toArray [])
abbrev o760 (P : Params) : Obj := Obj.mk (Value.type "tuple") none (Data.seq (List.toArray [(Value.str (S "self") 1157)]) 0) (List.toArray [])
abbrev o761 (P : Params) : Obj := Obj.mk (Value.type "tuple") none (Data.seq (List.toArray []) 0) (List.toArray [])
abbrev o763 (P : Params) : Obj := Obj.mk (Value.type "code") none (Data.fields (List.toArray [(Value.str (S "__repr__") 1154), (Value.str (S "Web.__repr__") 1155), (Value.str (S "/claim/cut.py") 1156), (Value.int (Int.ofNat 458) 0), (Value.int (Int.ofNat 1) 0), (Value.int (Int.ofNat 0) 0), (Value.int (Int.ofNat 0) 0), (Value.int (Int.ofNat 3) 0), (R 758), (Value.bool true), (Value.int (Int.ofNat 181) 0), (R 759), Value.none, (R 760), (R 761), (R 762), (Value.int (Int.ofNat 1158) 0), (Value.int (Int.ofNat 458) 0), (Value.str (S "/claim/cut.py") 1159)])) (List.toArray [])
abbrev o764 (P : Params) : Obj := Obj.mk (Value.type "function") none (Data.func (FuncData.mk (S "__repr__") (S "Web.__repr__") (defArgs (M 76 21)) (FuncBody.stmts (defBody (M 76 21))) (defScope (M 76 21)) 3 [] Value.none Value.none Value.none (Value.str (S "budwright.webs") 940) none (R 763) Value.none 0)) (List.toArray [])
abbrev o765 (P : Params) : Obj := Obj.mk (Value.type "tuple") none (Data.seq (List.toArray [(Value.str (S "kept") 1161), (Value.str (S "made") 1162), (Value.str (S "seed") 1163), (Value.str (S "standing") 1164)]) 0) (List.toArray [])
abbrev o766 (P : Params) : Obj := Obj.mk (Value.type "dict") none (Data.dict (List.toArray [E P "__module__" 986 (Value.str (S "budwright.webs") 940), E P "__firstlineno__" 990 (Value.int (Int.ofNat 372) 989), E P "__init__" 998 (R 617), E P "exchange" 1006 (R 624), E P "walk" 1019 (R 631), E P "check_exchange" 1028 (R 638), E P "table" 1035 (R 645), E P "weights" 1042 (R 652), E P "places" 1049 (R 659), E P "bud" 1057 (R 666), E P "buds" 1064 (R 673), E P "hues" 1071 (R 680), E P "leans" 1078 (R 687), E P "done" 1085 (R 694), E P "hold" 1093 (R 701), E P "release" 1101 (R 708), E P "held" 1108 (R 715), E P "reorder" 1116 (R 722), E P "alike" 1124 (R 729), E P "twin" 1131 (R 736), E P "__len__" 1138 (R 743), E P "__eq__" 1146 (R 750), E P "__str__" 1153 (R 757), E P "__repr__" 1160 (R 764), E P "__static_attributes__" 1165 (R 765), E P "__dict__" 1167 (R 768), E P "__weakref__" 1169 (R 769), E P "__doc__" 1170 Value.none, E P "__hash__" 1171 Value.none]) 5) (List.toArray [])
abbrev o767 (P : Params) : Obj := Obj.mk (Value.type "type") none (Data.cls (ClassData.mk (S "Web") [(Value.type "object")] [(R 767), (Value.type "object")] 766 (S "Web") true [] [] false none false)) (List.toArray [none, none, (some (Value.str (S "Web") 979)), (some (Value.str (S "Web") 987)), (some (Value.builtin "object.__new__")), (some (Value.bool true))])
abbrev o768 (P : Params) : Obj := Obj.mk (Value.type "getset_descriptor") none (Data.fields (List.toArray [(Value.str (S "__dict__") 1166), (R 767), (Value.builtin "function.__dict__"), (Value.builtin "function.__dict__#set")])) (List.toArray [])
abbrev o769 (P : Params) : Obj := Obj.mk (Value.type "getset_descriptor") none (Data.fields (List.toArray [(Value.str (S "__weakref__") 1168), (R 767), (Value.builtin "ExceptionGroup.__weakref__"), Value.none])) (List.toArray [])
abbrev o772 (P : Params) : Obj := Obj.mk (Value.type "tuple") none (Data.seq (List.toArray []) 0) (List.toArray [])
abbrev o774 (P : Params) : Obj := Obj.mk (Value.type "tuple") none (Data.seq (List.toArray [(Value.str (S "_law_script") 1179)]) 0) (List.toArray [])
abbrev o775 (P : Params) : Obj := Obj.mk (Value.type "tuple") none (Data.seq (List.toArray []) 0) (List.toArray [])
abbrev o777 (P : Params) : Obj := Obj.mk (Value.type "code") none (Data.fields (List.toArray [(Value.str (S "_law_feed") 1176), (Value.str (S "_law_feed") 1177), (Value.str (S "/claim/cut.py") 1178), (Value.int (Int.ofNat 461) 0), (Value.int (Int.ofNat 1) 0), (Value.int (Int.ofNat 0) 0), (Value.int (Int.ofNat 0) 0), (Value.int (Int.ofNat 3) 0), (R 772), (Value.bool true), (Value.int (Int.ofNat 181) 0), (R 773), Value.none, (R 774), (R 775), (R 776), (Value.int (Int.ofNat 1180) 0), (Value.int (Int.ofNat 461) 0), (Value.str (S "/claim/cut.py") 1181)])) (List.toArray [])
abbrev o778 (P : Params) : Obj := Obj.mk (Value.type "function") none (Data.func (FuncData.mk (S "_law_feed") (S "_law_feed") (defArgs (T 78)) (FuncBody.stmts (defBody (T 78))) (defScope (T 78)) 3 [] Value.none Value.none Value.none (Value.str (S "law_budwright_k17_webs_begun") 1174) none (R 777) Value.none 0)) (List.toArray [])
abbrev o779 (P : Params) : Obj := Obj.mk (Value.type "tuple") none (Data.seq (List.toArray []) 0) (List.toArray [])
abbrev o781 (P : Params) : Obj := Obj.mk (Value.type "tuple") none (Data.seq (List.toArray [(Value.str (S "_law_feed_here") 1186), (Value.str (S "_law_many") 1187), (Value.str (S "_law_cell") 1188), (Value.str (S "_law_digit") 1189), (Value.str (S "_law_mix") 1190)]) 0) (List.toArray [])
abbrev o782 (P : Params) : Obj := Obj.mk (Value.type "tuple") none (Data.seq (List.toArray []) 0) (List.toArray [])
abbrev o784 (P : Params) : Obj := Obj.mk (Value.type "code") none (Data.fields (List.toArray [(Value.str (S "_law_draw") 1183), (Value.str (S "_law_draw") 1184), (Value.str (S "/claim/cut.py") 1185), (Value.int (Int.ofNat 463) 0), (Value.int (Int.ofNat 2) 0), (Value.int (Int.ofNat 0) 0), (Value.int (Int.ofNat 0) 0), (Value.int (Int.ofNat 3) 0), (R 779), (Value.bool true), (Value.int (Int.ofNat 181) 0), (R 780), Value.none, (R 781), (R 782), (R 783), (Value.int (Int.ofNat 1191) 0), (Value.int (Int.ofNat 463) 0), (Value.str (S "/claim/cut.py") 1192)])) (List.toArray [])
abbrev o785 (P : Params) : Obj := Obj.mk (Value.type "function") none (Data.func (FuncData.mk (S "_law_draw") (S "_law_draw") (defArgs (T 79)) (FuncBody.stmts (defBody (T 79))) (defScope (T 79)) 3 [] Value.none Value.none Value.none (Value.str (S "law_budwright_k17_webs_begun") 1174) none (R 784) Value.none 0)) (List.toArray [])
abbrev o786 (P : Params) : Obj := Obj.mk (Value.type "tuple") none (Data.seq (List.toArray []) 0) (List.toArray [])
abbrev o788 (P : Params) : Obj := Obj.mk (Value.type "tuple") none (Data.seq (List.toArray [(Value.str (S "_law_feed_here") 1197), (Value.str (S "_law_row") 1198)]) 0) (List.toArray [])
abbrev o789 (P : Params) : Obj := Obj.mk (Value.type "tuple") none (Data.seq (List.toArray []) 0) (List.toArray [])
abbrev o791 (P : Params) : Obj := Obj.mk (Value.type "code") none (Data.fields (List.toArray [(Value.str (S "_law_pick") 1194), (Value.str (S "_law_pick") 1195), (Value.str (S "/claim/cut.py") 1196), (Value.int (Int.ofNat 480) 0), (Value.int (Int.ofNat 2) 0), (Value.int (Int.ofNat 0) 0), (Value.int (Int.ofNat 0) 0), (Value.int (Int.ofNat 3) 0), (R 786), (Value.bool true), (Value.int (Int.ofNat 181) 0), (R 787), Value.none, (R 788), (R 789), (R 790), (Value.int (Int.ofNat 1199) 0), (Value.int (Int.ofNat 480) 0), (Value.str (S "/claim/cut.py") 1200)])) (List.toArray [])
abbrev o792 (P : Params) : Obj := Obj.mk (Value.type "function") none (Data.func (FuncData.mk (S "_law_pick") (S "_law_pick") (defArgs (T 80)) (FuncBody.stmts (defBody (T 80))) (defScope (T 80)) 3 [] Value.none Value.none Value.none (Value.str (S "law_budwright_k17_webs_begun") 1174) none (R 791) Value.none 0)) (List.toArray [])
abbrev o793 (P : Params) : Obj := Obj.mk (Value.type "tuple") none (Data.seq (List.toArray []) 0) (List.toArray [])
abbrev o796 (P : Params) : Obj := Obj.mk (Value.type "code") none (Data.fields (List.toArray [(Value.str (S "_law_same") 1202), (Value.str (S "_law_same") 1203), (Value.str (S "/claim/cut.py") 1204), (Value.int (Int.ofNat 482) 0), (Value.int (Int.ofNat 2) 0), (Value.int (Int.ofNat 0) 0), (Value.int (Int.ofNat 0) 0), (Value.int (Int.ofNat 3) 0), (R 793), (Value.bool true), (Value.int (Int.ofNat 181) 0), (R 794), Value.none, Value.none, Value.none, (R 795), (Value.int (Int.ofNat 1205) 0), (Value.int (Int.ofNat 482) 0), (Value.str (S "/claim/cut.py") 1206)])) (List.toArray [])
abbrev o797 (P : Params) : Obj := Obj.mk (Value.type "function") none (Data.func (FuncData.mk (S "_law_same") (S "_law_same") (defArgs (T 81)) (FuncBody.stmts (defBody (T 81))) (defScope (T 81)) 3 [] Value.none Value.none Value.none (Value.str (S "law_budwright_k17_webs_begun") 1174) none (R 796) Value.none 0)) (List.toArray [])
abbrev o798 (P : Params) : Obj := Obj.mk (Value.type "tuple") none (Data.seq (List.toArray []) 0) (List.toArray [])
abbrev o800 (P : Params) : Obj := Obj.mk (Value.type "tuple") none (Data.seq (List.toArray [(Value.str (S "_law_one") 1211), (Value.str (S "_law_other") 1212)]) 0) (List.toArray [])
abbrev o801 (P : Params) : Obj := Obj.mk (Value.type "tuple") none (Data.seq (List.toArray []) 0) (List.toArray [])
abbrev o803 (P : Params) : Obj := Obj.mk (Value.type "code") none (Data.fields (List.toArray [(Value.str (S "_law_gcd") 1208), (Value.str (S "_law_gcd") 1209), (Value.str (S "/claim/cut.py") 1210), (Value.int (Int.ofNat 498) 0), (Value.int (Int.ofNat 2) 0), (Value.int (Int.ofNat 0) 0), (Value.int (Int.ofNat 0) 0), (Value.int (Int.ofNat 3) 0), (R 798), (Value.bool true), (Value.int (Int.ofNat 181) 0), (R 799), Value.none, (R 800), (R 801), (R 802), (Value.int (Int.ofNat 1213) 0), (Value.int (Int.ofNat 498) 0), (Value.str (S "/claim/cut.py") 1214)])) (List.toArray [])
abbrev o804 (P : Params) : Obj := Obj.mk (Value.type "function") none (Data.func (FuncData.mk (S "_law_gcd") (S "_law_gcd") (defArgs (T 82)) (FuncBody.stmts (defBody (T 82))) (defScope (T 82)) 3 [] Value.none Value.none Value.none (Value.str (S "law_budwright_k17_webs_begun") 1174) none (R 803) Value.none 0)) (List.toArray [])
abbrev o805 (P : Params) : Obj := Obj.mk (Value.type "tuple") none (Data.seq (List.toArray []) 0) (List.toArray [])
abbrev o808 (P : Params) : Obj := Obj.mk (Value.type "code") none (Data.fields (List.toArray [(Value.str (S "_law_told") 1216), (Value.str (S "_law_told") 1217), (Value.str (S "/claim/cut.py") 1218), (Value.int (Int.ofNat 502) 0), (Value.int (Int.ofNat 1) 0), (Value.int (Int.ofNat 0) 0), (Value.int (Int.ofNat 0) 0), (Value.int (Int.ofNat 3) 0), (R 805), (Value.bool true), (Value.int (Int.ofNat 181) 0), (R 806), Value.none, Value.none, Value.none, (R 807), (Value.int (Int.ofNat 1219) 0), (Value.int (Int.ofNat 502) 0), (Value.str (S "/claim/cut.py") 1220)])) (List.toArray [])
abbrev o809 (P : Params) : Obj := Obj.mk (Value.type "function") none (Data.func (FuncData.mk (S "_law_told") (S "_law_told") (defArgs (T 83)) (FuncBody.stmts (defBody (T 83))) (defScope (T 83)) 3 [] Value.none Value.none Value.none (Value.str (S "law_budwright_k17_webs_begun") 1174) none (R 808) Value.none 0)) (List.toArray [])
abbrev o810 (P : Params) : Obj := Obj.mk (Value.type "tuple") none (Data.seq (List.toArray []) 0) (List.toArray [])
abbrev o812 (P : Params) : Obj := Obj.mk (Value.type "tuple") none (Data.seq (List.toArray [(Value.str (S "_law_found") 1225), (Value.str (S "_law_width") 1226), (Value.str (S "_law_book") 1227)]) 0) (List.toArray [])
abbrev o813 (P : Params) : Obj := Obj.mk (Value.type "tuple") none (Data.seq (List.toArray []) 0) (List.toArray [])
abbrev o815 (P : Params) : Obj := Obj.mk (Value.type "code") none (Data.fields (List.toArray [(Value.str (S "_law_sum_is") 1222), (Value.str (S "_law_sum_is") 1223), (Value.str (S "/claim/cut.py") 1224), (Value.int (Int.ofNat 504) 0), (Value.int (Int.ofNat 3) 0), (Value.int (Int.ofNat 0) 0), (Value.int (Int.ofNat 0) 0), (Value.int (Int.ofNat 3) 0), (R 810), (Value.bool true), (Value.int (Int.ofNat 181) 0), (R 811), Value.none, (R 812), (R 813), (R 814), (Value.int (Int.ofNat 1228) 0), (Value.int (Int.ofNat 504) 0), (Value.str (S "/claim/cut.py") 1229)])) (List.toArray [])
abbrev o816 (P : Params) : Obj := Obj.mk (Value.type "function") none (Data.func (FuncData.mk (S "_law_sum_is") (S "_law_sum_is") (defArgs (T 84)) (FuncBody.stmts (defBody (T 84))) (defScope (T 84)) 3 [] Value.none Value.none Value.none (Value.str (S "law_budwright_k17_webs_begun") 1174) none (R 815) Value.none 0)) (List.toArray [])
abbrev o817 (P : Params) : Obj := Obj.mk (Value.type "tuple") none (Data.seq (List.toArray []) 0) (List.toArray [])
abbrev o820 (P : Params) : Obj := Obj.mk (Value.type "code") none (Data.fields (List.toArray [(Value.str (S "_law_even") 1231), (Value.str (S "_law_even") 1232), (Value.str (S "/claim/cut.py") 1233), (Value.int (Int.ofNat 508) 0), (Value.int (Int.ofNat 3) 0), (Value.int (Int.ofNat 0) 0), (Value.int (Int.ofNat 0) 0), (Value.int (Int.ofNat 3) 0), (R 817), (Value.bool true), (Value.int (Int.ofNat 181) 0), (R 818), Value.none, Value.none, Value.none, (R 819), (Value.int (Int.ofNat 1234) 0), (Value.int (Int.ofNat 508) 0), (Value.str (S "/claim/cut.py") 1235)])) (List.toArray [])
abbrev o821 (P : Params) : Obj := Obj.mk (Value.type "function") none (Data.func (FuncData.mk (S "_law_even") (S "_law_even") (defArgs (T 85)) (FuncBody.stmts (defBody (T 85))) (defScope (T 85)) 3 [] Value.none Value.none Value.none (Value.str (S "law_budwright_k17_webs_begun") 1174) none (R 820) Value.none 0)) (List.toArray [])
abbrev o822 (P : Params) : Obj := Obj.mk (Value.type "tuple") none (Data.seq (List.toArray []) 0) (List.toArray [])
abbrev o825 (P : Params) : Obj := Obj.mk (Value.type "code") none (Data.fields (List.toArray [(Value.str (S "_law_roots") 1237), (Value.str (S "_law_roots") 1238), (Value.str (S "/claim/cut.py") 1239), (Value.int (Int.ofNat 519) 0), (Value.int (Int.ofNat 4) 0), (Value.int (Int.ofNat 0) 0), (Value.int (Int.ofNat 0) 0), (Value.int (Int.ofNat 3) 0), (R 822), (Value.bool true), (Value.int (Int.ofNat 181) 0), (R 823), Value.none, Value.none, Value.none, (R 824), (Value.int (Int.ofNat 1240) 0), (Value.int (Int.ofNat 519) 0), (Value.str (S "/claim/cut.py") 1241)])) (List.toArray [])
abbrev o826 (P : Params) : Obj := Obj.mk (Value.type "function") none (Data.func (FuncData.mk (S "_law_roots") (S "_law_roots") (defArgs (T 86)) (FuncBody.stmts (defBody (T 86))) (defScope (T 86)) 3 [] Value.none Value.none Value.none (Value.str (S "law_budwright_k17_webs_begun") 1174) none (R 825) Value.none 0)) (List.toArray [])
abbrev o827 (P : Params) : Obj := Obj.mk (Value.type "tuple") none (Data.seq (List.toArray []) 0) (List.toArray [])
abbrev o829 (P : Params) : Obj := Obj.mk (Value.type "tuple") none (Data.seq (List.toArray [(Value.str (S "_law_feed_here") 1246), (Value.str (S "_law_most_buds") 1247), (Value.str (S "_law_most_roots") 1248), (Value.str (S "_law_ties") 1249)]) 0) (List.toArray [])
abbrev o830 (P : Params) : Obj := Obj.mk (Value.type "tuple") none (Data.seq (List.toArray []) 0) (List.toArray [])
abbrev o832 (P : Params) : Obj := Obj.mk (Value.type "code") none (Data.fields (List.toArray [(Value.str (S "_law_table") 1243), (Value.str (S "_law_table") 1244), (Value.str (S "/claim/cut.py") 1245), (Value.int (Int.ofNat 524) 0), (Value.int (Int.ofNat 3) 0), (Value.int (Int.ofNat 0) 0), (Value.int (Int.ofNat 0) 0), (Value.int (Int.ofNat 3) 0), (R 827), (Value.bool true), (Value.int (Int.ofNat 181) 0), (R 828), Value.none, (R 829), (R 830), (R 831), (Value.int (Int.ofNat 1250) 0), (Value.int (Int.ofNat 524) 0), (Value.str (S "/claim/cut.py") 1251)])) (List.toArray [])
abbrev o833 (P : Params) : Obj := Obj.mk (Value.type "function") none (Data.func (FuncData.mk (S "_law_table") (S "_law_table") (defArgs (T 87)) (FuncBody.stmts (defBody (T 87))) (defScope (T 87)) 3 [] Value.none Value.none Value.none (Value.str (S "law_budwright_k17_webs_begun") 1174) none (R 832) Value.none 0)) (List.toArray [])
abbrev o834 (P : Params) : Obj := Obj.mk (Value.type "tuple") none (Data.seq (List.toArray []) 0) (List.toArray [])
abbrev o837 (P : Params) : Obj := Obj.mk (Value.type "code") none (Data.fields (List.toArray [(Value.str (S "_law_unit") 1253), (Value.str (S "_law_unit") 1254), (Value.str (S "/claim/cut.py") 1255), (Value.int (Int.ofNat 527) 0), (Value.int (Int.ofNat 2) 0), (Value.int (Int.ofNat 0) 0), (Value.int (Int.ofNat 0) 0), (Value.int (Int.ofNat 3) 0), (R 834), (Value.bool true), (Value.int (Int.ofNat 181) 0), (R 835), Value.none, Value.none, Value.none, (R 836), (Value.int (Int.ofNat 1256) 0), (Value.int (Int.ofNat 527) 0), (Value.str (S "/claim/cut.py") 1257)])) (List.toArray [])
abbrev o838 (P : Params) : Obj := Obj.mk (Value.type "function") none (Data.func (FuncData.mk (S "_law_unit") (S "_law_unit") (defArgs (T 88)) (FuncBody.stmts (defBody (T 88))) (defScope (T 88)) 3 [] Value.none Value.none Value.none (Value.str (S "law_budwright_k17_webs_begun") 1174) none (R 837) Value.none 0)) (List.toArray [])
abbrev o839 (P : Params) : Obj := Obj.mk (Value.type "tuple") none (Data.seq (List.toArray []) 0) (List.toArray [])
abbrev o842 (P : Params) : Obj := Obj.mk (Value.type "code") none (Data.fields (List.toArray [(Value.str (S "_law_rows_text") 1259), (Value.str (S "_law_rows_text") 1260), (Value.str (S "/claim/cut.py") 1261), (Value.int (Int.ofNat 529) 0), (Value.int (Int.ofNat 1) 0), (Value.int (Int.ofNat 0) 0), (Value.int (Int.ofNat 0) 0), (Value.int (Int.ofNat 3) 0), (R 839), (Value.bool true), (Value.int (Int.ofNat 181) 0), (R 840), Value.none, Value.none, Value.none, (R 841), (Value.int (Int.ofNat 1262) 0), (Value.int (Int.ofNat 529) 0), (Value.str (S "/claim/cut.py") 1263)])) (List.toArray [])
abbrev o843 (P : Params) : Obj := Obj.mk (Value.type "function") none (Data.func (FuncData.mk (S "_law_rows_text") (S "_law_rows_text") (defArgs (T 89)) (FuncBody.stmts (defBody (T 89))) (defScope (T 89)) 3 [] Value.none Value.none Value.none (Value.str (S "law_budwright_k17_webs_begun") 1174) none (R 842) Value.none 0)) (List.toArray [])
abbrev o844 (P : Params) : Obj := Obj.mk (Value.type "tuple") none (Data.seq (List.toArray []) 0) (List.toArray [])
abbrev o846 (P : Params) : Obj := Obj.mk (Value.type "tuple") none (Data.seq (List.toArray [(Value.str (S "_law_feed_here") 1268), (Value.str (S "_law_web") 1269), (Value.str (S "_law_wide") 1270), (Value.str (S "_law_odd") 1271), (Value.str (S "_law_where") 1272), (Value.str (S "e") 1273)]) 0) (List.toArray [])
abbrev o847 (P : Params) : Obj := Obj.mk (Value.type "tuple") none (Data.seq (List.toArray []) 0) (List.toArray [])
abbrev o849 (P : Params) : Obj := Obj.mk (Value.type "code") none (Data.fields (List.toArray [(Value.str (S "_law_no_bud") 1265), (Value.str (S "_law_no_bud") 1266), (Value.str (S "/claim/cut.py") 1267), (Value.int (Int.ofNat 531) 0), (Value.int (Int.ofNat 3) 0), (Value.int (Int.ofNat 0) 0), (Value.int (Int.ofNat 0) 0), (Value.int (Int.ofNat 3) 0), (R 844), (Value.bool true), (Value.int (Int.ofNat 181) 0), (R 845), Value.none, (R 846), (R 847), (R 848), (Value.int (Int.ofNat 1274) 0), (Value.int (Int.ofNat 531) 0), (Value.str (S "/claim/cut.py") 1275)])) (List.toArray [])
abbrev o850 (P : Params) : Obj := Obj.mk (Value.type "function") none (Data.func (FuncData.mk (S "_law_no_bud") (S "_law_no_bud") (defArgs (T 90)) (FuncBody.stmts (defBody (T 90))) (defScope (T 90)) 3 [] Value.none Value.none Value.none (Value.str (S "law_budwright_k17_webs_begun") 1174) none (R 849) Value.none 0)) (List.toArray [])
abbrev o851 (P : Params) : Obj := Obj.mk (Value.type "tuple") none (Data.seq (List.toArray []) 0) (List.toArray [])
abbrev o854 (P : Params) : Obj := Obj.mk (Value.type "code") none (Data.fields (List.toArray [(Value.str (S "law") 1277), (Value.str (S "law") 1278), (Value.str (S "/claim/cut.py") 1279), (Value.int (Int.ofNat 541) 0), (Value.int (Int.ofNat 1) 0), (Value.int (Int.ofNat 0) 0), (Value.int (Int.ofNat 0) 0), (Value.int (Int.ofNat 3) 0), (R 851), (Value.bool true), (Value.int (Int.ofNat 181) 0), (R 852), Value.none, Value.none, Value.none, (R 853), (Value.int (Int.ofNat 1280) 0), (Value.int (Int.ofNat 541) 0), (Value.str (S "/claim/cut.py") 1281)])) (List.toArray [])
abbrev o855 (P : Params) : Obj := Obj.mk (Value.type "function") none (Data.func (FuncData.mk (S "law") (S "law") (defArgs (T 91)) (FuncBody.stmts (defBody (T 91))) (defScope (T 91)) 3 [] Value.none Value.none Value.none (Value.str (S "law_budwright_k17_webs_begun") 1174) none (R 854) Value.none 0)) (List.toArray [])
def K (P : Params) : Frag := (nat_lit 2, o2 P) :: (nat_lit 3, o3 P) :: (nat_lit 15, o15 P) :: (nat_lit 17, o17 P) :: (nat_lit 18, o18 P) :: (nat_lit 20, o20 P) :: (nat_lit 21, o21 P) :: (nat_lit 22, o22 P) :: (nat_lit 29, o29 P) :: (nat_lit 31, o31 P) :: (nat_lit 32, o32 P) :: (nat_lit 34, o34 P) :: (nat_lit 35, o35 P) :: (nat_lit 36, o36 P) :: (nat_lit 37, o37 P) :: (nat_lit 38, o38 P) :: (nat_lit 39, o39 P) :: (nat_lit 42, o42 P) :: (nat_lit 49, o49 P) :: (nat_lit 51, o51 P) :: (nat_lit 52, o52 P) :: (nat_lit 54, o54 P) :: (nat_lit 55, o55 P) :: (nat_lit 56, o56 P) :: (nat_lit 57, o57 P) :: (nat_lit 58, o58 P) :: (nat_lit 61, o61 P) :: (nat_lit 68, o68 P) :: (nat_lit 70, o70 P) :: (nat_lit 71, o71 P) :: (nat_lit 73, o73 P) :: (nat_lit 74, o74 P) :: (nat_lit 75, o75 P) :: (nat_lit 76, o76 P) :: (nat_lit 77, o77 P) :: (nat_lit 80, o80 P) :: (nat_lit 87, o87 P) :: (nat_lit 89, o89 P) :: (nat_lit 90, o90 P) :: (nat_lit 92, o92 P) :: (nat_lit 93, o93 P) :: (nat_lit 94, o94 P) :: (nat_lit 95, o95 P) :: (nat_lit 96, o96 P) :: (nat_lit 99, o99 P) :: (nat_lit 106, o106 P) :: (nat_lit 108, o108 P) :: (nat_lit 109, o109 P) :: (nat_lit 111, o111 P) :: (nat_lit 112, o112 P) :: (nat_lit 113, o113 P) :: (nat_lit 114, o114 P) :: (nat_lit 115, o115 P) :: (nat_lit 118, o118 P) :: (nat_lit 125, o125 P) :: (nat_lit 127, o127 P) :: (nat_lit 128, o128 P) :: (nat_lit 130, o130 P) :: (nat_lit 131, o131 P) :: (nat_lit 132, o132 P) :: (nat_lit 133, o133 P) :: (nat_lit 134, o134 P) :: (nat_lit 137, o137 P) :: (nat_lit 144, o144 P) :: (nat_lit 146, o146 P) :: (nat_lit 147, o147 P) :: (nat_lit 149, o149 P) :: (nat_lit 150, o150 P) :: (nat_lit 151, o151 P) :: (nat_lit 152, o152 P) :: (nat_lit 153, o153 P) :: (nat_lit 156, o156 P) :: (nat_lit 163, o163 P) :: (nat_lit 165, o165 P) :: (nat_lit 166, o166 P) :: (nat_lit 168, o168 P) :: (nat_lit 169, o169 P) :: (nat_lit 170, o170 P) :: (nat_lit 171, o171 P) :: (nat_lit 172, o172 P) :: (nat_lit 173, o173 P) :: (nat_lit 176, o176 P) :: (nat_lit 183, o183 P) :: (nat_lit 185, o185 P) :: (nat_lit 186, o186 P) :: (nat_lit 188, o188 P) :: (nat_lit 189, o189 P) :: (nat_lit 190, o190 P) :: (nat_lit 191, o191 P) :: (nat_lit 192, o192 P) :: (nat_lit 193, o193 P) :: (nat_lit 196, o196 P) :: (nat_lit 198, o198 P) :: (nat_lit 199, o199 P) :: (nat_lit 201, o201 P) :: (nat_lit 202, o202 P) :: (nat_lit 203, o203 P) :: (nat_lit 205, o205 P) :: (nat_lit 206, o206 P) :: (nat_lit 208, o208 P) :: (nat_lit 209, o209 P) :: (nat_lit 210, o210 P) :: (nat_lit 213, o213 P) :: (nat_lit 214, o214 P) :: (nat_lit 215, o215 P) :: (nat_lit 218, o218 P) :: (nat_lit 219, o219 P) :: (nat_lit 220, o220 P) :: (nat_lit 222, o222 P) :: (nat_lit 223, o223 P) :: (nat_lit 225, o225 P) :: (nat_lit 226, o226 P) :: (nat_lit 227, o227 P) :: (nat_lit 230, o230 P) :: (nat_lit 231, o231 P) :: (nat_lit 232, o232 P) :: (nat_lit 235, o235 P) :: (nat_lit 236, o236 P) :: (nat_lit 237, o237 P) :: (nat_lit 240, o240 P) :: (nat_lit 241, o241 P) :: (nat_lit 242, o242 P) :: (nat_lit 245, o245 P) :: (nat_lit 246, o246 P) :: (nat_lit 247, o247 P) :: (nat_lit 250, o250 P) :: (nat_lit 251, o251 P) :: (nat_lit 252, o252 P) :: (nat_lit 255, o255 P) :: (nat_lit 256, o256 P) :: (nat_lit 257, o257 P) :: (nat_lit 259, o259 P) :: (nat_lit 260, o260 P) :: (nat_lit 262, o262 P) :: (nat_lit 263, o263 P) :: (nat_lit 264, o264 P) :: (nat_lit 266, o266 P) :: (nat_lit 267, o267 P) :: (nat_lit 269, o269 P) :: (nat_lit 270, o270 P) :: (nat_lit 271, o271 P) :: (nat_lit 274, o274 P) :: (nat_lit 275, o275 P) :: (nat_lit 276, o276 P) :: (nat_lit 279, o279 P) :: (nat_lit 280, o280 P) :: (nat_lit 281, o281 P) :: (nat_lit 284, o284 P) :: (nat_lit 285, o285 P) :: (nat_lit 286, o286 P) :: (nat_lit 289, o289 P) :: (nat_lit 290, o290 P) :: (nat_lit 291, o291 P) :: (nat_lit 293, o293 P) :: (nat_lit 294, o294 P) :: (nat_lit 296, o296 P) :: (nat_lit 297, o297 P) :: (nat_lit 298, o298 P) :: (nat_lit 300, o300 P) :: (nat_lit 301, o301 P) :: (nat_lit 303, o303 P) :: (nat_lit 304, o304 P) :: (nat_lit 305, o305 P) :: (nat_lit 307, o307 P) :: (nat_lit 308, o308 P) :: (nat_lit 310, o310 P) :: (nat_lit 311, o311 P) :: (nat_lit 312, o312 P) :: (nat_lit 315, o315 P) :: (nat_lit 316, o316 P) :: (nat_lit 317, o317 P) :: (nat_lit 319, o319 P) :: (nat_lit 320, o320 P) :: (nat_lit 322, o322 P) :: (nat_lit 323, o323 P) :: (nat_lit 324, o324 P) :: (nat_lit 326, o326 P) :: (nat_lit 327, o327 P) :: (nat_lit 329, o329 P) :: (nat_lit 330, o330 P) :: (nat_lit 331, o331 P) :: (nat_lit 333, o333 P) :: (nat_lit 334, o334 P) :: (nat_lit 336, o336 P) :: (nat_lit 337, o337 P) :: (nat_lit 338, o338 P) :: (nat_lit 341, o341 P) :: (nat_lit 342, o342 P) :: (nat_lit 343, o343 P) :: (nat_lit 346, o346 P) :: (nat_lit 347, o347 P) :: (nat_lit 348, o348 P) :: (nat_lit 351, o351 P) :: (nat_lit 352, o352 P) :: (nat_lit 353, o353 P) :: (nat_lit 356, o356 P) :: (nat_lit 357, o357 P) :: (nat_lit 358, o358 P) :: (nat_lit 361, o361 P) :: (nat_lit 362, o362 P) :: (nat_lit 363, o363 P) :: (nat_lit 365, o365 P) :: (nat_lit 366, o366 P) :: (nat_lit 368, o368 P) :: (nat_lit 369, o369 P) :: (nat_lit 370, o370 P) :: (nat_lit 372, o372 P) :: (nat_lit 373, o373 P) :: (nat_lit 375, o375 P) :: (nat_lit 376, o376 P) :: (nat_lit 377, o377 P) :: (nat_lit 380, o380 P) :: (nat_lit 381, o381 P) :: (nat_lit 382, o382 P) :: (nat_lit 385, o385 P) :: (nat_lit 386, o386 P) :: (nat_lit 387, o387 P) :: (nat_lit 390, o390 P) :: (nat_lit 391, o391 P) :: (nat_lit 392, o392 P) :: (nat_lit 394, o394 P) :: (nat_lit 395, o395 P) :: (nat_lit 397, o397 P) :: (nat_lit 398, o398 P) :: (nat_lit 399, o399 P) :: (nat_lit 401, o401 P) :: (nat_lit 402, o402 P) :: (nat_lit 404, o404 P) :: (nat_lit 405, o405 P) :: (nat_lit 406, o406 P) :: (nat_lit 408, o408 P) :: (nat_lit 409, o409 P) :: (nat_lit 411, o411 P) :: (nat_lit 412, o412 P) :: (nat_lit 413, o413 P) :: (nat_lit 415, o415 P) :: (nat_lit 416, o416 P) :: (nat_lit 418, o418 P) :: (nat_lit 419, o419 P) :: (nat_lit 420, o420 P) :: (nat_lit 422, o422 P) :: (nat_lit 423, o423 P) :: (nat_lit 425, o425 P) :: (nat_lit 426, o426 P) :: (nat_lit 427, o427 P) :: (nat_lit 429, o429 P) :: (nat_lit 430, o430 P) :: (nat_lit 432, o432 P) :: (nat_lit 433, o433 P) :: (nat_lit 441, o441 P) :: (nat_lit 442, o442 P) :: (nat_lit 443, o443 P) :: (nat_lit 446, o446 P) :: (nat_lit 447, o447 P) :: (nat_lit 448, o448 P) :: (nat_lit 450, o450 P) :: (nat_lit 451, o451 P) :: (nat_lit 453, o453 P) :: (nat_lit 454, o454 P) :: (nat_lit 455, o455 P) :: (nat_lit 457, o457 P) :: (nat_lit 458, o458 P) :: (nat_lit 460, o460 P) :: (nat_lit 461, o461 P) :: (nat_lit 462, o462 P) :: (nat_lit 464, o464 P) :: (nat_lit 465, o465 P) :: (nat_lit 467, o467 P) :: (nat_lit 468, o468 P) :: (nat_lit 469, o469 P) :: (nat_lit 471, o471 P) :: (nat_lit 472, o472 P) :: (nat_lit 474, o474 P) :: (nat_lit 475, o475 P) :: (nat_lit 476, o476 P) :: (nat_lit 478, o478 P) :: (nat_lit 479, o479 P) :: (nat_lit 481, o481 P) :: (nat_lit 482, o482 P) :: (nat_lit 483, o483 P) :: (nat_lit 485, o485 P) :: (nat_lit 486, o486 P) :: (nat_lit 488, o488 P) :: (nat_lit 489, o489 P) :: (nat_lit 490, o490 P) :: (nat_lit 492, o492 P) :: (nat_lit 493, o493 P) :: (nat_lit 495, o495 P) :: (nat_lit 496, o496 P) :: (nat_lit 497, o497 P) :: (nat_lit 499, o499 P) :: (nat_lit 500, o500 P) :: (nat_lit 502, o502 P) :: (nat_lit 503, o503 P) :: (nat_lit 504, o504 P) :: (nat_lit 506, o506 P) :: (nat_lit 507, o507 P) :: (nat_lit 509, o509 P) :: (nat_lit 510, o510 P) :: (nat_lit 511, o511 P) :: (nat_lit 513, o513 P) :: (nat_lit 514, o514 P) :: (nat_lit 516, o516 P) :: (nat_lit 517, o517 P) :: (nat_lit 518, o518 P) :: (nat_lit 520, o520 P) :: (nat_lit 521, o521 P) :: (nat_lit 523, o523 P) :: (nat_lit 524, o524 P) :: (nat_lit 525, o525 P) :: (nat_lit 527, o527 P) :: (nat_lit 528, o528 P) :: (nat_lit 530, o530 P) :: (nat_lit 531, o531 P) :: (nat_lit 532, o532 P) :: (nat_lit 534, o534 P) :: (nat_lit 535, o535 P) :: (nat_lit 537, o537 P) :: (nat_lit 538, o538 P) :: (nat_lit 539, o539 P) :: (nat_lit 541, o541 P) :: (nat_lit 542, o542 P) :: (nat_lit 544, o544 P) :: (nat_lit 545, o545 P) :: (nat_lit 546, o546 P) :: (nat_lit 548, o548 P) :: (nat_lit 549, o549 P) :: (nat_lit 551, o551 P) :: (nat_lit 552, o552 P) :: (nat_lit 553, o553 P) :: (nat_lit 555, o555 P) :: (nat_lit 556, o556 P) :: (nat_lit 558, o558 P) :: (nat_lit 559, o559 P) :: (nat_lit 560, o560 P) :: (nat_lit 561, o561 P) :: (nat_lit 562, o562 P) :: (nat_lit 563, o563 P) :: (nat_lit 564, o564 P) :: (nat_lit 567, o567 P) :: (nat_lit 569, o569 P) :: (nat_lit 570, o570 P) :: (nat_lit 572, o572 P) :: (nat_lit 573, o573 P) :: (nat_lit 574, o574 P) :: (nat_lit 575, o575 P) :: (nat_lit 578, o578 P) :: (nat_lit 579, o579 P) :: (nat_lit 580, o580 P) :: (nat_lit 583, o583 P) :: (nat_lit 584, o584 P) :: (nat_lit 585, o585 P) :: (nat_lit 587, o587 P) :: (nat_lit 588, o588 P) :: (nat_lit 590, o590 P) :: (nat_lit 591, o591 P) :: (nat_lit 592, o592 P) :: (nat_lit 595, o595 P) :: (nat_lit 596, o596 P) :: (nat_lit 597, o597 P) :: (nat_lit 599, o599 P) :: (nat_lit 600, o600 P) :: (nat_lit 602, o602 P) :: (nat_lit 603, o603 P) :: (nat_lit 611, o611 P) :: (nat_lit 613, o613 P) :: (nat_lit 614, o614 P) :: (nat_lit 616, o616 P) :: (nat_lit 617, o617 P) :: (nat_lit 618, o618 P) :: (nat_lit 620, o620 P) :: (nat_lit 621, o621 P) :: (nat_lit 623, o623 P) :: (nat_lit 624, o624 P) :: (nat_lit 625, o625 P) :: (nat_lit 627, o627 P) :: (nat_lit 628, o628 P) :: (nat_lit 630, o630 P) :: (nat_lit 631, o631 P) :: (nat_lit 632, o632 P) :: (nat_lit 634, o634 P) :: (nat_lit 635, o635 P) :: (nat_lit 637, o637 P) :: (nat_lit 638, o638 P) :: (nat_lit 639, o639 P) :: (nat_lit 641, o641 P) :: (nat_lit 642, o642 P) :: (nat_lit 644, o644 P) :: (nat_lit 645, o645 P) :: (nat_lit 646, o646 P) :: (nat_lit 648, o648 P) :: (nat_lit 649, o649 P) :: (nat_lit 651, o651 P) :: (nat_lit 652, o652 P) :: (nat_lit 653, o653 P) :: (nat_lit 655, o655 P) :: (nat_lit 656, o656 P) :: (nat_lit 658, o658 P) :: (nat_lit 659, o659 P) :: (nat_lit 660, o660 P) :: (nat_lit 662, o662 P) :: (nat_lit 663, o663 P) :: (nat_lit 665, o665 P) :: (nat_lit 666, o666 P) :: (nat_lit 667, o667 P) :: (nat_lit 669, o669 P) :: (nat_lit 670, o670 P) :: (nat_lit 672, o672 P) :: (nat_lit 673, o673 P) :: (nat_lit 674, o674 P) :: (nat_lit 676, o676 P) :: (nat_lit 677, o677 P) :: (nat_lit 679, o679 P) :: (nat_lit 680, o680 P) :: (nat_lit 681, o681 P) :: (nat_lit 683, o683 P) :: (nat_lit 684, o684 P) :: (nat_lit 686, o686 P) :: (nat_lit 687, o687 P) :: (nat_lit 688, o688 P) :: (nat_lit 690, o690 P) :: (nat_lit 691, o691 P) :: (nat_lit 693, o693 P) :: (nat_lit 694, o694 P) :: (nat_lit 695, o695 P) :: (nat_lit 697, o697 P) :: (nat_lit 698, o698 P) :: (nat_lit 700, o700 P) :: (nat_lit 701, o701 P) :: (nat_lit 702, o702 P) :: (nat_lit 704, o704 P) :: (nat_lit 705, o705 P) :: (nat_lit 707, o707 P) :: (nat_lit 708, o708 P) :: (nat_lit 709, o709 P) :: (nat_lit 711, o711 P) :: (nat_lit 712, o712 P) :: (nat_lit 714, o714 P) :: (nat_lit 715, o715 P) :: (nat_lit 716, o716 P) :: (nat_lit 718, o718 P) :: (nat_lit 719, o719 P) :: (nat_lit 721, o721 P) :: (nat_lit 722, o722 P) :: (nat_lit 723, o723 P) :: (nat_lit 725, o725 P) :: (nat_lit 726, o726 P) :: (nat_lit 728, o728 P) :: (nat_lit 729, o729 P) :: (nat_lit 730, o730 P) :: (nat_lit 732, o732 P) :: (nat_lit 733, o733 P) :: (nat_lit 735, o735 P) :: (nat_lit 736, o736 P) :: (nat_lit 737, o737 P) :: (nat_lit 739, o739 P) :: (nat_lit 740, o740 P) :: (nat_lit 742, o742 P) :: (nat_lit 743, o743 P) :: (nat_lit 744, o744 P) :: (nat_lit 746, o746 P) :: (nat_lit 747, o747 P) :: (nat_lit 749, o749 P) :: (nat_lit 750, o750 P) :: (nat_lit 751, o751 P) :: (nat_lit 753, o753 P) :: (nat_lit 754, o754 P) :: (nat_lit 756, o756 P) :: (nat_lit 757, o757 P) :: (nat_lit 758, o758 P) :: (nat_lit 760, o760 P) :: (nat_lit 761, o761 P) :: (nat_lit 763, o763 P) :: (nat_lit 764, o764 P) :: (nat_lit 765, o765 P) :: (nat_lit 766, o766 P) :: (nat_lit 767, o767 P) :: (nat_lit 768, o768 P) :: (nat_lit 769, o769 P) :: (nat_lit 772, o772 P) :: (nat_lit 774, o774 P) :: (nat_lit 775, o775 P) :: (nat_lit 777, o777 P) :: (nat_lit 778, o778 P) :: (nat_lit 779, o779 P) :: (nat_lit 781, o781 P) :: (nat_lit 782, o782 P) :: (nat_lit 784, o784 P) :: (nat_lit 785, o785 P) :: (nat_lit 786, o786 P) :: (nat_lit 788, o788 P) :: (nat_lit 789, o789 P) :: (nat_lit 791, o791 P) :: (nat_lit 792, o792 P) :: (nat_lit 793, o793 P) :: (nat_lit 796, o796 P) :: (nat_lit 797, o797 P) :: (nat_lit 798, o798 P) :: (nat_lit 800, o800 P) :: (nat_lit 801, o801 P) :: (nat_lit 803, o803 P) :: (nat_lit 804, o804 P) :: (nat_lit 805, o805 P) :: (nat_lit 808, o808 P) :: (nat_lit 809, o809 P) :: (nat_lit 810, o810 P) :: (nat_lit 812, o812 P) :: (nat_lit 813, o813 P) :: (nat_lit 815, o815 P) :: (nat_lit 816, o816 P) :: (nat_lit 817, o817 P) :: (nat_lit 820, o820 P) :: (nat_lit 821, o821 P) :: (nat_lit 822, o822 P) :: (nat_lit 825, o825 P) :: (nat_lit 826, o826 P) :: (nat_lit 827, o827 P) :: (nat_lit 829, o829 P) :: (nat_lit 830, o830 P) :: (nat_lit 832, o832 P) :: (nat_lit 833, o833 P) :: (nat_lit 834, o834 P) :: (nat_lit 837, o837 P) :: (nat_lit 838, o838 P) :: (nat_lit 839, o839 P) :: (nat_lit 842, o842 P) :: (nat_lit 843, o843 P) :: (nat_lit 844, o844 P) :: (nat_lit 846, o846 P) :: (nat_lit 847, o847 P) :: (nat_lit 849, o849 P) :: (nat_lit 850, o850 P) :: (nat_lit 851, o851 P) :: (nat_lit 854, o854 P) :: (nat_lit 855, o855 P) :: []
def as : List Addr := nat_lit 2 :: nat_lit 3 :: nat_lit 15 :: nat_lit 17 :: nat_lit 18 :: nat_lit 20 :: nat_lit 21 :: nat_lit 22 :: nat_lit 29 :: nat_lit 31 :: nat_lit 32 :: nat_lit 34 :: nat_lit 35 :: nat_lit 36 :: nat_lit 37 :: nat_lit 38 :: nat_lit 39 :: nat_lit 42 :: nat_lit 49 :: nat_lit 51 :: nat_lit 52 :: nat_lit 54 :: nat_lit 55 :: nat_lit 56 :: nat_lit 57 :: nat_lit 58 :: nat_lit 61 :: nat_lit 68 :: nat_lit 70 :: nat_lit 71 :: nat_lit 73 :: nat_lit 74 :: nat_lit 75 :: nat_lit 76 :: nat_lit 77 :: nat_lit 80 :: nat_lit 87 :: nat_lit 89 :: nat_lit 90 :: nat_lit 92 :: nat_lit 93 :: nat_lit 94 :: nat_lit 95 :: nat_lit 96 :: nat_lit 99 :: nat_lit 106 :: nat_lit 108 :: nat_lit 109 :: nat_lit 111 :: nat_lit 112 :: nat_lit 113 :: nat_lit 114 :: nat_lit 115 :: nat_lit 118 :: nat_lit 125 :: nat_lit 127 :: nat_lit 128 :: nat_lit 130 :: nat_lit 131 :: nat_lit 132 :: nat_lit 133 :: nat_lit 134 :: nat_lit 137 :: nat_lit 144 :: nat_lit 146 :: nat_lit 147 :: nat_lit 149 :: nat_lit 150 :: nat_lit 151 :: nat_lit 152 :: nat_lit 153 :: nat_lit 156 :: nat_lit 163 :: nat_lit 165 :: nat_lit 166 :: nat_lit 168 :: nat_lit 169 :: nat_lit 170 :: nat_lit 171 :: nat_lit 172 :: nat_lit 173 :: nat_lit 176 :: nat_lit 183 :: nat_lit 185 :: nat_lit 186 :: nat_lit 188 :: nat_lit 189 :: nat_lit 190 :: nat_lit 191 :: nat_lit 192 :: nat_lit 193 :: nat_lit 196 :: nat_lit 198 :: nat_lit 199 :: nat_lit 201 :: nat_lit 202 :: nat_lit 203 :: nat_lit 205 :: nat_lit 206 :: nat_lit 208 :: nat_lit 209 :: nat_lit 210 :: nat_lit 213 :: nat_lit 214 :: nat_lit 215 :: nat_lit 218 :: nat_lit 219 :: nat_lit 220 :: nat_lit 222 :: nat_lit 223 :: nat_lit 225 :: nat_lit 226 :: nat_lit 227 :: nat_lit 230 :: nat_lit 231 :: nat_lit 232 :: nat_lit 235 :: nat_lit 236 :: nat_lit 237 :: nat_lit 240 :: nat_lit 241 :: nat_lit 242 :: nat_lit 245 :: nat_lit 246 :: nat_lit 247 :: nat_lit 250 :: nat_lit 251 :: nat_lit 252 :: nat_lit 255 :: nat_lit 256 :: nat_lit 257 :: nat_lit 259 :: nat_lit 260 :: nat_lit 262 :: nat_lit 263 :: nat_lit 264 :: nat_lit 266 :: nat_lit 267 :: nat_lit 269 :: nat_lit 270 :: nat_lit 271 :: nat_lit 274 :: nat_lit 275 :: nat_lit 276 :: nat_lit 279 :: nat_lit 280 :: nat_lit 281 :: nat_lit 284 :: nat_lit 285 :: nat_lit 286 :: nat_lit 289 :: nat_lit 290 :: nat_lit 291 :: nat_lit 293 :: nat_lit 294 :: nat_lit 296 :: nat_lit 297 :: nat_lit 298 :: nat_lit 300 :: nat_lit 301 :: nat_lit 303 :: nat_lit 304 :: nat_lit 305 :: nat_lit 307 :: nat_lit 308 :: nat_lit 310 :: nat_lit 311 :: nat_lit 312 :: nat_lit 315 :: nat_lit 316 :: nat_lit 317 :: nat_lit 319 :: nat_lit 320 :: nat_lit 322 :: nat_lit 323 :: nat_lit 324 :: nat_lit 326 :: nat_lit 327 :: nat_lit 329 :: nat_lit 330 :: nat_lit 331 :: nat_lit 333 :: nat_lit 334 :: nat_lit 336 :: nat_lit 337 :: nat_lit 338 :: nat_lit 341 :: nat_lit 342 :: nat_lit 343 :: nat_lit 346 :: nat_lit 347 :: nat_lit 348 :: nat_lit 351 :: nat_lit 352 :: nat_lit 353 :: nat_lit 356 :: nat_lit 357 :: nat_lit 358 :: nat_lit 361 :: nat_lit 362 :: nat_lit 363 :: nat_lit 365 :: nat_lit 366 :: nat_lit 368 :: nat_lit 369 :: nat_lit 370 :: nat_lit 372 :: nat_lit 373 :: nat_lit 375 :: nat_lit 376 :: nat_lit 377 :: nat_lit 380 :: nat_lit 381 :: nat_lit 382 :: nat_lit 385 :: nat_lit 386 :: nat_lit 387 :: nat_lit 390 :: nat_lit 391 :: nat_lit 392 :: nat_lit 394 :: nat_lit 395 :: nat_lit 397 :: nat_lit 398 :: nat_lit 399 :: nat_lit 401 :: nat_lit 402 :: nat_lit 404 :: nat_lit 405 :: nat_lit 406 :: nat_lit 408 :: nat_lit 409 :: nat_lit 411 :: nat_lit 412 :: nat_lit 413 :: nat_lit 415 :: nat_lit 416 :: nat_lit 418 :: nat_lit 419 :: nat_lit 420 :: nat_lit 422 :: nat_lit 423 :: nat_lit 425 :: nat_lit 426 :: nat_lit 427 :: nat_lit 429 :: nat_lit 430 :: nat_lit 432 :: nat_lit 433 :: nat_lit 441 :: nat_lit 442 :: nat_lit 443 :: nat_lit 446 :: nat_lit 447 :: nat_lit 448 :: nat_lit 450 :: nat_lit 451 :: nat_lit 453 :: nat_lit 454 :: nat_lit 455 :: nat_lit 457 :: nat_lit 458 :: nat_lit 460 :: nat_lit 461 :: nat_lit 462 :: nat_lit 464 :: nat_lit 465 :: nat_lit 467 :: nat_lit 468 :: nat_lit 469 :: nat_lit 471 :: nat_lit 472 :: nat_lit 474 :: nat_lit 475 :: nat_lit 476 :: nat_lit 478 :: nat_lit 479 :: nat_lit 481 :: nat_lit 482 :: nat_lit 483 :: nat_lit 485 :: nat_lit 486 :: nat_lit 488 :: nat_lit 489 :: nat_lit 490 :: nat_lit 492 :: nat_lit 493 :: nat_lit 495 :: nat_lit 496 :: nat_lit 497 :: nat_lit 499 :: nat_lit 500 :: nat_lit 502 :: nat_lit 503 :: nat_lit 504 :: nat_lit 506 :: nat_lit 507 :: nat_lit 509 :: nat_lit 510 :: nat_lit 511 :: nat_lit 513 :: nat_lit 514 :: nat_lit 516 :: nat_lit 517 :: nat_lit 518 :: nat_lit 520 :: nat_lit 521 :: nat_lit 523 :: nat_lit 524 :: nat_lit 525 :: nat_lit 527 :: nat_lit 528 :: nat_lit 530 :: nat_lit 531 :: nat_lit 532 :: nat_lit 534 :: nat_lit 535 :: nat_lit 537 :: nat_lit 538 :: nat_lit 539 :: nat_lit 541 :: nat_lit 542 :: nat_lit 544 :: nat_lit 545 :: nat_lit 546 :: nat_lit 548 :: nat_lit 549 :: nat_lit 551 :: nat_lit 552 :: nat_lit 553 :: nat_lit 555 :: nat_lit 556 :: nat_lit 558 :: nat_lit 559 :: nat_lit 560 :: nat_lit 561 :: nat_lit 562 :: nat_lit 563 :: nat_lit 564 :: nat_lit 567 :: nat_lit 569 :: nat_lit 570 :: nat_lit 572 :: nat_lit 573 :: nat_lit 574 :: nat_lit 575 :: nat_lit 578 :: nat_lit 579 :: nat_lit 580 :: nat_lit 583 :: nat_lit 584 :: nat_lit 585 :: nat_lit 587 :: nat_lit 588 :: nat_lit 590 :: nat_lit 591 :: nat_lit 592 :: nat_lit 595 :: nat_lit 596 :: nat_lit 597 :: nat_lit 599 :: nat_lit 600 :: nat_lit 602 :: nat_lit 603 :: nat_lit 611 :: nat_lit 613 :: nat_lit 614 :: nat_lit 616 :: nat_lit 617 :: nat_lit 618 :: nat_lit 620 :: nat_lit 621 :: nat_lit 623 :: nat_lit 624 :: nat_lit 625 :: nat_lit 627 :: nat_lit 628 :: nat_lit 630 :: nat_lit 631 :: nat_lit 632 :: nat_lit 634 :: nat_lit 635 :: nat_lit 637 :: nat_lit 638 :: nat_lit 639 :: nat_lit 641 :: nat_lit 642 :: nat_lit 644 :: nat_lit 645 :: nat_lit 646 :: nat_lit 648 :: nat_lit 649 :: nat_lit 651 :: nat_lit 652 :: nat_lit 653 :: nat_lit 655 :: nat_lit 656 :: nat_lit 658 :: nat_lit 659 :: nat_lit 660 :: nat_lit 662 :: nat_lit 663 :: nat_lit 665 :: nat_lit 666 :: nat_lit 667 :: nat_lit 669 :: nat_lit 670 :: nat_lit 672 :: nat_lit 673 :: nat_lit 674 :: nat_lit 676 :: nat_lit 677 :: nat_lit 679 :: nat_lit 680 :: nat_lit 681 :: nat_lit 683 :: nat_lit 684 :: nat_lit 686 :: nat_lit 687 :: nat_lit 688 :: nat_lit 690 :: nat_lit 691 :: nat_lit 693 :: nat_lit 694 :: nat_lit 695 :: nat_lit 697 :: nat_lit 698 :: nat_lit 700 :: nat_lit 701 :: nat_lit 702 :: nat_lit 704 :: nat_lit 705 :: nat_lit 707 :: nat_lit 708 :: nat_lit 709 :: nat_lit 711 :: nat_lit 712 :: nat_lit 714 :: nat_lit 715 :: nat_lit 716 :: nat_lit 718 :: nat_lit 719 :: nat_lit 721 :: nat_lit 722 :: nat_lit 723 :: nat_lit 725 :: nat_lit 726 :: nat_lit 728 :: nat_lit 729 :: nat_lit 730 :: nat_lit 732 :: nat_lit 733 :: nat_lit 735 :: nat_lit 736 :: nat_lit 737 :: nat_lit 739 :: nat_lit 740 :: nat_lit 742 :: nat_lit 743 :: nat_lit 744 :: nat_lit 746 :: nat_lit 747 :: nat_lit 749 :: nat_lit 750 :: nat_lit 751 :: nat_lit 753 :: nat_lit 754 :: nat_lit 756 :: nat_lit 757 :: nat_lit 758 :: nat_lit 760 :: nat_lit 761 :: nat_lit 763 :: nat_lit 764 :: nat_lit 765 :: nat_lit 766 :: nat_lit 767 :: nat_lit 768 :: nat_lit 769 :: nat_lit 772 :: nat_lit 774 :: nat_lit 775 :: nat_lit 777 :: nat_lit 778 :: nat_lit 779 :: nat_lit 781 :: nat_lit 782 :: nat_lit 784 :: nat_lit 785 :: nat_lit 786 :: nat_lit 788 :: nat_lit 789 :: nat_lit 791 :: nat_lit 792 :: nat_lit 793 :: nat_lit 796 :: nat_lit 797 :: nat_lit 798 :: nat_lit 800 :: nat_lit 801 :: nat_lit 803 :: nat_lit 804 :: nat_lit 805 :: nat_lit 808 :: nat_lit 809 :: nat_lit 810 :: nat_lit 812 :: nat_lit 813 :: nat_lit 815 :: nat_lit 816 :: nat_lit 817 :: nat_lit 820 :: nat_lit 821 :: nat_lit 822 :: nat_lit 825 :: nat_lit 826 :: nat_lit 827 :: nat_lit 829 :: nat_lit 830 :: nat_lit 832 :: nat_lit 833 :: nat_lit 834 :: nat_lit 837 :: nat_lit 838 :: nat_lit 839 :: nat_lit 842 :: nat_lit 843 :: nat_lit 844 :: nat_lit 846 :: nat_lit 847 :: nat_lit 849 :: nat_lit 850 :: nat_lit 851 :: nat_lit 854 :: nat_lit 855 :: []

abbrev qv : Program := view Rw.prog [91]
def names0 : List PySem.Str := [PySem.Str.ofString "_wall", PySem.Str.ofString "__name__", PySem.Str.ofString "BudError", PySem.Str.ofString "BadSum", PySem.Str.ofString "BadTable", PySem.Str.ofString "Uneven", PySem.Str.ofString "Great", PySem.Str.ofString "Held", PySem.Str.ofString "Full", PySem.Str.ofString "NoPart", PySem.Str.ofString "NoPlace", PySem.Str.ofString "CHUNK_FIGURES", PySem.Str.ofString "CHUNK", PySem.Str.ofString "is_number", PySem.Str.ofString "whole_text"]
def names1 : List PySem.Str := [PySem.Str.ofString "row_text", PySem.Str.ofString "rows_text", PySem.Str.ofString "common", PySem.Str.ofString "added_powers", PySem.Str.ofString "lessened_powers", PySem.Str.ofString "gathered", PySem.Str.ofString "lowest_powers", PySem.Str.ofString "highest_powers", PySem.Str.ofString "multiplied", PySem.Str.ofString "multiplied_within", PySem.Str.ofString "taken_off", PySem.Str.ofString "quotient", PySem.Str.ofString "weighed", PySem.Str.ofString "MOST_TIE", PySem.Str.ofString "MOST_BUDS"]
def names2 : List PySem.Str := [PySem.Str.ofString "MOST_ROOTS", PySem.Str.ofString "is_row", PySem.Str.ofString "check_form", PySem.Str.ofString "check_table", PySem.Str.ofString "check_bud", PySem.Str.ofString "bud_count", PySem.Str.ofString "unlike_rows", PySem.Str.ofString "pair_bars", PySem.Str.ofString "ring_bars", PySem.Str.ofString "barred", PySem.Str.ofString "lot_weights", PySem.Str.ofString "weights", PySem.Str.ofString "weights_tables", PySem.Str.ofString "turned_row", PySem.Str.ofString "turned_table"]
def names3 : List PySem.Str := [PySem.Str.ofString "unit_rows", PySem.Str.ofString "first_seed", PySem.Str.ofString "sign_of", PySem.Str.ofString "minus", PySem.Str.ofString "added_often", PySem.Str.ofString "turned_hues", PySem.Str.ofString "fresh_lean", PySem.Str.ofString "turned_leans", PySem.Str.ofString "turned_seed", PySem.Str.ofString "LETTERS", PySem.Str.ofString "letters_text", PySem.Str.ofString "product_text", PySem.Str.ofString "sum_pieces", PySem.Str.ofString "WIDE", PySem.Str.ofString "Sum"]
def names4 : List PySem.Str := [PySem.Str.ofString "check_width", PySem.Str.ofString "letter", PySem.Str.ofString "MOST_TERMS", PySem.Str.ofString "MOST_WALK", PySem.Str.ofString "first_sums", PySem.Str.ofString "side_products", PySem.Str.ofString "new_bud", PySem.Str.ofString "exchanged", PySem.Str.ofString "Web", PySem.Str.ofString "_law_feed", PySem.Str.ofString "_law_draw", PySem.Str.ofString "_law_pick", PySem.Str.ofString "_law_same", PySem.Str.ofString "_law_gcd", PySem.Str.ofString "_law_told"]
def names5 : List PySem.Str := [PySem.Str.ofString "_law_sum_is", PySem.Str.ofString "_law_even", PySem.Str.ofString "_law_roots", PySem.Str.ofString "_law_table", PySem.Str.ofString "_law_unit", PySem.Str.ofString "_law_rows_text", PySem.Str.ofString "_law_no_bud"]
def names : List PySem.Str := names0 ++ (names1 ++ (names2 ++ (names3 ++ (names4 ++ (names5)))))

theorem as_eq (P : Params) : as = (K P).map (·.1) := rfl
abbrev hk : Hook := kHook K as as_eq
def ob (s : SharedT) : hk.α := as.map (HandSHeadRun.getT s)
theorem ob_eq (s : SharedT) : ob s = hk.obs s.abs := List.map_congr_left fun a _ => HandSHeadRun.getT_eq s a
theorem run (w : World) : HandSHeadRun.RunEq Rw qv hk ob 7000 names w := by
  intro os
  kernel_rfl
end Hd
set_option Elab.async false
set_option linter.all false
set_option maxRecDepth 100000
set_option maxHeartbeats 2000000
namespace Bw
open PySem PySem.Spec PyProof.Rows L2
section
variable {P : Program} {w : World} {K : PySem.W.Frag} {mg : Str → Option Value} {base : Heap}
abbrev s_law_draw : Stmt := topS 79
abbrev n_law_draw : List Str := ["_law_feed_here", "_law_many", "_law_cell", "_law_digit", "_law_mix"]
theorem sc_law_draw : FnScope n_law_draw ["_law_feed_here", "_law_many"] (defScope s_law_draw) := ⟨rfl, rfl, rfl, by decide +kernel, rfl, by decide +kernel, by decide +kernel⟩
def spDraw : Sp := fun vs H Q _ => ∃ (f l : Addr) (n : Int), vs = [.ref f, .int n] ∧ FeedAt H f l ∧ 0 < n ∧ n < 1073741824 ∧ ∀ (v : Int) (H' : Hp), 0 ≤ v → v < n → SameBut f H H' → FeedAt H' f l → Q (.int v) H'
theorem ok_draw {f : Addr} {fd : FuncData} {k : Nat} (F : Fun K "_law_draw" "_law_draw" s_law_draw f fd) (T : Tx mg) : FnOk P w K mg base CX0 (k + 1) f fd ["_law_feed_here", "_law_many"] spDraw := by
  refine F.ok sc_law_draw (fun vs H Q E h => ?_) (fun cdv A outer s H vs Q E hr h => ?_)
  · obtain ⟨f, l, n, rfl, _⟩ := h
    rfl
  · obtain ⟨f, l, r, rfl, ⟨ns, i, n, m, c, nlf, hf, hl, hi, hn, hm, hm2⟩, hr0, hr1, q⟩ := h
    refine ⟨_, (C8.pss_cut (ps_if (PW.pt (pw_and (pt_cmpR op_eq (pe_ix ix_list (pv 0) pe_int (fun _ _ => rfl)) pe_int (nomark _)) (pw_and1 (pt_cmpR op_lt (pe_ix ix_list (pv 0) pe_int (fun _ _ => rfl)) (pe_callB call_len_seq (by rfl) T.len PySem.boot_len (pa_cons (pe_ix ix_list (pv 0) pe_int (fun _ _ => rfl)) pa_nil)) (nomark _)))))
    (pss_cons (ps_set (i := 2) sc_law_draw.nd rfl (.inl rfl) (pe_ix ix_list (pe_ix ix_list (pv 0) pe_int (fun _ _ => rfl)) (pe_ix ix_list (pv 0) pe_int (fun _ _ => rfl)) (fun _ _ => rfl)))
    (pss_cons (ps_asg (pe_op op_add (pe_ix ix_list (pv 0) pe_int (fun _ _ => rfl)) pe_int) (pg_sub (pv 0) pe_int set_list))
    (pss_one (ps_if (pt_cmpR op_ge (pv 2) (pe_op op_pow pe_int pe_int) (nomark _))
      (pss_one (ps_asg (pv 2) (pg_sub (pv 0) pe_int set_list)))
      (pss_one (ps_asg (pe_op op_mod (pe_op op_add (pe_op op_add (pe_op op_mul (pe_ix ix_list (pv 0) pe_int (fun _ _ => rfl)) pe_int) (pe_op op_mul (pe_op op_mod (pv 2) pe_int) pe_int)) pe_int) pe_int) (pg_sub (pv 0) pe_int set_list)))))))
    pss_nil)
  (pss_cons (ps_if (pt_cmpR op_gt (pe_ix ix_list (pv 0) pe_int (fun _ _ => rfl)) pe_int (nomark _))
    (pss_cons (ps_set (i := 3) sc_law_draw.nd rfl (.inl rfl) (pe_op op_mod (pe_ix ix_list (pv 0) pe_int (fun _ _ => rfl)) (pv 1)))
    (pss_cons (ps_asg (pe_op op_fdiv (pe_ix ix_list (pv 0) pe_int (fun _ _ => rfl)) (pv 1)) (pg_sub (pv 0) pe_int set_list))
    (pss_one (ps_ret (pv 3)))))
    pss_nil)
  (pss_cons (ps_asg (pe_op op_add (pe_ix ix_list (pv 0) pe_int (fun _ _ => rfl)) pe_int) (pg_sub (pv 0) pe_int set_list))
  (pss_cons (ps_set (i := 4) sc_law_draw.nd rfl (.inl rfl) (pe_ix ix_list (pv 0) pe_int (fun _ _ => rfl)))
  (pss_cons (ps_set (i := 4) sc_law_draw.nd rfl (.inl rfl) (pe_op op_add (pe_op op_add (pe_op op_add (pe_op op_mul (pe_op op_mod (pe_op op_mul (pv 4) (pv 4)) pe_int) pe_int) (pe_op op_mul (pv 4) pe_int)) (pe_op op_mul pe_int (pe_ix ix_list (pv 0) pe_int (fun _ _ => rfl)))) pe_int))
  (pss_cons (ps_asg (pe_op op_mod (pv 4) pe_int) (pg_sub (pv 0) pe_int set_list))
  (pss_one (ps_ret (pe_op op_mod (pe_op op_add (pe_op op_fdiv (pe_ix ix_list (pv 0) pe_int (fun _ _ => rfl)) pe_int) (pe_op op_mul (pe_op op_mod (pe_ix ix_list (pv 0) pe_int (fun _ _ => rfl)) pe_int) pe_int)) (pv 1)))))))))), ?_⟩
    -- between: a feed of the same list
    refine ⟨fun σ H2 => ∃ (y : Option V) (i : Nat) (n m : Int), σ = [some (.ref f), some (.int r), y, none, none] ∧ SameBut f H H2 ∧ H2 f = some (.lst [.ref l, .int i, .int n, .int m, .int c]) ∧ i ≤ ns.length ∧ 0 ≤ n ∧ 0 ≤ m ∧ m < 2147483647, ?_, ?_⟩
    · refine ⟨.ref f, rfl, f, _, 2, .int n, rfl, rfl, SqL.of hf, rfl, rfl, _, rfl, ite2 (fun e => ?_) (fun e => iteF ?_)⟩
      · refine ⟨.ref f, rfl, f, _, 1, .int i, rfl, rfl, SqL.of hf, rfl, .ref f, rfl, f, _, 0, .ref l, rfl, rfl, SqL.of hf, rfl, l, _, rfl, .inl (SqL.of hl), _, _, rfl, rfl, _, rfl, ite2 (fun e => ?_) (fun e => ?_)⟩
        · have hlt : i < ns.length := by
            have := of_decide_eq_true e
            rw [List.length_map] at this
            omega
          have g1 : (ns.map V.int)[i]? = some (.int ns[i]) := by
            rw [List.getElem?_map, List.getElem?_eq_getElem hlt]
            rfl
          generalize ns[i] = u at g1
          -- cell = feed[0][feed[1]]; feed[1] = feed[1] + 1
          refine ⟨.ref f, rfl, f, _, 0, .ref l, rfl, rfl, SqL.of hf, rfl, .ref f, rfl, f, _, 1, .int i, rfl, rfl, SqL.of hf, rfl, l, _, i, .int u, rfl, rfl, SqL.of hl, atI_nat g1, ?_⟩
          refine ⟨.ref f, rfl, f, _, 1, .int i, rfl, rfl, SqL.of hf, rfl, _, _, rfl, rfl, .ref f, rfl, f, _, 1, 1, rfl, rfl, hf, rfl, ?_⟩
          -- if cell >= 10 ** 18
          refine ⟨.int u, rfl, _, _, rfl, rfl, ⟨by decide, by decide, by decide⟩, _, _, rfl, rfl, _, rfl, ite2 (fun e => ?_) (fun e => ?_)⟩
          · have h0 : 0 ≤ u := Int.le_trans (by decide : (0 : Int) ≤ 10 ^ Int.toNat 18) (of_decide_eq_true e)
            refine ⟨.int u, rfl, .ref f, rfl, f, _, 2, 2, rfl, rfl, upd_same, rfl, ?_⟩
            exact ⟨_, i + 1, u, m, rfl, SameBut.upd (SameBut.upd (.refl _ _)), upd_same, hlt, h0, hm, hm2⟩
          · refine ⟨.ref f, rfl, f, _, 3, .int m, rfl, rfl, SqL.of upd_same, rfl, _, _, rfl, rfl, .inl ⟨by omega, by omega⟩, .int u, rfl, _, _, rfl, rfl, (by show (0 : Int) < 1000000007; decide), _, _, rfl, rfl, .inr ⟨by decide, by decide⟩, _, _, rfl, rfl, _, _, rfl, rfl, _, _, rfl, rfl, (by show (0 : Int) < 2147483647; decide), ?_⟩
            refine ⟨.ref f, rfl, f, _, 3, 3, rfl, rfl, upd_same, rfl, ?_⟩
            exact ⟨_, i + 1, n, _, rfl, SameBut.upd (SameBut.upd (.refl _ _)), upd_same, hlt, hn, Int.emod_nonneg _ (by decide), Int.emod_lt_of_pos _ (by decide)⟩
        · exact ⟨none, i, n, m, rfl, .refl _ _, hf, hi, hn, hm, hm2⟩
      · exact ⟨none, i, n, m, rfl, .refl _ _, hf, hi, hn, hm, hm2⟩
    · rintro σ H2 ⟨y, i, n, m, rfl, sb, hf, hi, hn, hm, hm2⟩
      have hl2 : H2 l = some (.lst (ns.map V.int)) := sb _ _ nlf hl
      -- if feed[2] > 0
      refine ⟨.ref f, rfl, f, _, 2, .int n, rfl, rfl, SqL.of hf, rfl, _, _, rfl, rfl, _, rfl, ite2 (fun e => ?_) (fun e => ?_)⟩
      · refine ⟨.ref f, rfl, f, _, 2, .int n, rfl, rfl, SqL.of hf, rfl, .int r, rfl, _, _, rfl, rfl, hr0, ?_⟩
        refine ⟨.ref f, rfl, f, _, 2, .int n, rfl, rfl, SqL.of hf, rfl, .int r, rfl, _, _, rfl, rfl, ⟨hr0, hr1⟩, .ref f, rfl, f, _, 2, 2, rfl, rfl, hf, rfl, ?_⟩
        refine ⟨_, rfl, q _ _ (Int.emod_nonneg _ (by omega)) (Int.emod_lt_of_pos _ hr0) sb.upd ⟨ns, i, _, m, c, nlf, upd_same, by rw [upd_ne nlf]; exact hl2, hi, Int.ediv_nonneg hn (by omega), hm, hm2⟩⟩
      · -- feed[4] = feed[4] + 1
        refine ⟨.ref f, rfl, f, _, 4, .int c, rfl, rfl, SqL.of hf, rfl, _, _, rfl, rfl, .ref f, rfl, f, _, 4, 4, rfl, rfl, hf, rfl, ?_⟩
        -- mix
        refine ⟨.ref f, rfl, f, _, 3, .int m, rfl, rfl, SqL.of upd_same, rfl, ?_⟩
        refine ⟨.int m, rfl, .int m, rfl, _, _, rfl, rfl, .inl ⟨by omega, by omega⟩, _, _, rfl, rfl, (by show (0 : Int) < 2147483587; decide), _, _, rfl, rfl, .inr ⟨by decide, by decide⟩, .int m, rfl, _, _, rfl, rfl, .inr ⟨by decide, by decide⟩, _, _, rfl, rfl, .ref f, rfl, f, _, 4, _, rfl, rfl, SqL.of upd_same, rfl, _, _, rfl, rfl, .inl ⟨by decide, by decide⟩, _, _, rfl, rfl, _, _, rfl, rfl, ?_⟩
        refine ⟨_, rfl, _, _, rfl, rfl, (by show (0 : Int) < 2147483647; decide), .ref f, rfl, f, _, 3, 3, rfl, rfl, upd_same, rfl, ?_⟩
        have a1 : ∀ z : Int, 0 ≤ z % 2147483647 := fun z => Int.emod_nonneg _ (by decide)
        have a2 : ∀ z : Int, z % 2147483647 < 2147483647 := fun z => Int.emod_lt_of_pos _ (by decide)
        refine ⟨.ref f, rfl, f, _, 3, _, rfl, rfl, SqL.of upd_same, rfl, _, _, rfl, rfl, ⟨by decide, by decide⟩, .ref f, rfl, f, _, 3, _, rfl, rfl, SqL.of upd_same, rfl, _, _, rfl, rfl, (by show (0 : Int) < 4093; decide), _, _, rfl, rfl, .inr ⟨by decide, by decide⟩, _, _, rfl, rfl, .int r, rfl, _, _, rfl, rfl, hr0, ?_⟩
        refine q _ _ (Int.emod_nonneg _ (by omega)) (Int.emod_lt_of_pos _ hr0) (SameBut.upd sb.upd) ⟨ns, i, n, _, _, nlf, upd_same, by rw [upd_ne nlf, upd_ne nlf]; exact hl2, hi, hn, a1 _, a2 _⟩
end
end Bw
set_option Elab.async false
set_option linter.all false
set_option maxRecDepth 100000
set_option maxHeartbeats 2000000
namespace Bw
open PySem PySem.Spec PyProof.Rows L2
section
variable {P : Program} {w : World} {K : PySem.W.Frag} {mg : Str → Option Value} {base : Heap}
/-! ### the feed made -/
abbrev s_law_feed : Stmt := topS 78
abbrev n_law_feed : List Str := ["_law_script"]
theorem sc_law_feed : FnScope n_law_feed ["_law_script"] (defScope s_law_feed) := ⟨rfl, rfl, rfl, by decide +kernel, rfl, by decide +kernel, by decide +kernel⟩
def spFeed (K : PySem.W.Frag) : Sp := fun vs H Q _ => ∃ (a : Addr) (ns : List Int), vs = [.ref a] ∧ SqL K H a (ns.map V.int) ∧ ∀ (f l : Addr) (H' : Hp), Same H H' → H f = none → FeedAt H' f l → Q (.ref f) H'
theorem ok_feed {f : Addr} {fd : FuncData} {k : Nat} (F : Fun K "_law_feed" "_law_feed" s_law_feed f fd) (T : Tx mg) : FnOk P w K mg base CX0 (k + 1) f fd ["_law_script"] (spFeed K) := by
  refine F.ok sc_law_feed (fun vs H Q E h => ?_) (fun cdv A outer s H vs Q E hr h => ?_)
  · obtain ⟨a, ns, rfl, _⟩ := h
    rfl
  · obtain ⟨a, ns, rfl, hS, q⟩ := h
    refine ⟨_, (pss_one (ps_ret (pe_lst (pa_cons (pe_callTy call_list_of (by rfl) T.list (by decide +kernel) (pa_cons (pe_slice sl_list (pv 0) po_none (po_some pe_int)) pa_nil)) (pa_cons pe_int (pa_cons pe_int (pa_cons pe_int (pa_cons pe_int pa_nil)))))))), ?_⟩
    refine ⟨.ref a, rfl, 63, rfl, a, _, rfl, hS, fun c nc => ?_⟩
    refine ⟨c, _, rfl, .inl (SqL.of upd_same), fun l nl => ?_⟩
    refine ⟨by show 5 ≤ sizeLine; decide, fun g ng => ?_⟩
    have s1 : Same H (upd H c (.lst (cutV (ns.map V.int) none (some 63)))) := same_upd nc
    have s2 := s1.trans (same_upd (o := .lst (cutV (ns.map V.int) none (some 63))) nl)
    have s3 := s2.trans (same_upd (o := .lst [.ref l, .int 0, .int 0, .int 9106, .int 0]) ng)
    have nlg : l ≠ g := fun e => by
      rw [← e, upd_same] at ng
      cases ng
    refine q g l _ s3 (s2.free ng) ⟨(ns.drop (HT.sIx (ns.map V.int).length 0 none)).take (HT.sIx (ns.map V.int).length (ns.map V.int).length (some 63) - HT.sIx (ns.map V.int).length 0 none), 0, 0, 9106, 0, nlg, upd_same, ?_, Nat.zero_le _, by decide, by decide, by decide⟩
    rw [upd_ne nlg, upd_same]
    unfold cutV
    rw [List.map_take, List.map_drop]
/-! ### one of a row -/
abbrev s_law_pick : Stmt := topS 80
abbrev n_law_pick : List Str := ["_law_feed_here", "_law_row"]
theorem sc_law_pick : FnScope n_law_pick ["_law_feed_here", "_law_row"] (defScope s_law_pick) := ⟨rfl, rfl, rfl, by decide +kernel, rfl, by decide +kernel, by decide +kernel⟩
def spPick : Sp := fun vs H Q _ => ∃ (f l a : Addr) (xs : List V), vs = [.ref f, .ref a] ∧ FeedAt H f l ∧ H a = some (.lst xs) ∧ a ≠ f ∧ 0 < xs.length ∧ xs.length < 1000 ∧ ∀ (v : V) (H' : Hp), v ∈ xs → SameBut f H H' → FeedAt H' f l → Q v H'
theorem ok_pick {f : Addr} {fd : FuncData} {k j : Nat} (F : Fun K "_law_pick" "_law_pick" s_law_pick f fd) (T : Tx mg) (c_law_draw : Cal P w K mg base CX0 k "_law_draw" ["_law_feed_here", "_law_many"] spDraw) : FnOk P w K mg base CX0 (k + 1) f fd ["_law_feed_here", "_law_row"] spPick := by
  refine F.ok sc_law_pick (fun vs H Q E h => ?_) (fun cdv A outer s H vs Q E hr h => ?_)
  · obtain ⟨f, l, a, xs, rfl, _⟩ := h
    rfl
  · obtain ⟨f, l, a, xs, rfl, hf, ha, naf, h0, h1, q⟩ := h
    refine ⟨_, (pss_one (ps_ret (pe_ix ix_list (pv 1) (pe_cal c_law_draw hr (by rfl) (pa_cons (pv 0) (pa_cons (pe_callB call_len_seq (by rfl) T.len PySem.boot_len (pa_cons (pv 1) pa_nil)) pa_nil))) (fun _ _ => rfl)))), ?_⟩
    refine ⟨.ref a, rfl, .ref f, rfl, .ref a, rfl, a, _, rfl, .inl (SqL.of ha), f, l, _, rfl, hf, by omega, by omega, fun v H' v0 v1 sb hf' => ?_⟩
    obtain ⟨n, rfl⟩ : ∃ n : Nat, v = (n : Int) := ⟨v.toNat, by omega⟩
    have hn : n < xs.length := by omega
    exact ⟨a, xs, _, xs[n], rfl, rfl, SqL.of (sb _ _ naf ha), atI_nat (List.getElem?_eq_getElem hn), q _ _ (List.getElem_mem hn) sb hf'⟩
/-! ### the greatest that goes into both -/
abbrev s_law_gcd : Stmt := topS 82
abbrev n_law_gcd : List Str := ["_law_one", "_law_other"]
theorem sc_law_gcd : FnScope n_law_gcd ["_law_one", "_law_other"] (defScope s_law_gcd) := ⟨rfl, rfl, rfl, by decide +kernel, rfl, by decide +kernel, by decide +kernel⟩
def spGcd : Sp := fun vs H Q _ => ∃ (a b : Nat), vs = [.int a, .int b] ∧ Q (.int (Nat.gcd a b)) H
theorem ok_gcd {f : Addr} {fd : FuncData} {k : Nat} (F : Fun K "_law_gcd" "_law_gcd" s_law_gcd f fd) (T : Tx mg) : FnOk P w K mg base CX0 (k + 1) f fd ["_law_one", "_law_other"] spGcd := by
  refine F.ok sc_law_gcd (fun vs H Q E h => ?_) (fun cdv A outer s H vs Q E hr h => ?_)
  · obtain ⟨a, b, rfl, _⟩ := h
    rfl
  · obtain ⟨a, b, rfl, q⟩ := h
    refine ⟨_, (pss_cons (ps_while PassesOwn.never (pt_truth (pv 1) (by intro _; rfl))
      (pss_one (ps_par (i := 0) (j := 1) (by rfl) sc_law_gcd.nd rfl rfl (by decide) rfl rfl (pa_cons (pv 1) (pa_cons (pe_op op_mod (pv 0) (pv 1)) pa_nil)) (by rfl))))
      (pss_one (ps_ret (pe_callB call_abs (by rfl) T.abs (by decide +kernel) (pa_cons (pv 0) pa_nil))))), ?_⟩
    refine while_by (fun σ H' => ∃ x y : Nat, σ = [some (.int x), some (.int y)] ∧ Nat.gcd x y = Nat.gcd a b ∧ H' = H) (fun σ _ => match σ with | [_, some (.int y)] => y.toNat | _ => 0) ⟨a, b, rfl, rfl, rfl⟩ ?_ ?_
    · rintro σ H' ⟨x, y, rfl, hg, rfl⟩
      refine ⟨.int y, rfl, ((y : Int) != 0), rfl, ?_⟩
      by_cases hy : y = 0
      · subst hy
        refine iteF ⟨_, rfl, _, rfl, ?_⟩
        rw [if_neg (by omega)]
        rw [Nat.gcd_zero_right] at hg
        rw [hg]
        exact q
      · have e : ((y : Int) != 0) = true := by simp [hy]
        rw [e]
        refine iteT ⟨_, rfl, _, rfl, _, rfl, _, _, rfl, rfl, (by show (0 : Int) < (y : Int); omega), _, _, rfl, ?_, ?_⟩
        · refine ⟨y, x % y, rfl, ?_, rfl⟩
          rw [← hg, Nat.gcd_comm y (x % y), ← Nat.gcd_rec y x, Nat.gcd_comm]
        · show ((x : Int) % (y : Int)).toNat < ((y : Int)).toNat
          have h1 := Int.emod_lt_of_pos (x : Int) (show (0 : Int) < (y : Int) by omega)
          have h2 := Int.emod_nonneg (x : Int) (show (y : Int) ≠ 0 by omega)
          omega
    · rintro σ H' Q1 Q2 hq ⟨v, e, k, t, q1⟩
      exact ⟨v, e, k, t, hq _ _ q1⟩
end
end Bw
set_option Elab.async false
set_option linter.all false
set_option maxRecDepth 100000
set_option maxHeartbeats 1000000
namespace Bw
open PySem PySem.Spec PyProof.Rows L2
/-! ### tables, as lists of rows -/
def ent (rows : List (List Int)) (i j : Nat) : Int := (rows.getD i []).getD j 0
structure TabOk (rows : List (List Int)) (n : Nat) : Prop where
  n1 : 1 ≤ n
  n4 : n ≤ 4
  len : n ≤ rows.length
  len4 : rows.length ≤ n + 4
  wide : ∀ r ∈ rows, r.length = n
  tie : ∀ r ∈ rows, ∀ t ∈ r, -50 ≤ t ∧ t ≤ 50
  even : ∃ d : Nat → Int, (∀ i, i < n → 0 < d i) ∧ ∀ i j, i < n → j < n → d i * ent rows i j = -(d j * ent rows j i)
def matRow (n : Nat) (b : Nat → Int) : List Int := (List.range n).map b
def matRows (n : Nat) (B : Nat → Nat → Int) : List (List Int) := (List.range n).map fun i => matRow n (B i)
theorem matRow_len (n : Nat) (b : Nat → Int) : (matRow n b).length = n := by simp [matRow]
theorem matRows_len (n : Nat) (B : Nat → Nat → Int) : (matRows n B).length = n := by simp [matRows]
theorem matRow_get {n : Nat} {b : Nat → Int} {j : Nat} (h : j < n) : (matRow n b)[j]? = some (b j) := by simp [matRow, h]
theorem matRows_get {n : Nat} {B : Nat → Nat → Int} {i : Nat} (h : i < n) : (matRows n B)[i]? = some (matRow n (B i)) := by simp [matRows, h]
theorem matRow_getD {n : Nat} {b : Nat → Int} {j : Nat} (h : j < n) : (matRow n b).getD j 0 = b j := by simp [matRow, h]
theorem matRow_set {n : Nat} {b : Nat → Int} {j : Nat} {v : Int} : (matRow n b).set j v = matRow n (fun k => if k = j then v else b k) := by
  apply List.ext_getElem?
  intro k
  rw [List.getElem?_set]
  by_cases hk : k < n
  · rw [matRow_get hk, matRow_get hk]
    by_cases e : j = k
    · subst e
      simp [matRow_len, hk]
    · rw [if_neg e, if_neg (fun z => e z.symm)]
  · have h1 : (matRow n b)[k]? = none := List.getElem?_eq_none (by rw [matRow_len]; omega)
    have h2 : (matRow n fun k => if k = j then v else b k)[k]? = none := List.getElem?_eq_none (by rw [matRow_len]; omega)
    rw [h1, h2, matRow_len]
    split
    · rw [if_neg (by omega)]
    · rfl
theorem rep_flat (n : Nat) : (List.replicate n [V.int 0]).flatten = (matRow n fun _ => 0).map V.int := by
  apply List.ext_getElem?
  intro k
  have e : (matRow n fun _ => (0 : Int)) = List.replicate n 0 := by
    unfold matRow
    rw [List.map_const', List.length_range]
  rw [e, List.map_replicate, List.flatten_replicate_singleton]
end Bw
set_option Elab.async false
set_option linter.all false
set_option maxRecDepth 100000
set_option maxHeartbeats 2000000
namespace Bw
open PySem PySem.Spec PyProof.Rows L2
/-! ### lists of rows that may still be written -/
def RowsAt (H : Hp) (as : List Addr) (n : Nat) (B : Nat → Nat → Int) : Prop := as.length = n ∧ as.Nodup ∧ ∀ i b, as[i]? = some b → H b = some (.lst ((matRow n (B i)).map V.int))
def TabAt (H : Hp) (a : Addr) (rows : List (List Int)) : Prop := ∃ as : List Addr, H a = some (.tup (as.map V.ref)) ∧ as.length = rows.length ∧ ∀ (i : Nat) (r : List Int), rows[i]? = some r → ∃ b, as[i]? = some b ∧ H b = some (.tup (r.map V.int))
theorem TabAt.same {H H' : Hp} {a : Addr} {rows : List (List Int)} (s : Same H H') (h : TabAt H a rows) : TabAt H' a rows := by
  obtain ⟨as, h1, h2, h3⟩ := h
  exact ⟨as, s _ _ h1, h2, fun i r e => by
    obtain ⟨b, e1, e2⟩ := h3 i r e
    exact ⟨b, e1, s _ _ e2⟩⟩
theorem TabAt.but {H H' : Hp} {f l a : Addr} {rows : List (List Int)} (s : SameBut f H H') (hf : FeedAt H f l) (h : TabAt H a rows) : TabAt H' a rows := by
  obtain ⟨as, h1, h2, h3⟩ := h
  exact ⟨as, s _ _ (hf.tup h1) h1, h2, fun i r e => by
    obtain ⟨b, e1, e2⟩ := h3 i r e
    exact ⟨b, e1, s _ _ (hf.tup e2) e2⟩⟩
def put2 (B : Nat → Nat → Int) (i j : Nat) (v : Int) : Nat → Nat → Int := fun a b => if a = i ∧ b = j then v else B a b
theorem RowsAt.put {H : Hp} {as : List Addr} {n : Nat} {B : Nat → Nat → Int} (h : RowsAt H as n B) {i j : Nat} {b : Addr} (hb : as[i]? = some b) (v : Int) :
    RowsAt (upd H b (.lst (((matRow n (B i)).map V.int).set j (V.int v)))) as n (put2 B i j v) := by
  obtain ⟨h1, h2, h3⟩ := h
  refine ⟨h1, h2, fun k c e => ?_⟩
  by_cases hk : k = i
  · subst hk
    have : c = b := Option.some.inj (e.symm.trans hb)
    subst this
    rw [upd_same, ← List.map_set, matRow_set]
    have z : (fun k_1 => if k_1 = j then v else B k k_1) = put2 B k j v k := by
      funext y
      unfold put2
      by_cases hy : y = j
      · rw [if_pos hy, if_pos ⟨rfl, hy⟩]
      · rw [if_neg hy, if_neg (fun z => hy z.2)]
    rw [z]
  · have ne : c ≠ b := fun z => by
      subst z
      exact hk (nd_ix h2 e hb)
    rw [upd_ne ne, h3 k c e]
    have z : put2 B i j v k = B k := by
      funext y
      unfold put2
      rw [if_neg (fun z => hk z.1)]
    rw [z]
def loadAt (ls : List Int) (i : Nat) : Int := ls.getD i 1
structure Good (n : Nat) (r : Int) (ls : List Int) (B : Nat → Nat → Int) : Prop where
  len : ls.length = n
  load : ∀ x ∈ ls, 1 ≤ x ∧ x ≤ 4
  ev : ∀ i j, i < n → j < n → loadAt ls i * B i j = -(loadAt ls j * B j i)
  bd : ∀ i j, -(4 * r) ≤ B i j ∧ B i j ≤ 4 * r
theorem Good.zero {n : Nat} {r : Int} {ls : List Int} (h1 : ls.length = n) (h2 : ∀ x ∈ ls, 1 ≤ x ∧ x ≤ 4) (h3 : 0 ≤ r) : Good n r ls fun _ _ => 0 :=
  ⟨h1, h2, fun i j _ _ => by rw [Int.mul_zero, Int.mul_zero]; rfl, fun _ _ => ⟨by omega, by omega⟩⟩
theorem loadAt_get {ls : List Int} {i : Nat} {x : Int} (h : ls[i]? = some x) : loadAt ls i = x := by
  unfold loadAt
  rw [List.getD_eq_getElem?_getD, h]
  rfl
theorem mul_bd {t x r : Int} (h1 : -r ≤ t) (h2 : t ≤ r) (h3 : 0 ≤ x) (h4 : x ≤ 4) : -(4 * r) ≤ t * x ∧ t * x ≤ 4 * r := by
  have h0 : 0 ≤ r := by omega
  have a1 : t * x ≤ r * x := Int.mul_le_mul_of_nonneg_right h2 h3
  have a2 : r * x ≤ r * 4 := Int.mul_le_mul_of_nonneg_left h4 h0
  have a3 : -r * x ≤ t * x := Int.mul_le_mul_of_nonneg_right h1 h3
  have a4 : -r * x = -(r * x) := Int.neg_mul ..
  omega
theorem Good.put {n : Nat} {r : Int} {ls : List Int} {B : Nat → Nat → Int} (g : Good n r ls B) {i j : Nat} {x y t : Int} {c : Nat} (hij : i < j) (hi : ls[i]? = some x) (hj : ls[j]? = some y) (hc : 0 < c) (cx : (c : Int) ∣ x) (cy : (c : Int) ∣ y) (h1 : -r ≤ t) (h2 : t ≤ r) :
    Good n r ls (put2 (put2 B i j (t * (y / c))) j i (0 - t * (x / c))) := by
  have hx := g.load x (List.mem_of_getElem? hi)
  have hy := g.load y (List.mem_of_getElem? hj)
  obtain ⟨x', rfl⟩ := cx
  obtain ⟨y', rfl⟩ := cy
  have c0 : (c : Int) ≠ 0 := by omega
  have ex : (c : Int) * x' / c = x' := Int.mul_ediv_cancel_left _ c0
  have ey : (c : Int) * y' / c = y' := Int.mul_ediv_cancel_left _ c0
  rw [ex, ey]
  have x0 : 0 ≤ x' := by
    rcases Int.lt_or_le x' 0 with h | h
    · have := Int.mul_neg_of_pos_of_neg (show (0 : Int) < c by omega) h
      omega
    · exact h
  have y0 : 0 ≤ y' := by
    rcases Int.lt_or_le y' 0 with h | h
    · have := Int.mul_neg_of_pos_of_neg (show (0 : Int) < c by omega) h
      omega
    · exact h
  have x4 : x' ≤ 4 := by
    have : 1 * x' ≤ c * x' := Int.mul_le_mul_of_nonneg_right (by omega) x0
    omega
  have y4 : y' ≤ 4 := by
    have : 1 * y' ≤ c * y' := Int.mul_le_mul_of_nonneg_right (by omega) y0
    omega
  have b1 := mul_bd h1 h2 y0 y4
  have b2 := mul_bd h1 h2 x0 x4
  have key : (c : Int) * x' * (t * y') = -(c * y' * (0 - t * x')) := by
    rw [Int.zero_sub, Int.mul_neg, Int.neg_neg]
    rw [Int.mul_assoc, Int.mul_assoc, Int.mul_left_comm x' t y', Int.mul_left_comm y' t x', Int.mul_comm x' y']
  refine ⟨g.len, g.load, fun a b ha hb => ?_, fun a b => ?_⟩
  · unfold put2
    by_cases e1 : a = j ∧ b = i
    · obtain ⟨rfl, rfl⟩ := e1
      rw [if_pos ⟨rfl, rfl⟩, if_neg (fun z => by omega), if_pos ⟨rfl, rfl⟩, loadAt_get hi, loadAt_get hj]
      omega
    · rw [if_neg e1]
      by_cases e2 : a = i ∧ b = j
      · obtain ⟨rfl, rfl⟩ := e2
        rw [if_pos ⟨rfl, rfl⟩, if_pos ⟨rfl, rfl⟩, loadAt_get hi, loadAt_get hj]
        exact key
      · rw [if_neg e2, if_neg (fun z => e2 ⟨z.2, z.1⟩), if_neg (fun z => e1 ⟨z.2, z.1⟩)]
        exact g.ev a b ha hb
  · unfold put2
    by_cases e1 : a = j ∧ b = i
    · rw [if_pos e1]
      omega
    · rw [if_neg e1]
      by_cases e2 : a = i ∧ b = j
      · rw [if_pos e2]
        omega
      · rw [if_neg e2]
        exact g.bd a b
end Bw
set_option Elab.async false
set_option linter.all false
set_option maxRecDepth 100000
set_option maxHeartbeats 4000000
namespace Bw
open PySem PySem.Spec PyProof.Rows L2
section
variable {P : Program} {w : World} {K : PySem.W.Frag} {mg : Str → Option Value} {base : Heap}
abbrev s_law_even : Stmt := topS 85
abbrev n_law_even : List Str := ["_law_feed_here", "_law_many", "_law_reach", "_law_heavy", "_law_load", "_law_rows", "_law_i", "_law_j", "_law_tie", "_law_by", "_law_k", "_law_row"]
theorem sc_law_even : FnScope n_law_even ["_law_feed_here", "_law_many", "_law_reach"] (defScope s_law_even) := ⟨rfl, rfl, rfl, by decide +kernel, rfl, by decide +kernel, by decide +kernel⟩
def spEven : Sp := fun vs H Q _ => ∃ (f l : Addr) (n : Nat) (r : Int), vs = [.ref f, .int n, .int r] ∧ FeedAt H f l ∧ n ≤ 4 ∧ 1 ≤ r ∧ r ≤ 12 ∧
  ∀ (a : Addr) (ls : List Int) (B : Nat → Nat → Int) (H' : Hp), SameBut f H H' → FeedAt H' f l → TabAt H' a (matRows n B) → Good n r ls B → Q (.ref a) H'
theorem ok_even {f : Addr} {fd : FuncData} {k : Nat} (F : Fun K "_law_even" "_law_even" s_law_even f fd) (T : Tx mg) (c_law_draw : Cal P w K mg base CX0 1 "_law_draw" ["_law_feed_here", "_law_many"] spDraw)
    (c_law_pick : Cal P w K mg base CX0 2 "_law_pick" ["_law_feed_here", "_law_row"] spPick) (c_law_gcd : Cal P w K mg base CX0 1 "_law_gcd" ["_law_one", "_law_other"] spGcd) : FnOk P w K mg base CX0 3 f fd ["_law_feed_here", "_law_many", "_law_reach"] spEven := by
  refine F.ok sc_law_even (fun vs H Q E h => ?_) (fun cdv A outer s H vs Q E hr h => ?_)
  · obtain ⟨f, l, n, r, rfl, _⟩ := h
    rfl
  · obtain ⟨f, l, n, r, rfl, hf, n4, r1, r12, q⟩ := h
    have hr1 := hr.mono (show 1 ≤ 2 by decide)
    refine ⟨_, (pss_cons (ps_set (i := 3) sc_law_even.nd rfl (.inr rfl) (pe_cal c_law_pick hr (by rfl) (pa_cons (pv 0) (pa_cons (pe_lst (pa_cons (pe_lst (pa_cons pe_int pa_nil)) (pa_cons (pe_lst (pa_cons pe_int pa_nil)) (pa_cons (pe_lst (pa_cons pe_int (pa_cons pe_int pa_nil))) (pa_cons (pe_lst (pa_cons pe_int (pa_cons pe_int pa_nil))) (pa_cons (pe_lst (pa_cons pe_int (pa_cons pe_int (pa_cons pe_int pa_nil)))) pa_nil)))))) pa_nil))))
  (pss_cons (ps_setLc (i := 4) (own := [("_law_k", 10)]) (by rfl) sc_law_even.nd rfl rfl (sw_true rfl rfl rfl (by decide +kernel)) (pi_range1 (by rfl) T.range (pa_cons (pv 1) pa_nil)) (blkOk_by (own := [("_law_k", 10)]) (N := n_law_even) (sc := defScope s_law_even) (by decide +kernel)) (fun _ _ _ _ _ => (pg_name (i := 10) sc_law_even.nd rfl (.inl rfl))) (fun _ _ _ _ _ => pts_nil) (fun _ _ _ _ _ => (pe_cal c_law_pick hr (by rfl) (pa_cons (pv 0) (pa_cons (pv 3) pa_nil)))))
  (pss_cons (ps_setLc (i := 5) (own := [("_law_k", 10)]) (by rfl) sc_law_even.nd rfl rfl (sw_true rfl rfl rfl (by decide +kernel)) (pi_range1 (by rfl) T.range (pa_cons (pv 1) pa_nil)) (blkOk_by (own := [("_law_k", 10)]) (N := n_law_even) (sc := defScope s_law_even) (by decide +kernel)) (fun _ _ _ _ _ => (pg_name (i := 10) sc_law_even.nd rfl (.inl rfl))) (fun _ _ _ _ _ => pts_nil) (fun _ _ _ _ _ => (pe_op op_rep (pe_lst (pa_cons pe_int pa_nil)) (pv 1))))
  (pss_cons (ps_for PassesOwn.never rfl (pi_range1 (by rfl) T.range (pa_cons (pv 1) pa_nil)) (pg_name (i := 6) sc_law_even.nd rfl (.inl rfl))
    (pss_one (ps_for PassesOwn.never rfl (pi_range2 (by rfl) T.range (pa_cons (pe_op op_add (pv 6) pe_int) (pa_cons (pv 1) pa_nil))) (pg_name (i := 7) sc_law_even.nd rfl (.inl rfl))
      (pss_cons (ps_set (i := 8) sc_law_even.nd rfl (.inl rfl) (pe_cal c_law_pick hr (by rfl) (pa_cons (pv 0) (pa_cons (pe_lst (pa_cons pe_int (pa_cons pe_int (pa_cons (pe_un un_neg pe_int) (pa_cons pe_int (pa_cons (pe_op op_sub (pe_cal c_law_draw hr1 (by rfl) (pa_cons (pv 0) (pa_cons (pe_op op_add (pe_op op_mul pe_int (pv 2)) pe_int) pa_nil))) (pv 2)) pa_nil)))))) pa_nil))))
      (pss_cons (ps_set (i := 9) sc_law_even.nd rfl (.inl rfl) (pe_cal c_law_gcd hr1 (by rfl) (pa_cons (pe_ix ix_list (pv 4) (pv 6) (fun _ _ => rfl)) (pa_cons (pe_ix ix_list (pv 4) (pv 7) (fun _ _ => rfl)) pa_nil))))
      (pss_cons (ps_asg (pe_op op_mul (pv 8) (pe_op op_fdiv (pe_ix ix_list (pv 4) (pv 7) (fun _ _ => rfl)) (pv 9))) (pg_sub (pe_ix ix_list (pv 5) (pv 6) (fun _ _ => rfl)) (pv 7) set_list))
      (pss_one (ps_asg (pe_op op_sub pe_int (pe_op op_mul (pv 8) (pe_op op_fdiv (pe_ix ix_list (pv 4) (pv 6) (fun _ _ => rfl)) (pv 9)))) (pg_sub (pe_ix ix_list (pv 5) (pv 7) (fun _ _ => rfl)) (pv 6) set_list)))))))))
  (pss_one (ps_ret (pe_callTy (c_tup (K := K)) (by rfl) T.tuple (by decide +kernel) (pa_cons (pe_lc (own := [("_law_row", 11)]) (by rfl) sc_law_even.nd (pi_list (pv 5)) (blkOk_by (own := [("_law_row", 11)]) (N := n_law_even) (sc := defScope s_law_even) (by decide +kernel)) (fun _ _ _ _ _ => (pg_name (i := 11) sc_law_even.nd rfl (.inl rfl))) (fun _ _ _ _ _ => pts_nil) (fun _ _ _ _ _ => (pe_callTy (c_tup (K := K)) (by rfl) T.tuple (by decide +kernel) (pa_cons (pv 11) pa_nil)))) pa_nil)))))))), ?_⟩
    -- heavy = pick(feed, [..])
    refine ⟨.ref f, rfl, by show 1 ≤ sizeLine; decide, fun p1 e1 => ⟨by show 1 ≤ sizeLine; decide, fun p2 e2 => ⟨by show 2 ≤ sizeLine; decide, fun p3 e3 => ⟨by show 2 ≤ sizeLine; decide, fun p4 e4 => ⟨by show 3 ≤ sizeLine; decide, fun p5 e5 => ⟨by show 5 ≤ sizeLine; decide, fun o eo => ?_⟩⟩⟩⟩⟩⟩
    have s1 := same_upd (o := .lst [.int 1]) e1
    have s2 := same_upd (o := .lst [.int 1]) e2
    have s3 := same_upd (o := .lst [.int 1, .int 2]) e3
    have s4 := same_upd (o := .lst [.int 1, .int 3]) e4
    have s5 := same_upd (o := .lst [.int 1, .int 2, .int 4]) e5
    have s6 := same_upd (o := .lst [.ref p1, .ref p2, .ref p3, .ref p4, .ref p5]) eo
    have t5 := s5.trans s6
    have t4 := s4.trans t5
    have t3 := s3.trans t4
    have t2 := s2.trans t3
    have t1 := s1.trans t2
    have o0 : H o = none := s1.free (s2.free (s3.free (s4.free (s5.free eo))))
    refine ⟨f, l, o, _, rfl, hf.same t1, upd_same, hf.ne o0, by show 0 < 5; decide, by show 5 < 1000; decide, fun v H1 hv sb1 hf1 => ?_⟩
    have hv : ∃ (h : Addr) (hs : List Int), v = .ref h ∧ H h = none ∧ H1 h = some (.lst (hs.map V.int)) ∧ 0 < hs.length ∧ hs.length < 1000 ∧ ∀ x ∈ hs, 1 ≤ x ∧ x ≤ 4 := by
      simp only [List.mem_cons, List.not_mem_nil, or_false] at hv
      have p20 : H p2 = none := s1.free e2
      have p30 : H p3 = none := s1.free (s2.free e3)
      have p40 : H p4 = none := s1.free (s2.free (s3.free e4))
      have p50 : H p5 = none := s1.free (s2.free (s3.free (s4.free e5)))
      rcases hv with rfl | rfl | rfl | rfl | rfl
      · exact ⟨p1, [1], rfl, e1, sb1 _ _ (hf.ne e1) (t2 _ _ upd_same), by decide, by decide, by decide⟩
      · exact ⟨p2, [1], rfl, p20, sb1 _ _ (hf.ne p20) (t3 _ _ upd_same), by decide, by decide, by decide⟩
      · exact ⟨p3, [1, 2], rfl, p30, sb1 _ _ (hf.ne p30) (t4 _ _ upd_same), by decide, by decide, by decide⟩
      · exact ⟨p4, [1, 3], rfl, p40, sb1 _ _ (hf.ne p40) (t5 _ _ upd_same), by decide, by decide, by decide⟩
      · exact ⟨p5, [1, 2, 4], rfl, p50, sb1 _ _ (hf.ne p50) (s6 _ _ upd_same), by decide, by decide, by decide⟩
    obtain ⟨h, hs, rfl, h0, hh, hs0, hs1, hs4⟩ := hv
    have sb1 : SameBut f H H1 := (t1.but).trans sb1
    clear hv s1 s2 s3 s4 s5 s6 t1 t2 t3 t4 t5 eo e5 e4 e3 e2 e1
    -- load = [pick(feed, heavy) for k in range(many)]
    refine ⟨.int n, rfl, n, rfl, by omega, by omega, fun L eL => ?_⟩
    have L0 : H L = none := by
      by_cases z : L = f
      · subst z
        exact absurd rfl (hf1.ne eL)
      · cases y : H L with
        | none => rfl
        | some u =>
          rw [sb1 _ _ z y] at eL
          cases eL
    have nLf : L ≠ f := hf1.ne eL
    have nhL : h ≠ L := ne_of_none hh eL
    refine lc_range (fun i H' => ∃ ls : List Int, ls.length = i ∧ (∀ x ∈ ls, 1 ≤ x ∧ x ≤ 4) ∧ H' L = some (.lst (ls.map V.int)) ∧ SameBut f H H' ∧ FeedAt H' f l ∧ H' h = some (.lst (hs.map V.int))) ⟨[], rfl, by simp, upd_same, sb1.updN L0, hf1.put nLf (hf1.ne2 eL), by rw [upd_ne nhL]; exact hh⟩ ?_ ?_
    · rintro i H2 hi ⟨ls, el, hls, eL2, sb2, hf2, hh2⟩
      refine ⟨rfl, ?_⟩
      refine ⟨.ref f, rfl, .ref h, rfl, f, l, h, _, rfl, hf2, hh2, hf.ne h0, by rw [List.length_map]; omega, by rw [List.length_map]; omega, fun v H3 hv sb3 hf3 => ?_⟩
      obtain ⟨x, hx, rfl⟩ := List.mem_map.mp hv
      refine ⟨ls.map V.int, sb3 _ _ nLf eL2, by rw [List.length_map]; exact small1000 (by omega), ls ++ [x], by rw [List.length_append, el]; rfl, ?_, ?_, (sb2.trans sb3).updN L0, hf3.put nLf (hf.ne2 L0), ?_⟩
      · intro y hy
        rcases List.mem_append.mp hy with hy | hy
        · exact hls y hy
        · rw [List.mem_singleton.mp hy]
          exact hs4 x hx
      · rw [upd_same, List.map_append]
        rfl
      · rw [upd_ne nhL]
        exact sb3 _ _ (hf.ne h0) hh2
    · rintro H2 ⟨ls, el, hls, eL2, sb2, hf2, hh2⟩
      -- rows = [[0] * many for k in range(many)]
      refine ⟨.int n, rfl, n, rfl, by omega, by omega, fun R eR => ?_⟩
      have R0 : H R = none := by
        by_cases z : R = f
        · subst z
          exact absurd rfl (hf2.ne eR)
        · cases y : H R with
          | none => rfl
          | some u =>
            rw [sb2 _ _ z y] at eR
            cases eR
      have nRf : R ≠ f := hf2.ne eR
      have nRL : R ≠ L := Ne.symm (ne_of_none eL2 eR)
      refine lc_range (fun i H' => ∃ as : List Addr, as.length = i ∧ as.Nodup ∧ (∀ b ∈ as, H b = none ∧ b ≠ L ∧ b ≠ R ∧ H' b = some (.lst ((matRow n fun _ => 0).map V.int))) ∧ H' R = some (.lst (as.map V.ref)) ∧ SameBut f H H' ∧ FeedAt H' f l ∧ H' L = some (.lst (ls.map V.int))) ⟨[], rfl, List.nodup_nil, by simp, upd_same, sb2.updN R0, hf2.put nRf (hf2.ne2 eR), by rw [upd_ne nRL.symm]; exact eL2⟩ ?_ ?_
      · rintro i H3 hi ⟨as, ea, nd, has, eR3, sb3, hf3, eL3⟩
        refine ⟨rfl, ?_⟩
        refine ⟨by show 1 ≤ sizeLine; decide, fun z ez => ⟨.int n, rfl, z, n, _, rfl, rfl, upd_same, by omega, by omega, ?_, fun b eb => ?_⟩⟩
        · show 1 * ((n : Int)).toNat ≤ sizeLine
          exact Nat.le_of_lt (small1000 (by omega))
        · have sz := same_upd (o := .lst [.int 0]) ez
          have sb := same_upd (o := .lst (List.replicate ((n : Int)).toNat [V.int 0]).flatten) eb
          have b3 : H3 b = none := sz.free eb
          have b0 : H b = none := by
            by_cases z : b = f
            · subst z
              exact absurd rfl (hf3.ne b3)
            · cases y : H b with
              | none => rfl
              | some u =>
                rw [sb3 _ _ z y] at b3
                cases b3
          have nbR : b ≠ R := Ne.symm (ne_of_none eR3 b3)
          have nbL : b ≠ L := Ne.symm (ne_of_none eL3 b3)
          refine ⟨as.map V.ref, sb _ _ (sz _ _ eR3), by rw [List.length_map]; exact small1000 (by omega), as ++ [b], by rw [List.length_append, ea]; rfl, ?_, ?_, ?_, ((sb3.trans (sz.trans sb).but).updN R0), (hf3.same (sz.trans sb)).put nRf (hf.ne2 R0), ?_⟩
          · refine List.nodup_append.mpr ⟨nd, by simp, ?_⟩
            intro u hu v hv e
            rw [List.mem_singleton.mp hv] at e
            subst e
            have := (has _ hu).2.2.2
            rw [b3] at this
            cases this
          · intro u hu
            rcases List.mem_append.mp hu with hu | hu
            · obtain ⟨u0, u1, u2, u3⟩ := has u hu
              exact ⟨u0, u1, u2, by rw [upd_ne u2]; exact sb _ _ (sz _ _ u3)⟩
            · rw [List.mem_singleton.mp hu]
              refine ⟨b0, nbL, nbR, ?_⟩
              rw [upd_ne nbR, upd_same, Int.toNat_natCast, rep_flat]
          · rw [upd_same, List.map_append]
            rfl
          · rw [upd_ne nRL.symm]
            exact sb _ _ (sz _ _ eL3)
      · rintro H3 ⟨as, ea, nd, has, eR3, sb3, hf3, eL3⟩
        have rw0 : RowsAt H3 as n fun _ _ => 0 := ⟨ea, nd, fun i b e => (has b (List.mem_of_getElem? e)).2.2.2⟩
        have hb0 : ∀ b ∈ as, H b = none ∧ b ≠ L ∧ b ≠ R := fun b hb => ⟨(has b hb).1, (has b hb).2.1, (has b hb).2.2.1⟩
        have g0 : Good n r ls fun _ _ => 0 := Good.zero el hls (by omega)
        clear has
        -- the loops
        refine ⟨.int n, rfl, n, rfl, by omega, by omega, for_range (fun i σ H' => ∃ (y6 y7 y8 y9 : Option V) (B : Nat → Nat → Int), σ = [some (.ref f), some (.int n), some (.int r), some (.ref h), some (.ref L), some (.ref R), y6, y7, y8, y9, none, none] ∧ SameBut f H H' ∧ FeedAt H' f l ∧ H' L = some (.lst (ls.map V.int)) ∧ H' R = some (.lst (as.map V.ref)) ∧ RowsAt H' as n B ∧ Good n r ls B)
          ⟨none, none, none, none, _, rfl, sb3, hf3, eL3, eR3, rw0, g0⟩ ?_ ?_⟩
        · rintro i σ H4 hi ⟨y6, y7, y8, y9, B, rfl, sb4, hf4, eL4, eR4, rw4, g4⟩
          have hi : i < n := hi
          refine ⟨_, rfl, _, _, rfl, rfl, _, rfl, _, n, rfl, ⟨by omega, by omega, by omega, by omega⟩, for_range (fun j σ H' => ∃ (y7 y8 y9 : Option V) (B : Nat → Nat → Int), σ = [some (.ref f), some (.int n), some (.int r), some (.ref h), some (.ref L), some (.ref R), some (.int (0 + (i : Int))), y7, y8, y9, none, none] ∧ SameBut f H H' ∧ FeedAt H' f l ∧ H' L = some (.lst (ls.map V.int)) ∧ H' R = some (.lst (as.map V.ref)) ∧ RowsAt H' as n B ∧ Good n r ls B)
            ⟨y7, y8, y9, B, rfl, sb4, hf4, eL4, eR4, rw4, g4⟩ ?_ ?_⟩
          · rintro j σ H5 hj ⟨y7, y8, y9, B, rfl, sb5, hf5, eL5, eR5, rw5, g5⟩
            obtain ⟨J, hJ⟩ : ∃ J : Nat, (0 + (i : Int)) + 1 + (j : Int) = (J : Int) := ⟨i + 1 + j, by omega⟩
            rw [hJ]
            have hij : i < J := by omega
            have hJn : J < n := by omega
            have e0 : (0 : Int) + (i : Int) = (i : Int) := by omega
            rw [e0]
            -- tie = pick(feed, [0, 1, -1, 1, draw(2 * reach + 1) - reach])
            refine ⟨.ref f, rfl, 1, rfl, .ref f, rfl, .int r, rfl, _, _, rfl, rfl, .inl ⟨by decide, by decide⟩, _, _, rfl, rfl, f, l, _, rfl, hf5, by omega, by omega, fun u H6 u0 u1 sb6 hf6 => ?_⟩
            refine ⟨.int r, rfl, _, _, rfl, rfl, by show 5 ≤ sizeLine; decide, fun o eo => ?_⟩
            have so := same_upd (o := .lst [.int 0, .int 1, .int (-1), .int 1, .int (u - r)]) eo
            have nof : o ≠ f := hf6.ne eo
            refine ⟨f, l, o, _, rfl, hf6.same so, upd_same, nof, by show 0 < 5; decide, by show 5 < 1000; decide, fun v H7 hv sb7 hf7 => ?_⟩
            obtain ⟨t, rfl, t1, t2⟩ : ∃ t : Int, v = .int t ∧ -r ≤ t ∧ t ≤ r := by
              simp only [List.mem_cons, List.not_mem_nil, or_false] at hv
              rcases hv with rfl | rfl | rfl | rfl | rfl
              · exact ⟨0, rfl, by omega, by omega⟩
              · exact ⟨1, rfl, by omega, by omega⟩
              · exact ⟨-1, rfl, by omega, by omega⟩
              · exact ⟨1, rfl, by omega, by omega⟩
              · exact ⟨u - r, rfl, by omega, by omega⟩
            have sb57 : SameBut f H5 H7 := (sb6.trans so.but).trans sb7
            have eL7 := sb57 _ _ nLf eL5
            have eR7 := sb57 _ _ nRf eR5
            have rw7 : RowsAt H7 as n B := ⟨rw5.1, rw5.2.1, fun k b e => sb57 _ _ (hf.ne (hb0 b (List.mem_of_getElem? e)).1) (rw5.2.2 k b e)⟩
            have sb7 : SameBut f H H7 := sb5.trans sb57
            clear sb57 so eo nof sb6 hf6 sb5 hf5
            -- by = gcd(load[i], load[j])
            have il : i < ls.length := by omega
            have jl : J < ls.length := by omega
            obtain ⟨x, hx⟩ : ∃ x, ls[i]? = some x := ⟨_, List.getElem?_eq_getElem il⟩
            obtain ⟨y, hy⟩ : ∃ y, ls[J]? = some y := ⟨_, List.getElem?_eq_getElem jl⟩
            have gx : (ls.map V.int)[i]? = some (.int x) := by rw [List.getElem?_map, hx]; rfl
            have gy : (ls.map V.int)[J]? = some (.int y) := by rw [List.getElem?_map, hy]; rfl
            have x1 := hls x (List.mem_of_getElem? hx)
            have y1 := hls y (List.mem_of_getElem? hy)
            obtain ⟨xn, rfl⟩ : ∃ xn : Nat, x = (xn : Int) := ⟨x.toNat, by omega⟩
            obtain ⟨yn, rfl⟩ : ∃ yn : Nat, y = (yn : Int) := ⟨y.toNat, by omega⟩
            refine ⟨_, rfl, _, rfl, L, _, i, _, rfl, rfl, SqL.of eL7, atI_nat gx, _, rfl, _, rfl, L, _, J, _, rfl, rfl, SqL.of eL7, atI_nat gy, xn, yn, rfl, ?_⟩
            have c0 : 0 < Nat.gcd xn yn := Nat.gcd_pos_of_pos_left _ (by omega)
            have c4 : Nat.gcd xn yn ≤ 4 := Nat.le_trans (Nat.gcd_le_left _ (by omega)) (by omega)
            obtain ⟨bi, hbi⟩ : ∃ b, as[i]? = some b := ⟨_, List.getElem?_eq_getElem (by omega)⟩
            obtain ⟨bj, hbj⟩ : ∃ b, as[J]? = some b := ⟨_, List.getElem?_eq_getElem (by omega)⟩
            have gbi : (as.map V.ref)[i]? = some (.ref bi) := by rw [List.getElem?_map, hbi]; rfl
            have gbj : (as.map V.ref)[J]? = some (.ref bj) := by rw [List.getElem?_map, hbj]; rfl
            obtain ⟨bi0, biL, biR⟩ := hb0 bi (List.mem_of_getElem? hbi)
            obtain ⟨bj0, bjL, bjR⟩ := hb0 bj (List.mem_of_getElem? hbj)
            have gd := Good.put g5 hij hx hy c0 (Int.natCast_dvd_natCast.mpr (Nat.gcd_dvd_left xn yn)) (Int.natCast_dvd_natCast.mpr (Nat.gcd_dvd_right xn yn)) t1 t2
            generalize Nat.gcd xn yn = c at c0 c4 gd
            -- rows[i][j] = tie * (load[j] // by)
            refine ⟨.int t, rfl, _, rfl, _, rfl, L, _, J, _, rfl, rfl, SqL.of eL7, atI_nat gy, .int c, rfl, _, _, rfl, rfl, ⟨by omega, by omega⟩, _, _, rfl, rfl, .inl ⟨by omega, by omega⟩, ?_⟩
            refine ⟨_, rfl, _, rfl, R, _, i, _, rfl, rfl, SqL.of eR7, atI_nat gbi, _, rfl, bi, _, J, J, rfl, rfl, rw7.2.2 i bi hbi, ?_, ?_⟩
            · unfold ixN
              rw [if_pos (by omega), List.length_map, matRow_len, if_pos (by omega), Int.toNat_natCast]
            have rw8 := RowsAt.put rw7 (j := J) hbi (t * ((yn : Int) / (c : Int)))
            have eL8 := (upd_ne (H := H7) (o := .lst (((matRow n (B i)).map V.int).set J (V.int (t * ((yn : Int) / (c : Int)))))) (Ne.symm biL)).trans eL7
            have eR8 := (upd_ne (H := H7) (o := .lst (((matRow n (B i)).map V.int).set J (V.int (t * ((yn : Int) / (c : Int)))))) (Ne.symm biR)).trans eR7
            have sb8 := sb7.updN (o := .lst (((matRow n (B i)).map V.int).set J (V.int (t * ((yn : Int) / (c : Int)))))) bi0
            have hf8 := hf7.put (o := .lst (((matRow n (B i)).map V.int).set J (V.int (t * ((yn : Int) / (c : Int)))))) (hf.ne bi0) (hf.ne2 bi0)
            generalize upd H7 bi (.lst (((matRow n (B i)).map V.int).set J (V.int (t * ((yn : Int) / (c : Int)))))) = H8 at rw8 eL8 eR8 sb8 hf8
            -- rows[j][i] = 0 - tie * (load[i] // by)
            refine ⟨.int t, rfl, _, rfl, _, rfl, L, _, i, _, rfl, rfl, SqL.of eL8, atI_nat gx, .int c, rfl, _, _, rfl, rfl, ⟨by omega, by omega⟩, _, _, rfl, rfl, .inl ⟨by omega, by omega⟩, _, _, rfl, rfl, ?_⟩
            refine ⟨_, rfl, _, rfl, R, _, J, _, rfl, rfl, SqL.of eR8, atI_nat gbj, _, rfl, bj, _, i, i, rfl, rfl, rw8.2.2 J bj hbj, ?_, ?_⟩
            · unfold ixN
              rw [if_pos (by omega), List.length_map, matRow_len, if_pos (by omega), Int.toNat_natCast]
            exact ⟨_, _, _, _, rfl, sb8.updN bj0, hf8.put (hf.ne bj0) (hf.ne2 bj0), (upd_ne (Ne.symm bjL)).trans eL8, (upd_ne (Ne.symm bjR)).trans eR8, RowsAt.put rw8 hbj _, gd⟩
          · rintro σ H5 ⟨y7, y8, y9, B, rfl, rest⟩
            exact ⟨_, y7, y8, y9, B, rfl, rest⟩
        · rintro σ H4 ⟨y6, y7, y8, y9, B, rfl, sb4, hf4, eL4, eR4, rw4, g4⟩
          -- return tuple([tuple(row) for row in rows])
          refine ⟨_, rfl, R, rfl, ⟨_, SqL.of eR4⟩, fun D eD => ?_⟩
          have D0 : H D = none := by
            by_cases z : D = f
            · subst z
              exact absurd rfl (hf4.ne eD)
            · cases y : H D with
              | none => rfl
              | some u =>
                rw [sb4 _ _ z y] at eD
                cases eD
          have sD := same_upd (o := .lst []) eD
          have nDR : R ≠ D := ne_of_none eR4 eD
          refine lc_list (K := K) (a := R) (xs := as.map V.ref) (fun i H' => ∃ ts : List Addr, ts.length = i ∧ (∀ (k : Nat) (b : Addr), ts[k]? = some b → H' b = some (.tup ((matRow n (B k)).map V.int))) ∧ H' D = some (.lst (ts.map V.ref)) ∧ (∀ b o, b ≠ D → H4 b = some o → H' b = some o)) ⟨[], rfl, by simp, upd_same, fun b o nb e => by rw [upd_ne nb]; exact e⟩ (fun i H' _ ⟨ts, _, _, _, k⟩ => SqL.of (k _ _ nDR eR4)) ?_ ?_
          · rintro i v H5 hv ⟨ts, et, hts, eD5, k5⟩
            rw [List.getElem?_map] at hv
            cases ei : as[i]? with
            | none =>
              rw [ei] at hv
              cases hv
            | some b =>
              rw [ei] at hv
              cases hv
              have hb5 : H5 b = some (.lst ((matRow n (B i)).map V.int)) := k5 _ _ (ne_of_none (rw4.2.2 i b ei) eD) (rw4.2.2 i b ei)
              refine ⟨rfl, .ref b, rfl, b, _, rfl, .inl ⟨SqL.of hb5, fun p ep => ?_⟩⟩
              have sp := same_upd (o := .tup ((matRow n (B i)).map V.int)) ep
              have npD : p ≠ D := Ne.symm (ne_of_none eD5 ep)
              refine ⟨ts.map V.ref, sp _ _ eD5, by rw [List.length_map]; exact small1000 (by have := (List.getElem?_eq_some_iff.mp ei).1; omega), ts ++ [p], by rw [List.length_append, et]; rfl, fun k c e => ?_, ?_, fun c o nc e => ?_⟩
              · rw [List.getElem?_append] at e
                split at e
                · have hc := hts k c e
                  have ncD : c ≠ D := ne_of hc eD5 (by intro z; cases z)
                  rw [upd_ne ncD]
                  exact sp _ _ hc
                · next hk =>
                  have : k = i := by
                    have h2 := (List.getElem?_eq_some_iff.mp e).1
                    rw [List.length_singleton] at h2
                    omega
                  subst this
                  have : c = p := by
                    have z : k - ts.length = 0 := by omega
                    rw [z] at e
                    exact (Option.some.inj e).symm
                  subst this
                  rw [upd_ne npD, upd_same]
              · rw [upd_same, List.map_append]
                rfl
              · rw [upd_ne nc]
                exact sp _ _ (k5 _ _ nc e)
          · rintro H5 ⟨ts, et, hts, eD5, k5⟩
            refine ⟨D, _, rfl, .inl ⟨SqL.of eD5, fun a ea => ?_⟩⟩
            have sa := same_upd (o := .tup (ts.map V.ref)) ea
            have sb5 : SameBut f H H5 := fun b o nb e => k5 _ _ (ne_of_none e D0) (sb4 _ _ nb e)
            have hf5 : FeedAt H5 f l := by
              obtain ⟨ns, i, n, m, c, a1, a2, a3, a4⟩ := hf4
              exact ⟨ns, i, n, m, c, a1, k5 _ _ (ne_of_none a2 eD) a2, k5 _ _ (ne_of_none a3 eD) a3, a4⟩
            refine q a ls B _ (sb5.trans sa.but) (hf5.same sa) ⟨ts, upd_same, ?_, fun i r e => ?_⟩ g4
            · rw [matRows_len, et, List.length_map]
              exact rw4.1
            · have hi : i < n := by
                have := (List.getElem?_eq_some_iff.mp e).1
                rw [matRows_len] at this
                exact this
              rw [matRows_get hi] at e
              cases e
              have ht : i < ts.length := by
                rw [et, List.length_map]
                omega
              exact ⟨_, List.getElem?_eq_getElem ht, sa _ _ (hts i _ (List.getElem?_eq_getElem ht))⟩
end
end Bw
set_option Elab.async false
set_option linter.all false
set_option maxRecDepth 100000
set_option maxHeartbeats 4000000
namespace Bw
open PySem PySem.Spec PyProof.Rows L2
theorem SameBut.none {f l a : Addr} {H H1 : Hp} (s : SameBut f H H1) (h : FeedAt H1 f l) (e : H1 a = none) : H a = none := by
  by_cases z : a = f
  · subst z
    exact absurd rfl (h.ne e)
  · cases y : H a with
    | none => rfl
    | some u =>
      rw [s _ _ z y] at e
      cases e
section
variable {P : Program} {w : World} {K : PySem.W.Frag} {mg : Str → Option Value} {base : Heap}
abbrev s_law_roots : Stmt := topS 86
abbrev n_law_roots : List Str := ["_law_feed_here", "_law_ties", "_law_most", "_law_reach", "_law_rows", "_law_k", "_law_one"]
theorem sc_law_roots : FnScope n_law_roots ["_law_feed_here", "_law_ties", "_law_most", "_law_reach"] (defScope s_law_roots) := ⟨rfl, rfl, rfl, by decide +kernel, rfl, by decide +kernel, by decide +kernel⟩
/-- roots for a table of n buds: new rows of n numbers from -r to r -/
def spRoots : Sp := fun vs H Q _ => ∃ (f l a : Addr) (rows : List (List Int)) (n m : Nat) (r : Int), vs = [.ref f, .ref a, .int m, .int r] ∧ FeedAt H f l ∧ TabAt H a rows ∧ 1 ≤ n ∧ n ≤ 4 ∧ rows.length ≤ 8 ∧ 1 ≤ rows.length ∧ (∀ x ∈ rows, x.length = n) ∧ m ≤ 4 ∧ 0 ≤ r ∧ r ≤ 50 ∧
  ∀ (b : Addr) (more : List (List Int)) (H' : Hp), SameBut f H H' → FeedAt H' f l → TabAt H' b (rows ++ more) → more.length ≤ m → (∀ x ∈ more, x.length = n ∧ ∀ t ∈ x, -r ≤ t ∧ t ≤ r) → Q (.ref b) H'
theorem ok_roots {f : Addr} {fd : FuncData} {k : Nat} (F : Fun K "_law_roots" "_law_roots" s_law_roots f fd) (T : Tx mg) (c_law_draw : Cal P w K mg base CX0 1 "_law_draw" ["_law_feed_here", "_law_many"] spDraw) :
    FnOk P w K mg base CX0 2 f fd ["_law_feed_here", "_law_ties", "_law_most", "_law_reach"] spRoots := by
  refine F.ok sc_law_roots (fun vs H Q E h => ?_) (fun cdv A outer s H vs Q E hr h => ?_)
  · obtain ⟨f, l, a, rows, n, m, r, rfl, _⟩ := h
    rfl
  · obtain ⟨f, l, a, rows, n, m, r, rfl, hf, hT, n1, n4, hl8, hl1, hw, m4, r0, r50, q⟩ := h
    refine ⟨_, (pss_cons (ps_set (i := 4) sc_law_roots.nd rfl (.inl rfl) (pe_callTy (c_lst (K := K)) (by rfl) T.list (by decide +kernel) (pa_cons (pv 1) pa_nil)))
  (pss_cons (ps_for PassesOwn.never rfl (pi_range1 (by rfl) T.range (pa_cons (pe_cal c_law_draw hr (by rfl) (pa_cons (pv 0) (pa_cons (pe_op op_add (pv 2) pe_int) pa_nil))) pa_nil)) (pg_name (i := 5) sc_law_roots.nd rfl (.inl rfl))
    (pss_one (ps_expr (pe_bm PySem.F.plainAttrs_list PySem.F.slot_list_append PySem.F.type_list_append mt_append (pv 4) (pa_cons (pe_callTy (c_tup (K := K)) (by rfl) T.tuple (by decide +kernel) (pa_cons (pe_lc (own := [("_law_one", 6)]) (by rfl) sc_law_roots.nd (p_tup (K := K) (pe_ix (i_tup (K := K)) (pv 1) pe_int (fun _ _ => rfl))) (blkOk_by (own := [("_law_one", 6)]) (N := n_law_roots) (sc := defScope s_law_roots) (by decide +kernel)) (fun _ _ _ _ _ => (pg_name (i := 6) sc_law_roots.nd rfl (.inl rfl))) (fun _ _ _ _ _ => pts_nil) (fun _ _ _ _ _ => (pe_op op_sub (pe_cal c_law_draw hr (by rfl) (pa_cons (pv 0) (pa_cons (pe_op op_add (pe_op op_mul pe_int (pv 3)) pe_int) pa_nil))) (pv 3)))) pa_nil)) pa_nil)))))
  (pss_one (ps_ret (pe_callTy (c_tup (K := K)) (by rfl) T.tuple (by decide +kernel) (pa_cons (pv 4) pa_nil)))))), ?_⟩
    obtain ⟨as, ha, hal, has⟩ := id hT
    -- rows = list(ties)
    refine ⟨.ref a, rfl, a, _, rfl, .inr (SqT.of ha), fun R eR => ?_⟩
    have sR := same_upd (o := .lst (as.map V.ref)) eR
    have nRf : R ≠ f := hf.ne eR
    have nRl : R ≠ l := hf.ne2 eR
    -- range(draw(most + 1))
    refine ⟨.ref f, rfl, .int m, rfl, _, _, rfl, rfl, f, l, _, rfl, hf.same sR, by omega, by omega, fun u H1 u0 u1 sb1 hf1 => ?_⟩
    refine ⟨u, rfl, by omega, by omega, ?_⟩
    have hd0 : ∃ r0 b0, rows[0]? = some r0 ∧ as[0]? = some b0 ∧ H b0 = some (.tup (r0.map V.int)) ∧ r0.length = n := by
      have z : 0 < rows.length := by omega
      obtain ⟨b0, e1, e2⟩ := has 0 _ (List.getElem?_eq_getElem z)
      exact ⟨_, b0, List.getElem?_eq_getElem z, e1, e2, hw _ (List.getElem_mem z)⟩
    obtain ⟨r0', b0, er0, eb0, hb0, lr0⟩ := hd0
    refine for_range (fun i σ H' => ∃ (y5 : Option V) (ts : List Addr) (more : List (List Int)), σ = [some (.ref f), some (.ref a), some (.int m), some (.int r), some (.ref R), y5, none] ∧ SameBut f H H' ∧ FeedAt H' f l ∧ H' R = some (.lst ((as ++ ts).map V.ref)) ∧ ts.length = i ∧ more.length = i ∧
      (∀ (k : Nat) (x : List Int), more[k]? = some x → ∃ b, ts[k]? = some b ∧ H' b = some (.tup (x.map V.int))) ∧ (∀ x ∈ more, x.length = n ∧ ∀ t ∈ x, -r ≤ t ∧ t ≤ r)) ?_ ?_ ?_
    · exact ⟨none, [], [], rfl, (sR.but).trans sb1, hf1, by rw [List.append_nil]; exact sb1 _ _ nRf upd_same, rfl, rfl, by simp, by simp⟩
    · rintro i σ H2 hi ⟨y5, ts, more, rfl, sb2, hf2, eR2, lt, lm, hts, hmo⟩
      have ha2 := sb2 _ _ (hf.tup ha) ha
      have hb2 := sb2 _ _ (hf.tup hb0) hb0
      have g0 : (as.map V.ref)[0]? = some (.ref b0) := by rw [List.getElem?_map, eb0]; rfl
      -- rows.append(tuple([..]))
      refine ⟨.ref R, rfl, .inl ⟨rfl, _, SqL.of eR2⟩, .ref a, rfl, a, _, 0, .ref b0, rfl, rfl, SqT.of ha2, atI_nat (j := 0) g0, b0, rfl, ⟨_, SqT.of hb2⟩, fun D eD => ?_⟩
      have D0 : H D = none := sb2.none hf2 eD
      have nDf : D ≠ f := hf2.ne eD
      have nDR : D ≠ R := Ne.symm (ne_of_none eR2 eD)
      refine lc_tup (K := K) (a := b0) (xs := r0'.map V.int) (fun j H' => ∃ x : List Int, x.length = j ∧ (∀ t ∈ x, -r ≤ t ∧ t ≤ r) ∧ H' D = some (.lst (x.map V.int)) ∧ FeedAt H' f l ∧ (∀ b o, b ≠ D → b ≠ f → H2 b = some o → H' b = some o)) ⟨[], rfl, by simp, upd_same, hf2.put nDf (hf2.ne2 eD), fun b o h1 h2 e => by rw [upd_ne h1]; exact e⟩
        (fun j H' _ ⟨x, _, _, _, _, k⟩ => SqT.of (k _ _ (ne_of_none hb2 eD) (hf.tup hb0) hb2)) ?_ ?_
      · rintro j v H3 hv ⟨x, lx, hx, eD3, hf3, k3⟩
        refine ⟨rfl, .ref f, rfl, .int r, rfl, _, _, rfl, rfl, .inl ⟨by decide, by decide⟩, _, _, rfl, rfl, f, l, _, rfl, hf3, by omega, by omega, fun t H4 t0 t1 sb4 hf4 => ?_⟩
        have hj : j < n := by
          have := (List.getElem?_eq_some_iff.mp hv).1
          rw [List.length_map] at this
          omega
        refine ⟨.int r, rfl, _, _, rfl, rfl, x.map V.int, sb4 _ _ nDf eD3, by rw [List.length_map]; exact small1000 (by omega), x ++ [t - r], by rw [List.length_append, lx]; rfl, fun z hz => ?_, ?_, hf4.put nDf (hf.ne2 D0), fun b o h1 h2 e => ?_⟩
        · rcases List.mem_append.mp hz with hz | hz
          · exact hx z hz
          · rw [List.mem_singleton.mp hz]
            omega
        · rw [upd_same, List.map_append]
          rfl
        · rw [upd_ne h1]
          exact sb4 _ _ h2 (k3 _ _ h1 h2 e)
      · rintro H3 ⟨x, lx, hx, eD3, hf3, k3⟩
        rw [List.length_map, lr0] at lx
        refine ⟨D, _, rfl, .inl ⟨SqL.of eD3, fun p ep => ?_⟩⟩
        have sp := same_upd (o := .tup (x.map V.int)) ep
        have eR3 := k3 _ _ (Ne.symm nDR) nRf eR2
        have npR : p ≠ R := Ne.symm (ne_of_none eR3 ep)
        refine ⟨R, _, _, rfl, rfl, sp _ _ eR3, ?_, ?_⟩
        · rw [List.length_map, List.length_append]
          exact small1000 (by omega)
        · refine ⟨_, ts ++ [p], more ++ [x], rfl, ?_, (hf3.same sp).put nRf nRl, ?_, by rw [List.length_append, lt]; rfl, by rw [List.length_append, lm]; rfl, fun k z e => ?_, fun z hz => ?_⟩
          · refine SameBut.updN (fun b o nb e => sp _ _ (k3 _ _ (ne_of_none e D0) nb (sb2 _ _ nb e))) eR
          · rw [upd_same, ← List.append_assoc, List.map_append (l₂ := [p])]
            rfl
          · rw [List.getElem?_append] at e
            split at e
            · next hk =>
              obtain ⟨b, e1, e2⟩ := hts k z e
              refine ⟨b, by rw [List.getElem?_append, if_pos (by omega)]; exact e1, ?_⟩
              have nbR : b ≠ R := ne_of e2 eR2 (by intro z; cases z)
              rw [upd_ne nbR]
              exact sp _ _ (k3 _ _ (ne_of_none e2 eD) (hf2.tup e2) e2)
            · next hk =>
              have h2 := (List.getElem?_eq_some_iff.mp e).1
              rw [List.length_singleton] at h2
              have z0 : k - more.length = 0 := by omega
              rw [z0] at e
              have : x = z := Option.some.inj e
              subst this
              refine ⟨p, ?_, ?_⟩
              · rw [List.getElem?_append, if_neg (by omega)]
                have z1 : k - ts.length = 0 := by omega
                rw [z1]
                rfl
              · rw [upd_ne npR, upd_same]
          · rcases List.mem_append.mp hz with hz | hz
            · exact hmo z hz
            · rw [List.mem_singleton.mp hz]
              exact ⟨lx, hx⟩
    · rintro σ H2 ⟨y5, ts, more, rfl, sb2, hf2, eR2, lt, lm, hts, hmo⟩
      refine ⟨.ref R, rfl, R, _, rfl, .inl ⟨SqL.of eR2, fun p ep => ?_⟩⟩
      have sp := same_upd (o := .tup ((as ++ ts).map V.ref)) ep
      refine q p more _ (sb2.trans sp.but) (hf2.same sp) ⟨as ++ ts, upd_same, by rw [List.length_append, List.length_append, hal, lt, lm], fun i x e => ?_⟩ (by omega) hmo
      rw [List.getElem?_append] at e
      split at e
      · next hk =>
        obtain ⟨b, e1, e2⟩ := has i x e
        exact ⟨b, by rw [List.getElem?_append, if_pos (by omega)]; exact e1, sp _ _ (sb2 _ _ (hf.tup e2) e2)⟩
      · next hk =>
        obtain ⟨b, e1, e2⟩ := hts _ x e
        exact ⟨b, by rw [List.getElem?_append, if_neg (by omega), hal]; exact e1, sp _ _ e2⟩
end
end Bw
set_option Elab.async false
set_option linter.all false
set_option maxRecDepth 100000
set_option maxHeartbeats 4000000
namespace Bw
open PySem PySem.Spec PyProof.Rows L2
theorem ent_mat {n : Nat} {B : Nat → Nat → Int} {more : List (List Int)} {i j : Nat} (hi : i < n) (hj : j < n) : ent (matRows n B ++ more) i j = B i j := by
  unfold ent
  have e : (matRows n B ++ more).getD i [] = matRow n (B i) := by
    rw [List.getD_eq_getElem?_getD, List.getElem?_append, if_pos (by rw [matRows_len]; exact hi), matRows_get hi]
    rfl
  rw [e, matRow_getD hj]
theorem tabOk_drawn {n : Nat} {r : Int} {ls : List Int} {B : Nat → Nat → Int} {more : List (List Int)} (n1 : 1 ≤ n) (n4 : n ≤ 4) (g : Good n r ls B) (r1 : 0 ≤ r) (r12 : r ≤ 12) (hm : more.length ≤ 4) (hmo : ∀ x ∈ more, x.length = n ∧ ∀ t ∈ x, -50 ≤ t ∧ t ≤ 50) : TabOk (matRows n B ++ more) n := by
  have hmat : ∀ x ∈ matRows n B, ∃ i, i < n ∧ x = matRow n (B i) := fun x hx => by
    unfold matRows at hx
    obtain ⟨i, hi, rfl⟩ := List.mem_map.mp hx
    exact ⟨i, List.mem_range.mp hi, rfl⟩
  refine ⟨n1, n4, ?_, ?_, fun x hx => ?_, fun x hx t ht => ?_, loadAt ls, fun i hi => ?_, fun i j hi hj => ?_⟩
  · rw [List.length_append, matRows_len]
    omega
  · rw [List.length_append, matRows_len]
    omega
  · rcases List.mem_append.mp hx with hx | hx
    · obtain ⟨i, _, rfl⟩ := hmat x hx
      exact matRow_len ..
    · exact (hmo x hx).1
  · rcases List.mem_append.mp hx with hx | hx
    · obtain ⟨i, _, rfl⟩ := hmat x hx
      unfold matRow at ht
      obtain ⟨j, _, rfl⟩ := List.mem_map.mp ht
      have := g.bd i j
      omega
    · exact (hmo x hx).2 t ht
  · have h : i < ls.length := by
      rw [g.len]
      exact hi
    rw [loadAt_get (List.getElem?_eq_getElem h)]
    have := g.load _ (List.getElem_mem h)
    omega
  · rw [ent_mat hi hj, ent_mat hj hi]
    exact g.ev i j hi hj
section
variable {P : Program} {w : World} {K : PySem.W.Frag} {mg : Str → Option Value} {base : Heap}
abbrev s_law_table : Stmt := topS 87
abbrev n_law_table : List Str := ["_law_feed_here", "_law_most_buds", "_law_most_roots", "_law_ties"]
theorem sc_law_table : FnScope n_law_table ["_law_feed_here", "_law_most_buds", "_law_most_roots"] (defScope s_law_table) := ⟨rfl, rfl, rfl, by decide +kernel, rfl, by decide +kernel, by decide +kernel⟩
def spTable : Sp := fun vs H Q _ => ∃ (f l : Addr) (mb mr : Nat), vs = [.ref f, .int mb, .int mr] ∧ FeedAt H f l ∧ 1 ≤ mb ∧ mb ≤ 4 ∧ mr ≤ 4 ∧
  ∀ (a : Addr) (rows : List (List Int)) (n : Nat) (H' : Hp), SameBut f H H' → FeedAt H' f l → TabAt H' a rows → TabOk rows n → n ≤ mb → rows.length ≤ n + mr → Q (.ref a) H'
theorem ok_table {f : Addr} {fd : FuncData} (F : Fun K "_law_table" "_law_table" s_law_table f fd) (T : Tx mg) (c_law_draw : Cal P w K mg base CX0 1 "_law_draw" ["_law_feed_here", "_law_many"] spDraw)
    (c_law_even : Cal P w K mg base CX0 3 "_law_even" ["_law_feed_here", "_law_many", "_law_reach"] spEven) (c_law_roots : Cal P w K mg base CX0 2 "_law_roots" ["_law_feed_here", "_law_ties", "_law_most", "_law_reach"] spRoots) :
    FnOk P w K mg base CX0 4 f fd ["_law_feed_here", "_law_most_buds", "_law_most_roots"] spTable := by
  refine F.ok sc_law_table (fun vs H Q E h => ?_) (fun cdv A outer s H vs Q E hr h => ?_)
  · obtain ⟨f, l, mb, mr, rfl, _⟩ := h
    rfl
  · obtain ⟨f, l, mb, mr, rfl, hf, b1, b4, r4, q⟩ := h
    refine ⟨_, (pss_cons (ps_set (i := 3) sc_law_table.nd rfl (.inl rfl) (pe_cal c_law_even hr (by rfl) (pa_cons (pv 0) (pa_cons (pe_op op_add pe_int (pe_cal c_law_draw (hr.mono (by decide)) (by rfl) (pa_cons (pv 0) (pa_cons (pv 1) pa_nil)))) (pa_cons pe_int pa_nil)))))
  (pss_one (ps_ret (pe_cal c_law_roots (hr.mono (by decide)) (by rfl) (pa_cons (pv 0) (pa_cons (pv 3) (pa_cons (pv 2) (pa_cons pe_int pa_nil)))))))), ?_⟩
    refine ⟨.ref f, rfl, .ref f, rfl, .int mb, rfl, f, l, _, rfl, hf, by omega, by omega, fun v H1 v0 v1 sb1 hf1 => ?_⟩
    obtain ⟨n, hn⟩ : ∃ n : Nat, 1 + v = (n : Int) := ⟨(1 + v).toNat, by omega⟩
    refine ⟨_, _, rfl, rfl, f, l, n, 2, by show [V.ref f, V.int (1 + v), V.int 2] = _; rw [hn], hf1, by omega, by decide, by decide, fun a ls B H2 sb2 hf2 hT2 g2 => ?_⟩
    have hw : ∀ x ∈ matRows n B, x.length = n := fun x hx => by
      unfold matRows at hx
      obtain ⟨i, hi, rfl⟩ := List.mem_map.mp hx
      exact matRow_len ..
    refine ⟨.ref f, rfl, .ref a, rfl, .int mr, rfl, f, l, a, _, n, mr, 2, rfl, hf2, hT2, by omega, by omega, by rw [matRows_len]; omega, by rw [matRows_len]; omega, hw, r4, by decide, by decide, fun b more H3 sb3 hf3 hT3 hm hmo => ?_⟩
    refine q b _ n _ (sb1.trans (sb2.trans sb3)) hf3 hT3 (tabOk_drawn (by omega) (by omega) g2 (by decide) (by decide) (by omega) fun x hx => ⟨(hmo x hx).1, fun t ht => ?_⟩) (by omega) ?_
    · have := (hmo x hx).2 t ht
      omega
    · rw [List.length_append, matRows_len]
      omega
end
end Bw
set_option Elab.async false
set_option linter.all false
set_option maxRecDepth 100000
set_option maxHeartbeats 4000000
namespace Bw
open PySem PySem.Spec PyProof.Rows L2
theorem ip_mul {X : Cx} : PIp X .Mult (rI CMul fun i j => .int (i * j)) := fun pins s σ H x y v u Q I a b q => iop_mul pins s σ H x y v u Q I a b q
section
variable {P : Program} {w : World} {K : PySem.W.Frag} {mg : Str → Option Value} {base : Heap}
/-! ### is_number -/
abbrev s_is_number : Stmt := topS 14
abbrev n_is_number : List Str := ["thing"]
theorem sc_is_number : FnScope n_is_number ["thing"] (defScope s_is_number) := ⟨rfl, rfl, rfl, by decide +kernel, rfl, by decide +kernel, by decide +kernel⟩
def spIsNum : Sp := fun vs H Q _ => ∃ i : Int, vs = [.int i] ∧ Q (.bl true) H
theorem ok_isnum {f : Addr} {fd : FuncData} {k : Nat} (F : Fun K "is_number" "is_number" s_is_number f fd) (T : Tx mg) : FnOk P w K mg base CX0 (k + 1) f fd ["thing"] spIsNum := by
  refine F.ok sc_is_number (fun vs H Q E h => ?_) (fun cdv A outer s H vs Q E hr h => ?_)
  · obtain ⟨i, rfl, _⟩ := h
    rfl
  · obtain ⟨i, rfl, q⟩ := h
    refine ⟨_, (pss_one (ps_ret (pe_and (pe_callB (c_isi (K := K)) (by rfl) T.isinstance (by decide +kernel) (pa_cons (pv 0) (pa_cons (pe_bltn (v := .ty "int") (by rfl) T.int (by decide +kernel) rfl) pa_nil))) (pe_one (pe_not (pe_callB (c_isi (K := K)) (by rfl) T.isinstance (by decide +kernel) (pa_cons (pv 0) (pa_cons (pe_bltn (v := .ty "bool") (by rfl) T.bool (by decide +kernel) rfl) pa_nil)))))))), ?_⟩
    refine ⟨.int i, rfl, _, _, _, _, true, rfl, .ty "int", .base (.int i), kit_ty (by decide +kernel), true, rfl, ?_⟩
    exact ⟨.int i, rfl, _, _, _, _, false, rfl, .ty "bool", .base (.int i), kit_ty (by decide +kernel), false, rfl, q⟩
/-! ### is_row -/
abbrev s_is_row : Stmt := topS 35
abbrev n_is_row : List Str := ["row", "many", "tie"]
theorem sc_is_row : FnScope n_is_row ["row", "many"] (defScope s_is_row) := ⟨rfl, rfl, rfl, by decide +kernel, rfl, by decide +kernel, by decide +kernel⟩
def spIsRow : Sp := fun vs H Q _ => ∃ (a : Addr) (r : List Int), vs = [.ref a, .int r.length] ∧ H a = some (.tup (r.map V.int)) ∧ r.length ≤ 4 ∧ (∀ t ∈ r, -50 ≤ t ∧ t ≤ 50) ∧ ∀ H', Same H H' → Q (.bl true) H'
theorem all_rep (n : Nat) : (List.replicate n true).all id = true := by
  rw [List.all_eq_true]
  intro x hx
  exact List.eq_of_mem_replicate hx
theorem ok_isrow {f : Addr} {fd : FuncData} (F : Fun K "is_row" "is_row" s_is_row f fd) (T : Tx mg) (c_is_number : Cal P w K mg base CX0 1 "is_number" ["thing"] spIsNum) : FnOk P w K mg base CX0 2 f fd ["row", "many"] spIsRow := by
  refine F.ok sc_is_row (fun vs H Q E h => ?_) (fun cdv A outer s H vs Q E hr h => ?_)
  · obtain ⟨a, r, rfl, _⟩ := h
    rfl
  · obtain ⟨a, r, rfl, ha, l4, hb, q⟩ := h
    refine ⟨_, (pss_cons (ps_if (PW.pt (pw_or (pt_not (pt_val (pe_callB (c_isi (K := K)) (by rfl) T.isinstance (by decide +kernel) (pa_cons (pv 0) (pa_cons (pe_bltn (v := .ty "tuple") (by rfl) T.tuple (by decide +kernel) rfl) pa_nil))))) (pw_or1 (pt_cmpR op_ne (pe_callB (c_len (K := K)) (by rfl) T.len PySem.boot_len (pa_cons (pv 0) pa_nil)) (pv 1) (nomark _)))))
    (pss_one (ps_ret pe_bl))
    pss_nil)
  (pss_one (ps_ret (pe_callB (c_all (K := K) rfl) (by rfl) T.all (by decide +kernel) (pa_cons (pe_lc (own := [("tie", 2)]) (by rfl) sc_is_row.nd (p_tup (K := K) (pv 0)) (blkOk_by (own := [("tie", 2)]) (N := n_is_row) (sc := defScope s_is_row) (by decide +kernel)) (fun _ _ _ _ _ => (pg_name (i := 2) sc_is_row.nd rfl (.inl rfl))) (fun _ _ _ _ _ => pts_nil) (fun _ _ _ _ _ => (pe_and (pe_cal c_is_number hr (by rfl) (pa_cons (pv 2) pa_nil)) (pe_one (pe_cmpR op_le (pe_callB call_abs (by rfl) T.abs (by decide +kernel) (pa_cons (pv 2) pa_nil)) (pe_gint (by rfl) T.MOST_TIE) (nomark _)))))) pa_nil))))), ?_⟩
    refine ⟨.ref a, rfl, _, _, _, _, true, rfl, .ty "tuple", .base (.tup ha), kit_ty (by decide +kernel), true, rfl, ?_⟩
    refine iteF ⟨.ref a, rfl, a, _, rfl, .inr (SqT.of ha), .int r.length, rfl, rfl, _, rfl, ?_⟩
    rw [List.length_map]
    refine iteNS rfl ?_
    -- all([..])
    refine ⟨.ref a, rfl, a, rfl, ⟨_, SqT.of ha⟩, fun D eD => ?_⟩
    have naD : a ≠ D := ne_of_none ha eD
    refine lc_tup (K := K) (a := a) (xs := r.map V.int) (fun j H' => H' D = some (.lst ((List.replicate j true).map V.bl)) ∧ ∀ b o, b ≠ D → H b = some o → H' b = some o) ⟨upd_same, fun b o n e => by rw [upd_ne n]; exact e⟩ (fun j H' _ ⟨_, k⟩ => SqT.of (k _ _ naD ha)) ?_ ?_
    · rintro j v H1 hv ⟨e1, k1⟩
      obtain ⟨t, ht, rfl⟩ := int_at hv
      have hj : j < r.length := (List.getElem?_eq_some_iff.mp ht).1
      have hbt := hb t (List.mem_of_getElem? ht)
      refine ⟨rfl, .int t, rfl, t, rfl, true, rfl, ?_⟩
      refine ⟨.int t, rfl, t, rfl, _, _, rfl, rfl, _, e1, by rw [List.length_map, List.length_replicate]; exact small1000 (by omega), ?_, fun b o n e => ?_⟩
      · have ed : decide ((if t < 0 then -t else t) ≤ 50) = true := decide_eq_true (by split <;> omega)
        rw [upd_same]
        show some (HO.lst (_ ++ [V.bl (decide ((if t < 0 then -t else t) ≤ 50))])) = _
        rw [ed, List.replicate_succ', List.map_append]
        rfl
      · rw [upd_ne n]
        exact k1 _ _ n e
    · rintro H1 ⟨e1, k1⟩
      refine ⟨D, _, rfl, SqL.of e1, ?_⟩
      rw [all_rep]
      exact q _ fun b o e => k1 _ _ (ne_of_none e eD) e
/-! ### bud_count -/
abbrev s_bud_count : Stmt := topS 39
abbrev n_bud_count : List Str := ["table"]
theorem sc_bud_count : FnScope n_bud_count ["table"] (defScope s_bud_count) := ⟨rfl, rfl, rfl, by decide +kernel, rfl, by decide +kernel, by decide +kernel⟩
/-- a table's row, tracked -/
theorem TabAt.row {H : Hp} {a : Addr} {rows : List (List Int)} (h : TabAt H a rows) {i : Nat} (hi : i < rows.length) : ∃ (as : List Addr) (b : Addr), H a = some (.tup (as.map V.ref)) ∧ (as.map V.ref)[i]? = some (.ref b) ∧ H b = some (.tup ((rows.getD i []).map V.int)) := by
  obtain ⟨as, h1, h2, h3⟩ := h
  obtain ⟨b, e1, e2⟩ := h3 i _ (List.getElem?_eq_getElem hi)
  refine ⟨as, b, h1, by rw [List.getElem?_map, e1]; rfl, ?_⟩
  rw [List.getD_eq_getElem?_getD, List.getElem?_eq_getElem hi]
  exact e2
theorem row_len {rows : List (List Int)} {n i : Nat} (w : ∀ r ∈ rows, r.length = n) (hi : i < rows.length) : (rows.getD i []).length = n := by
  rw [List.getD_eq_getElem?_getD, List.getElem?_eq_getElem hi]
  exact w _ (List.getElem_mem hi)
def spBuds : Sp := fun vs H Q _ => ∃ (a : Addr) (rows : List (List Int)) (n : Nat), vs = [.ref a] ∧ TabAt H a rows ∧ 0 < rows.length ∧ (∀ r ∈ rows, r.length = n) ∧ Q (.int n) H
theorem ok_buds {f : Addr} {fd : FuncData} {k : Nat} (F : Fun K "bud_count" "bud_count" s_bud_count f fd) (T : Tx mg) : FnOk P w K mg base CX0 (k + 1) f fd ["table"] spBuds := by
  refine F.ok sc_bud_count (fun vs H Q E h => ?_) (fun cdv A outer s H vs Q E hr h => ?_)
  · obtain ⟨a, rows, n, rfl, _⟩ := h
    rfl
  · obtain ⟨a, rows, n, rfl, hT, h0, hw, q⟩ := h
    refine ⟨_, (pss_one (ps_ret (pe_callB (c_len (K := K)) (by rfl) T.len PySem.boot_len (pa_cons (pe_ix (i_tup (K := K)) (pv 0) pe_int (fun _ _ => rfl)) pa_nil)))), ?_⟩
    obtain ⟨as, b, e1, e2, e3⟩ := hT.row h0
    refine ⟨.ref a, rfl, a, _, 0, .ref b, rfl, rfl, SqT.of e1, atI_nat (j := 0) e2, b, _, rfl, .inr (SqT.of e3), ?_⟩
    rw [List.length_map, row_len hw h0]
    exact q
/-! ### pair_bars -/
abbrev s_pair_bars : Stmt := topS 41
abbrev n_pair_bars : List Str := ["table", "i", "j", "one", "other"]
theorem sc_pair_bars : FnScope n_pair_bars ["table", "i", "j"] (defScope s_pair_bars) := ⟨rfl, rfl, rfl, by decide +kernel, rfl, by decide +kernel, by decide +kernel⟩
def spPair : Sp := fun vs H Q _ => ∃ (a : Addr) (rows : List (List Int)) (n i j : Nat), vs = [.ref a, .int i, .int j] ∧ TabAt H a rows ∧ TabOk rows n ∧ i < n ∧ j < n ∧ Q (.bl false) H
theorem ent_get {rows : List (List Int)} {n i j : Nat} (w : ∀ r ∈ rows, r.length = n) (hi : i < rows.length) (hj : j < n) : ((rows.getD i []).map V.int)[j]? = some (.int (ent rows i j)) := by
  have h := row_len w hi
  unfold ent
  have hj2 : j < (rows.getD i []).length := by omega
  rw [List.getElem?_map, List.getElem?_eq_getElem hj2, List.getD_eq_getElem?_getD (i := j), List.getElem?_eq_getElem hj2]
  rfl
theorem ent_bd {rows : List (List Int)} {n i j : Nat} (O : TabOk rows n) (hi : i < rows.length) (hj : j < n) : -50 ≤ ent rows i j ∧ ent rows i j ≤ 50 := by
  have h := row_len O.wide hi
  have hj2 : j < (rows.getD i []).length := by omega
  have e : ent rows i j = (rows.getD i [])[j] := by
    unfold ent
    rw [List.getD_eq_getElem?_getD (i := j), List.getElem?_eq_getElem hj2]
    rfl
  rw [e]
  refine O.tie (rows.getD i []) ?_ _ (List.getElem_mem hj2)
  rw [List.getD_eq_getElem?_getD, List.getElem?_eq_getElem hi]
  exact List.getElem_mem hi
theorem pair_math {x y c d : Int} (hc : 0 < c) (hd : 0 < d) (e : c * x = -(d * y)) : (x = 0 ∧ y = 0) ∨ x * y < 0 := by
  rcases Int.lt_trichotomy x 0 with hx | hx | hx
  · right
    have h1 : c * x < 0 := Int.mul_neg_of_pos_of_neg hc hx
    have h2 : 0 < y := by
      rcases Int.lt_or_le 0 y with h | h
      · exact h
      · have := Int.mul_nonpos_of_nonneg_of_nonpos (Int.le_of_lt hd) h
        omega
    exact Int.mul_neg_of_neg_of_pos hx h2
  · left
    subst hx
    rw [Int.mul_zero] at e
    refine ⟨rfl, ?_⟩
    have : d * y = 0 := by omega
    rcases Int.mul_eq_zero.mp this with h | h
    · omega
    · exact h
  · right
    have h1 : 0 < c * x := Int.mul_pos hc hx
    have h2 : y < 0 := by
      rcases Int.lt_or_le y 0 with h | h
      · exact h
      · have := Int.mul_nonneg (Int.le_of_lt hd) h
        omega
    exact Int.mul_neg_of_pos_of_neg hx h2
theorem ok_pair {f : Addr} {fd : FuncData} {k : Nat} (F : Fun K "pair_bars" "pair_bars" s_pair_bars f fd) (T : Tx mg) : FnOk P w K mg base CX0 (k + 1) f fd ["table", "i", "j"] spPair := by
  refine F.ok sc_pair_bars (fun vs H Q E h => ?_) (fun cdv A outer s H vs Q E hr h => ?_)
  · obtain ⟨a, rows, n, i, j, rfl, _⟩ := h
    rfl
  · obtain ⟨a, rows, n, i, j, rfl, hT, O, hi, hj, q⟩ := h
    refine ⟨_, (pss_cons (ps_set (i := 3) sc_pair_bars.nd rfl (.inl rfl) (pe_ix (i_tup (K := K)) (pe_ix (i_tup (K := K)) (pv 0) (pv 1) (fun _ _ => rfl)) (pv 2) (fun _ _ => rfl)))
  (pss_cons (ps_set (i := 4) sc_pair_bars.nd rfl (.inl rfl) (pe_ix (i_tup (K := K)) (pe_ix (i_tup (K := K)) (pv 0) (pv 2) (fun _ _ => rfl)) (pv 1) (fun _ _ => rfl)))
  (pss_one (ps_ret (pe_and (pe_not (pe_and (pe_cmpR op_eq (pv 3) pe_int (nomark _)) (pe_one (pe_cmpR op_eq (pv 4) pe_int (nomark _))))) (pe_one (pe_cmpR op_ge (pe_op op_mul (pv 3) (pv 4)) pe_int (nomark _)))))))), ?_⟩
    have hl := O.len
    have hi2 : i < rows.length := by omega
    have hj2 : j < rows.length := by omega
    obtain ⟨as, bi, e1, e2, e3⟩ := hT.row hi2
    obtain ⟨as', bj, e1', e2', e3'⟩ := hT.row hj2
    obtain ⟨d, d0, dv⟩ := O.even
    have key := pair_math (d0 i hi) (d0 j hj) (dv i j hi hj)
    have bd := ent_bd O hi2 hj
    refine ⟨.ref a, rfl, .int i, rfl, a, _, i, .ref bi, rfl, rfl, SqT.of e1, atI_nat e2, .int j, rfl, bi, _, j, _, rfl, rfl, SqT.of e3, atI_nat (ent_get O.wide hi2 hj), ?_⟩
    refine ⟨.ref a, rfl, .int j, rfl, a, _, j, .ref bj, rfl, rfl, SqT.of e1', atI_nat e2', .int i, rfl, bj, _, i, _, rfl, rfl, SqT.of e3', atI_nat (ent_get O.wide hj2 hi), ?_⟩
    generalize ent rows i j = x at key bd
    generalize ent rows j i = y at key
    refine ⟨.int x, rfl, rfl, _, rfl, ?_⟩
    rcases key with ⟨rfl, rfl⟩ | key
    · exact ⟨.int 0, rfl, rfl, true, rfl, false, rfl, q⟩
    · refine ite2 (fun e => ?_) (fun e => ?_)
      · have : x = 0 := V.int.inj (of_decide_eq_true e)
        subst this
        omega
      · refine ⟨false, rfl, true, rfl, .int x, rfl, .int y, rfl, x, y, rfl, rfl, .inl ⟨by omega, by omega⟩, _, _, rfl, rfl, ?_⟩
        have z : decide (x * y ≥ 0) = false := decide_eq_false (by omega)
        show Q (V.bl (decide (x * y ≥ 0))) H
        rw [z]
        exact q
end
end Bw
set_option Elab.async false
set_option linter.all false
set_option maxRecDepth 100000
set_option maxHeartbeats 4000000
namespace Bw
open PySem PySem.Spec PyProof.Rows L2
/-! ### walks whose turn is any reading -/
theorem it_list {K : PySem.W.Frag} {a : Addr} {xs : List V} {H1 : Hp} {Qd : Hp → Prop} {Body : V → Hp → (Hp → Prop) → Prop} (Pv : Nat → Hp → Prop) (h0 : Pv 0 H1) (hl : ∀ i H, i ≤ xs.length → Pv i H → SqL K H a xs)
    (hs : ∀ i x H, xs[i]? = some x → Pv i H → Body x H (Pv (i + 1))) (hd : ∀ H, Pv xs.length H → Qd H) :
    ∃ W : Nat → Nat → Hp → Prop, (∃ m, W 0 m H1) ∧ ∀ i m H, W i m H → ((Itl K a).stop i H ∧ Qd H) ∨ ((Itl K a).go i H ∧ ∃ Nx : Hp → Prop, (∀ H', Nx H' → ∃ m', m' < m ∧ W (i + 1) m' H') ∧ ∀ x H', (Itl K a).yld i H x H' → Body x H' Nx) := by
  refine ⟨fun i m H => m = xs.length - i ∧ i ≤ xs.length ∧ Pv i H, ⟨xs.length, by simp, Nat.zero_le _, h0⟩, ?_⟩
  rintro i m H ⟨rfl, hi, p⟩
  have q := hl i H hi p
  by_cases hlt : i < xs.length
  · refine .inr ⟨⟨xs, xs[i], q, by simp [hlt]⟩, Pv (i + 1), fun H' p' => ⟨xs.length - (i + 1), by omega, rfl, hlt, p'⟩, fun x H' y => ?_⟩
    obtain ⟨e, y⟩ := y
    subst e
    exact hs i x _ (y _ q) p
  · exact .inl ⟨⟨xs, q, by omega⟩, hd H (by
      have : i = xs.length := by omega
      rw [this] at p
      exact p)⟩
theorem it_range {lo : Int} {n : Nat} {H1 : Hp} {Qd : Hp → Prop} {Body : V → Hp → (Hp → Prop) → Prop} (Pv : Nat → Hp → Prop) (h0 : Pv 0 H1) (hs : ∀ i H, i < n → Pv i H → Body (.int (lo + i)) H (Pv (i + 1))) (hd : ∀ H, Pv n H → Qd H) :
    ∃ W : Nat → Nat → Hp → Prop, (∃ m, W 0 m H1) ∧ ∀ i m H, W i m H → ((Itr lo n).stop i H ∧ Qd H) ∨ ((Itr lo n).go i H ∧ ∃ Nx : Hp → Prop, (∀ H', Nx H' → ∃ m', m' < m ∧ W (i + 1) m' H') ∧ ∀ x H', (Itr lo n).yld i H x H' → Body x H' Nx) := by
  refine ⟨fun i m H => m = n - i ∧ i ≤ n ∧ Pv i H, ⟨n, by simp, Nat.zero_le _, h0⟩, ?_⟩
  rintro i m H ⟨rfl, hi, p⟩
  by_cases hlt : i < n
  · refine .inr ⟨hlt, Pv (i + 1), fun H' p' => ⟨n - (i + 1), by omega, rfl, hlt, p'⟩, fun x H' y => ?_⟩
    obtain ⟨e, y⟩ := y
    subst e y
    exact hs i _ hlt p
  · exact .inl ⟨(by show n ≤ i; omega), hd H (by
      have : i = n := by omega
      rw [this] at p
      exact p)⟩
section
variable {P : Program} {w : World} {K : PySem.W.Frag} {mg : Str → Option Value} {base : Heap}
/-! ### check_form -/
abbrev s_check_form : Stmt := topS 36
abbrev n_check_form : List Str := ["table", "many", "row"]
theorem sc_check_form : FnScope n_check_form ["table"] (defScope s_check_form) := ⟨rfl, rfl, rfl, by decide +kernel, rfl, by decide +kernel, by decide +kernel⟩
/-- what is asked of a good table -/
def spGood : Sp := fun vs H Q _ => ∃ (a : Addr) (rows : List (List Int)) (n : Nat), vs = [.ref a] ∧ TabAt H a rows ∧ TabOk rows n ∧ ∀ H', Same H H' → Q .non H'
theorem ok_form {f : Addr} {fd : FuncData} (F : Fun K "check_form" "check_form" s_check_form f fd) (T : Tx mg) (c_is_row : Cal P w K mg base CX0 2 "is_row" ["row", "many"] spIsRow) : FnOk P w K mg base CX0 3 f fd ["table"] spGood := by
  refine F.ok sc_check_form (fun vs H Q E h => ?_) (fun cdv A outer s H vs Q E hr h => ?_)
  · obtain ⟨a, rows, n, rfl, _⟩ := h
    rfl
  · obtain ⟨a, rows, n, rfl, hT, O, q⟩ := h
    refine ⟨_, (pss_cons (ps_if (PW.pt (pw_or (pt_not (pt_val (pe_callB (c_isi (K := K)) (by rfl) T.isinstance (by decide +kernel) (pa_cons (pv 0) (pa_cons (pe_bltn (v := .ty "tuple") (by rfl) T.tuple (by decide +kernel) rfl) pa_nil))))) (pw_or (pt_cmpR op_eq (pe_callB (c_len (K := K)) (by rfl) T.len PySem.boot_len (pa_cons (pv 0) pa_nil)) pe_int (nomark _)) (pw_or1 (pt_not (pt_val (pe_callB (c_isi (K := K)) (by rfl) T.isinstance (by decide +kernel) (pa_cons (pe_ix (i_tup (K := K)) (pv 0) pe_int (fun _ _ => rfl)) (pa_cons (pe_bltn (v := .ty "tuple") (by rfl) T.tuple (by decide +kernel) rfl) pa_nil)))))))))
    (pss_one ps_never)
    pss_nil)
  (pss_cons (ps_set (i := 1) sc_check_form.nd rfl (.inr rfl) (pe_callB (c_len (K := K)) (by rfl) T.len PySem.boot_len (pa_cons (pe_ix (i_tup (K := K)) (pv 0) pe_int (fun _ _ => rfl)) pa_nil)))
  (pss_cons (ps_if (PW.pt (pw_or (pt_not (pt_chain op_le op_le pe_int (pv 1) (pe_gint (by rfl) T.MOST_BUDS))) (pw_or1 (pt_not (pt_chain op_le op_le (pv 1) (pe_callB (c_len (K := K)) (by rfl) T.len PySem.boot_len (pa_cons (pv 0) pa_nil)) (pe_op op_add (pv 1) (pe_gint (by rfl) T.MOST_ROOTS)))))))
    (pss_one ps_never)
    pss_nil)
  (pss_one (ps_if (pt_not (pt_val (pe_callB (c_all (K := K) rfl) (by rfl) T.all (by decide +kernel) (pa_cons (pe_lc (own := [("row", 2)]) (by rfl) sc_check_form.nd (p_tup (K := K) (pv 0)) (blkOk_by (own := [("row", 2)]) (N := n_check_form) (sc := defScope s_check_form) (by decide +kernel)) (fun _ _ _ _ _ => (pg_name (i := 2) sc_check_form.nd rfl (.inl rfl))) (fun _ _ _ _ _ => pts_nil) (fun _ _ _ _ _ => (pe_cal c_is_row hr (by rfl) (pa_cons (pv 2) (pa_cons (pv 1) pa_nil))))) pa_nil))))
    (pss_one ps_never)
    pss_nil))))), ?_⟩
    have h1 := O.n1
    have h2 := O.n4
    have h3 := O.len
    have h4 := O.len4
    have l0 : 0 < rows.length := by omega
    obtain ⟨as, ha, hal, has⟩ := id hT
    obtain ⟨b, hb1, hb⟩ := has 0 _ (List.getElem?_eq_getElem l0)
    have hb0 : (as.map V.ref)[0]? = some (.ref b) := by rw [List.getElem?_map, hb1]; rfl
    have hw0 := O.wide _ (List.getElem_mem l0)
    -- the form
    refine ⟨.ref a, rfl, _, _, _, _, true, rfl, .ty "tuple", .base (.tup ha), kit_ty (by decide +kernel), true, rfl, ?_⟩
    refine iteF ⟨.ref a, rfl, a, _, rfl, .inr (SqT.of ha), rfl, _, rfl, ite2 (fun e => ?_) (fun _ => ?_)⟩
    · have := V.int.inj (of_decide_eq_true e)
      rw [List.length_map] at this
      omega
    refine ⟨.ref a, rfl, a, _, 0, .ref b, rfl, rfl, SqT.of ha, atI_nat (j := 0) hb0, _, _, _, _, true, rfl, .ty "tuple", .base (.tup hb), kit_ty (by decide +kernel), true, rfl, iteF ?_⟩
    -- many
    refine ⟨.ref a, rfl, a, _, 0, .ref b, rfl, rfl, SqT.of ha, atI_nat (j := 0) hb0, b, _, rfl, .inr (SqT.of hb), ?_⟩
    rw [List.length_map, hw0]
    refine ⟨.int n, rfl, _, _, rfl, rfl, _, rfl, ite2 (fun _ => ⟨_, _, rfl, rfl, _, rfl, iteNS (show (n : Int) ≤ 4 by omega) ?_⟩) (fun e => absurd (decide_eq_true (show (1 : Int) ≤ n by omega)) e)⟩
    refine ⟨.int n, rfl, .ref a, rfl, a, _, rfl, .inr (SqT.of ha), _, _, rfl, rfl, _, rfl, ?_⟩
    rw [List.length_map, hal]
    refine ite2 (fun _ => ⟨.int n, rfl, _, _, rfl, rfl, _, _, rfl, rfl, _, rfl, iteNS (show (rows.length : Int) ≤ n + 4 by omega) ?_⟩) (fun e => absurd (decide_eq_true (show (n : Int) ≤ rows.length by omega)) e)
    -- all rows
    refine ⟨.ref a, rfl, a, rfl, ⟨_, SqT.of ha⟩, fun D eD => ?_⟩
    have naD : a ≠ D := ne_of_none ha eD
    refine lc_tup (K := K) (a := a) (xs := as.map V.ref) (fun j H' => H' D = some (.lst ((List.replicate j true).map V.bl)) ∧ ∀ b o, b ≠ D → H b = some o → H' b = some o) ⟨upd_same, fun b o n e => by rw [upd_ne n]; exact e⟩ (fun j H' _ ⟨_, k⟩ => SqT.of (k _ _ naD ha)) ?_ ?_
    · rintro j v H1 hv ⟨e1, k1⟩
      rw [List.getElem?_map] at hv
      cases ej : as[j]? with
      | none =>
        rw [ej] at hv
        cases hv
      | some c =>
        rw [ej] at hv
        cases hv
        have hj : j < rows.length := by
          have := (List.getElem?_eq_some_iff.mp ej).1
          omega
        obtain ⟨c', e2, hc⟩ := has j _ (List.getElem?_eq_getElem hj)
        cases (Option.some.inj (ej.symm.trans e2))
        have hw := O.wide _ (List.getElem_mem hj)
        have ht := O.tie _ (List.getElem_mem hj)
        generalize rows[j] = r at hc hw ht
        refine ⟨rfl, .ref c, rfl, .int n, rfl, c, r, by rw [hw]; rfl, k1 _ _ (ne_of_none hc eD) hc, by omega, ht, fun H2 s2 => ?_⟩
        refine ⟨_, s2 _ _ e1, by rw [List.length_map, List.length_replicate]; exact small1000 (by omega), ?_, fun b o n e => ?_⟩
        · rw [upd_same, List.replicate_succ', List.map_append]
          rfl
        · rw [upd_ne n]
          exact s2 _ _ (k1 _ _ n e)
    · rintro H1 ⟨e1, k1⟩
      refine ⟨D, _, rfl, SqL.of e1, true, ?_, iteF (q _ fun b o e => k1 _ _ (ne_of_none e eD) e)⟩
      rw [all_rep]
/-! ### unlike_rows -/
abbrev s_unlike_rows : Stmt := topS 40
abbrev n_unlike_rows : List Str := ["many", "length", "rows", "step", "row", "number"]
theorem sc_unlike_rows : FnScope n_unlike_rows ["many", "length"] (defScope s_unlike_rows) := ⟨rfl, rfl, rfl, by decide +kernel, rfl, by decide +kernel, by decide +kernel⟩
def ringV (g : List Nat) : List V := g.map fun x => V.int (x : Nat)
/-- tuples of so many places -/
def RingsAt (H : Hp) (n m : Nat) (ts : List Addr) : Prop := ∀ t ∈ ts, ∃ g : List Nat, H t = some (.tup (ringV g)) ∧ g.length = m ∧ ∀ x ∈ g, x < n
def spUnlike : Sp := fun vs H Q _ => ∃ (n m : Nat), vs = [.int n, .int m] ∧ n ≤ 4 ∧ m ≤ 4 ∧ ∀ (p : Addr) (ts : List Addr) (H' : Hp), Same H H' → H' p = some (.lst (ts.map V.ref)) → RingsAt H' n m ts → ts.length ≤ 256 → Q (.ref p) H'
theorem pow4 {i : Nat} (h : i ≤ 4) : 4 ^ i ≤ 256 := Nat.pow_le_pow_right (by decide) h
theorem flat_ring (g : List Nat) : (ringV g).all flatV = true := by
  rw [List.all_eq_true]
  intro x hx
  unfold ringV at hx
  obtain ⟨y, _, rfl⟩ := List.mem_map.mp hx
  rfl
theorem ok_unlike {f : Addr} {fd : FuncData} {k : Nat} (F : Fun K "unlike_rows" "unlike_rows" s_unlike_rows f fd) (T : Tx mg) : FnOk P w K mg base CX0 (k + 1) f fd ["many", "length"] spUnlike := by
  refine F.ok sc_unlike_rows (fun vs H Q E h => ?_) (fun cdv A outer s H vs Q E hr h => ?_)
  · obtain ⟨n, m, rfl, _⟩ := h
    rfl
  · obtain ⟨n, m, rfl, n4, m4, q⟩ := h
    refine ⟨_, (pss_cons (ps_set (i := 2) sc_unlike_rows.nd rfl (.inl rfl) (pe_lst (pa_cons (pe_tup pa_nil) pa_nil)))
      (pss_cons (ps_for PassesOwn.never rfl (pi_range1 (by rfl) T.range (pa_cons (pv 1) pa_nil)) (pg_name (i := 3) sc_unlike_rows.nd rfl (.inl rfl))
        (pss_one (ps_setLc2 (i := 2) (own := [("row", 4), ("number", 5)]) (vs1 := [5]) (by rfl) sc_unlike_rows.nd rfl rfl (sw_true rfl rfl rfl (by decide +kernel)) (p_list (K := K) (pv 2)) (blkOk_by (own := [("row", 4), ("number", 5)]) (N := n_unlike_rows) (sc := defScope s_unlike_rows) (by decide +kernel)) (by decide)
          (fun _ _ _ _ _ => (pg_name (i := 4) sc_unlike_rows.nd rfl (.inl rfl))) (fun _ _ _ _ _ => pts_nil) (fun _ _ _ _ _ => (pi_range1 (by rfl) T.range (pa_cons (pv 0) pa_nil))) (fun _ _ _ _ _ => (pg_name (i := 5) sc_unlike_rows.nd rfl (.inl rfl))) (fun _ _ _ _ _ => pts_one (pt_cmpR (o_notin (K := K)) (pv 5) (pv 4) (by rfl)))
          (fun _ _ _ _ _ => (pe_op (o_cat (K := K)) (pv 4) (pe_tup (pa_cons (pv 5) pa_nil)))))))
      (pss_one (ps_ret (pv 2))))), ?_⟩
    -- rows = [()]
    refine ⟨Nat.zero_le _, fun e he => ⟨by show 1 ≤ sizeLine; decide, fun R eR => ?_⟩⟩
    have s1 := same_upd (o := .tup []) he
    have s2 := same_upd (o := .lst [.ref e]) eR
    refine ⟨.int m, rfl, m, rfl, by omega, by omega, for_range (fun i σ H' => ∃ (y3 : Option V) (R : Addr) (ts : List Addr), σ = [some (.int n), some (.int m), some (.ref R), y3, none, none] ∧ Same H H' ∧ H' R = some (.lst (ts.map V.ref)) ∧ RingsAt H' n i ts ∧ ts.length ≤ 4 ^ i)
      ⟨none, R, [e], rfl, s1.trans s2, upd_same, fun t ht => ?_, Nat.le_refl 1⟩ ?_ ?_⟩
    · rw [List.mem_singleton.mp ht]
      exact ⟨[], s2 _ _ upd_same, rfl, by simp⟩
    · rintro i σ H1 hi ⟨y3, R, ts, rfl, sm, eR1, hts, lts⟩
      have hi : i < m := hi
      have l256 : ts.length ≤ 256 := Nat.le_trans lts (pow4 (by omega))
      refine ⟨.ref R, rfl, R, rfl, ⟨_, SqL.of eR1⟩, fun D eD => ?_⟩
      have nRD : R ≠ D := ne_of_none eR1 eD
      refine it_list (K := K) (a := R) (xs := ts.map V.ref) (fun j H' => ∃ us : List Addr, H' D = some (.lst (us.map V.ref)) ∧ RingsAt H' n (i + 1) us ∧ us.length ≤ 4 * j ∧ ∀ b o, b ≠ D → H1 b = some o → H' b = some o)
        ⟨[], upd_same, fun t ht => by simp at ht, by simp, fun b o n e => by rw [upd_ne n]; exact e⟩ (fun j H' _ ⟨us, _, _, _, k⟩ => SqL.of (k _ _ nRD eR1)) ?_ ?_
      · rintro j v H2 hv ⟨us, eD2, hus, lus, k2⟩
        rw [List.getElem?_map] at hv
        cases ej : ts[j]? with
        | none =>
          rw [ej] at hv
          cases hv
        | some t =>
          rw [ej] at hv
          cases hv
          have hjl := (List.getElem?_eq_some_iff.mp ej).1
          obtain ⟨g, hg, lg, gb⟩ := hts t (List.mem_of_getElem? ej)
          refine ⟨rfl, .int n, rfl, n, rfl, by omega, by omega, it_range (fun x H' => ∃ us : List Addr, H' D = some (.lst (us.map V.ref)) ∧ RingsAt H' n (i + 1) us ∧ us.length ≤ 4 * j + x ∧ ∀ b o, b ≠ D → H1 b = some o → H' b = some o) ⟨us, eD2, hus, lus, k2⟩ ?_ ?_⟩
          · rintro x H3 hx ⟨us, eD3, hus, lus, k3⟩
            have hx : x < n := hx
            have e0 : (0 : Int) + (x : Int) = ((x : Nat) : Int) := by omega
            rw [e0]
            have ht3 := k3 _ _ (ne_of_none hg eD) hg
            refine ⟨rfl, .int x, rfl, .ref t, rfl, t, _, rfl, .inr (SqT.of ht3), rfl, flat_ring g, _, rfl, ite2 (fun _ => ?_) (fun _ => ⟨us, eD3, hus, by omega, k3⟩)⟩
            refine ⟨.ref t, rfl, .int x, rfl, by show 1 ≤ sizeLine; decide, fun c ec => ?_⟩
            have sc := same_upd (o := .tup [.int x]) ec
            have done : ∀ (z : Addr) (H4 : Hp), Same H3 H4 → H4 z = some (.tup (ringV (g ++ [x]))) → ∃ acc, H4 D = some (.lst acc) ∧ acc.length < sizeLine ∧ ∃ us : List Addr, (upd H4 D (.lst (acc ++ [.ref z]))) D = some (.lst (us.map V.ref)) ∧ RingsAt (upd H4 D (.lst (acc ++ [.ref z]))) n (i + 1) us ∧ us.length ≤ 4 * j + (x + 1) ∧ ∀ b o, b ≠ D → H1 b = some o → (upd H4 D (.lst (acc ++ [.ref z]))) b = some o := by
              intro z H4 s4 hz
              have eD4 := s4 _ _ eD3
              refine ⟨_, eD4, by rw [List.length_map]; exact Nat.lt_of_le_of_lt (show us.length ≤ 5000 by omega) (by decide), us ++ [z], by rw [upd_same, List.map_append]; rfl, fun t' ht' => ?_, by rw [List.length_append]; show us.length + 1 ≤ _; omega, fun b o nb e => by rw [upd_ne nb]; exact s4 _ _ (k3 _ _ nb e)⟩
              rcases List.mem_append.mp ht' with ht' | ht'
              · obtain ⟨g', a1, a2, a3⟩ := hus t' ht'
                have a4 := s4 _ _ a1
                refine ⟨g', ?_, a2, a3⟩
                rw [upd_ne (ne_of a4 eD4 (by intro z; cases z))]
                exact a4
              · rw [List.mem_singleton.mp ht']
                refine ⟨g ++ [x], ?_, by rw [List.length_append, lg]; rfl, fun y hy => ?_⟩
                · rw [upd_ne (ne_of hz eD4 (by intro z; cases z))]
                  exact hz
                · rcases List.mem_append.mp hy with hy | hy
                  · exact gb y hy
                  · rw [List.mem_singleton.mp hy]
                    exact hx
            refine ⟨t, c, ringV g, [.int x], rfl, rfl, SqT.of (sc _ _ ht3), SqT.of upd_same, ?_, fun z => ?_, fun _ z => (by cases z), fun _ _ p ep => ?_⟩
            · unfold ringV
              rw [List.length_map]
              show g.length + 1 ≤ sizeLine
              exact Nat.le_of_lt (small1000 (by omega))
            · refine done c _ sc ?_
              rw [upd_same]
              unfold ringV at z ⊢
              rw [List.map_append, z]
              rfl
            · refine done p _ (sc.trans (same_upd ep)) ?_
              rw [upd_same]
              unfold ringV
              rw [List.map_append]
              rfl
          · rintro H3 ⟨us, eD3, hus, lus, k3⟩
            have lus : us.length ≤ 4 * j + ((n : Int)).toNat := lus
            exact ⟨us, eD3, hus, by omega, k3⟩
      · rintro H2 ⟨us, eD2, hus, lus, k2⟩
        rw [List.length_map] at lus
        exact ⟨_, D, us, rfl, fun b o e => k2 _ _ (ne_of_none (sm _ _ e) eD) (sm _ _ e), eD2, hus, by rw [Nat.pow_succ]; omega⟩
    · rintro σ H1 ⟨y3, R, ts, rfl, sm, eR1, hts, lts⟩
      exact ⟨.ref R, rfl, q R ts _ sm eR1 hts (Nat.le_trans lts (pow4 m4))⟩
end
end Bw
set_option Elab.async false
set_option linter.all false
set_option maxRecDepth 100000
set_option maxHeartbeats 4000000
namespace Bw
open PySem PySem.Spec PyProof.Rows L2
/-! ### rings of an even table -/
def np (l : List Nat) : Nat := l.foldr (· * ·) 1
def fl (F : Nat × Nat → Int) (zs : List (Nat × Nat)) : Int := zs.foldl (fun p z => p * F z) 1
theorem fl_abs (F : Nat × Nat → Int) : ∀ (zs : List (Nat × Nat)) (c : Int), (zs.foldl (fun p z => p * F z) c).natAbs = c.natAbs * np (zs.map fun z => (F z).natAbs)
  | [], c => (Nat.mul_one _).symm
  | z :: zs, c => by
    show (zs.foldl (fun p z => p * F z) (c * F z)).natAbs = c.natAbs * ((F z).natAbs * np (zs.map fun z => (F z).natAbs))
    rw [fl_abs F zs, Int.natAbs_mul, Nat.mul_assoc]
theorem np_bal (D : Nat → Nat) (F G : Nat × Nat → Nat) : ∀ zs : List (Nat × Nat), (∀ z ∈ zs, D z.1 * F z = D z.2 * G z) → np ((zs.map (·.1)).map D) * np (zs.map F) = np ((zs.map (·.2)).map D) * np (zs.map G)
  | [], _ => rfl
  | z :: zs, h => by
    have h1 := h z (List.mem_cons_self ..)
    have ih := np_bal D F G zs fun y hy => h y (List.mem_cons_of_mem _ hy)
    show (D z.1 * np ((zs.map (·.1)).map D)) * (F z * np (zs.map F)) = (D z.2 * np ((zs.map (·.2)).map D)) * (G z * np (zs.map G))
    rw [Nat.mul_mul_mul_comm, h1, ih, Nat.mul_mul_mul_comm]
theorem np_append (l m : List Nat) : np (l ++ m) = np l * np m := by
  induction l with
  | nil => exact (Nat.one_mul _).symm
  | cons x l ih =>
    show x * np (l ++ m) = x * np l * np m
    rw [ih, Nat.mul_assoc]
theorem np_pos : ∀ l : List Nat, (∀ x ∈ l, 0 < x) → 0 < np l
  | [], _ => Nat.one_pos
  | x :: l, h => Nat.mul_pos (h x (List.mem_cons_self ..)) (np_pos l fun y hy => h y (List.mem_cons_of_mem _ hy))
def rot (g : List Nat) : List Nat := g.drop 1 ++ g.take 1
theorem rot_len (g : List Nat) : (rot g).length = g.length := by
  unfold rot
  rw [List.length_append, List.length_drop, List.length_take]
  omega
theorem rot_mem {g : List Nat} {x : Nat} (h : x ∈ rot g) : x ∈ g := by
  rcases List.mem_append.mp h with h | h
  · exact List.mem_of_mem_drop h
  · exact List.mem_of_mem_take h
theorem np_rot (D : Nat → Nat) (g : List Nat) : np ((rot g).map D) = np (g.map D) := by
  unfold rot
  rw [List.map_append, np_append, Nat.mul_comm, ← np_append, ← List.map_append, List.take_append_drop]
theorem ring_math {rows : List (List Int)} {n : Nat} (O : TabOk rows n) {g : List Nat} (hg : ∀ x ∈ g, x < n) :
    (fl (fun z => ent rows z.1 z.2) (g.zip (rot g))).natAbs = (fl (fun z => ent rows z.2 z.1) (g.zip (rot g))).natAbs := by
  obtain ⟨d, d0, dv⟩ := O.even
  have b := np_bal (fun x => (d x).natAbs) (fun z => (ent rows z.1 z.2).natAbs) (fun z => (ent rows z.2 z.1).natAbs) (g.zip (rot g)) (fun z hz => by
    have h1 := hg _ (List.of_mem_zip hz).1
    have h2 := hg _ (rot_mem (List.of_mem_zip hz).2)
    have e := congrArg Int.natAbs (dv _ _ h1 h2)
    rw [Int.natAbs_neg, Int.natAbs_mul, Int.natAbs_mul] at e
    exact e)
  rw [List.map_fst_zip (by rw [rot_len]; exact Nat.le_refl _), List.map_snd_zip (by rw [rot_len]; exact Nat.le_refl _), np_rot] at b
  have pos : 0 < np (g.map fun x => (d x).natAbs) := np_pos _ fun x hx => by
    obtain ⟨y, hy, rfl⟩ := List.mem_map.mp hx
    have := d0 y (hg y hy)
    omega
  have c := Nat.eq_of_mul_eq_mul_left pos b
  unfold fl
  rw [fl_abs (fun z => ent rows z.1 z.2), fl_abs (fun z => ent rows z.2 z.1), c]
theorem fl_take {F : Nat × Nat → Int} {zs : List (Nat × Nat)} {i : Nat} {z : Nat × Nat} (h : zs[i]? = some z) : fl F (zs.take (i + 1)) = fl F (zs.take i) * F z := by
  unfold fl
  rw [List.take_add_one, h, List.foldl_append]
  rfl
theorem abs_if (x : Int) : (if x < 0 then -x else x) = (x.natAbs : Int) := by
  split <;> omega
section
variable {P : Program} {w : World} {K : PySem.W.Frag} {mg : Str → Option Value} {base : Heap}
abbrev s_ring_bars : Stmt := topS 42
abbrev n_ring_bars : List Str := ["table", "ring", "onward", "back", "i", "j"]
theorem sc_ring_bars : FnScope n_ring_bars ["table", "ring"] (defScope s_ring_bars) := ⟨rfl, rfl, rfl, by decide +kernel, rfl, by decide +kernel, by decide +kernel⟩
def spRing : Sp := fun vs H Q _ => ∃ (a t : Addr) (rows : List (List Int)) (n : Nat) (g : List Nat), vs = [.ref a, .ref t] ∧ TabAt H a rows ∧ TabOk rows n ∧ H t = some (.tup (ringV g)) ∧ 2 ≤ g.length ∧ g.length ≤ 4 ∧ (∀ x ∈ g, x < n) ∧ ∀ H', Same H H' → Q (.bl false) H'
theorem cut_ring1 {g : List Nat} (h : 2 ≤ g.length) : cutV (ringV g) (some 1) none = ringV (g.drop 1) := by
  unfold cutV ringV
  rw [show HT.sIx (g.map fun x => V.int (x : Nat)).length 0 (some 1) = min 1 (g.map fun x => V.int (x : Nat)).length from HT.sIx_nat _ 0 1, HT.sIx_none, List.length_map, Nat.min_eq_left (by omega), List.map_drop, List.take_of_length_le]
  rw [List.length_drop, List.length_map]
  exact Nat.le_refl _
theorem cut_ring2 {g : List Nat} (h : 2 ≤ g.length) : cutV (ringV g) none (some 1) = ringV (g.take 1) := by
  unfold cutV ringV
  rw [show HT.sIx (g.map fun x => V.int (x : Nat)).length (g.map fun x => V.int (x : Nat)).length (some 1) = min 1 (g.map fun x => V.int (x : Nat)).length from HT.sIx_nat _ _ 1, HT.sIx_none, List.length_map, Nat.min_eq_left (by omega), List.map_take, List.drop_zero]
theorem ringV_len (g : List Nat) : (ringV g).length = g.length := by
  unfold ringV
  rw [List.length_map]
theorem ringV_at {g : List Nat} {i : Nat} {y : V} (h : (ringV g)[i]? = some y) : ∃ x, g[i]? = some x ∧ y = .int (x : Nat) := by
  unfold ringV at h
  rw [List.getElem?_map] at h
  cases e : g[i]? with
  | none =>
    rw [e] at h
    cases h
  | some u =>
    rw [e] at h
    exact ⟨u, rfl, (Option.some.inj h).symm⟩
theorem ok_ring {f : Addr} {fd : FuncData} {k : Nat} (F : Fun K "ring_bars" "ring_bars" s_ring_bars f fd) (T : Tx mg) : FnOk P w K mg base CX0 (k + 1) f fd ["table", "ring"] spRing := by
  refine F.ok sc_ring_bars (fun vs H Q E h => ?_) (fun cdv A outer s H vs Q E hr h => ?_)
  · obtain ⟨a, t, rows, n, g, rfl, _⟩ := h
    rfl
  · obtain ⟨a, t, rows, n, g, rfl, hT, O, ht, g2, g4, hg, q⟩ := h
    refine ⟨_, (pss_cons (ps_set (i := 2) sc_ring_bars.nd rfl (.inl rfl) pe_int)
  (pss_cons (ps_set (i := 3) sc_ring_bars.nd rfl (.inl rfl) pe_int)
  (pss_cons (ps_for PassesOwn.never rfl (RZ.pi_zipA (by rfl) T.zip (pa_cons (pv 1) (pa_cons (pe_op (o_cat (K := K)) (pe_slice (l_tup (K := K)) (pv 1) (po_some pe_int) po_none) (pe_slice (l_tup (K := K)) (pv 1) po_none (po_some pe_int))) pa_nil))) (pg_tup rfl (pgs_cons (pg_name (i := 4) sc_ring_bars.nd rfl (.inl rfl)) (pgs_cons (pg_name (i := 5) sc_ring_bars.nd rfl (.inl rfl)) pgs_nil)))
    (pss_cons (ps_aug (i := 2) sc_ring_bars.nd rfl (.inl rfl) (pe_ix (i_tup (K := K)) (pe_ix (i_tup (K := K)) (pv 0) (pv 4) (fun _ _ => rfl)) (pv 5) (fun _ _ => rfl)) ip_mul)
    (pss_one (ps_aug (i := 3) sc_ring_bars.nd rfl (.inl rfl) (pe_ix (i_tup (K := K)) (pe_ix (i_tup (K := K)) (pv 0) (pv 5) (fun _ _ => rfl)) (pv 4) (fun _ _ => rfl)) ip_mul))))
  (pss_one (ps_ret (pe_cmpR op_ne (pe_callB call_abs (by rfl) T.abs (by decide +kernel) (pa_cons (pv 2) pa_nil)) (pe_callB call_abs (by rfl) T.abs (by decide +kernel) (pa_cons (pv 3) pa_nil)) (nomark _))))))), ?_⟩
    -- zip(ring, ring[1:] + ring[:1])
    refine ⟨.ref t, rfl, .ref t, rfl, 1, rfl, t, _, rfl, SqT.of ht, fun z => ?_, fun _ c ec => ?_⟩
    · have z1 := z.1
      rw [show HT.sIx (ringV g).length 0 (some 1) = min 1 (ringV g).length from HT.sIx_nat _ 0 1, ringV_len] at z1
      omega
    have s1 := same_upd (o := .tup (cutV (ringV g) (some 1) none)) ec
    refine ⟨.ref t, rfl, 1, rfl, t, _, rfl, SqT.of (s1 _ _ ht), fun z => ?_, fun _ e ee => ?_⟩
    · have z1 := z.2
      rw [show HT.sIx (ringV g).length (ringV g).length (some 1) = min 1 (ringV g).length from HT.sIx_nat _ _ 1, ringV_len] at z1
      omega
    have s2 := same_upd (o := .tup (cutV (ringV g) none (some 1))) ee
    have hc := s2 _ _ (upd_same (H := H) (a := c) (o := .tup (cutV (ringV g) (some 1) none)))
    have hlc : (cutV (ringV g) (some 1) none).length = g.length - 1 := by rw [cut_ring1 g2, ringV_len, List.length_drop]
    have hle : (cutV (ringV g) none (some 1)).length = 1 := by
      rw [cut_ring2 g2, ringV_len, List.length_take]
      omega
    refine ⟨c, e, _, _, rfl, rfl, SqT.of hc, SqT.of upd_same, ?_, fun z => ?_, fun _ z => ?_, fun _ _ p ep => ?_⟩
    · rw [hlc, hle]
      exact Nat.le_of_lt (small1000 (by omega))
    · rw [z] at hlc
      have : 0 = g.length - 1 := hlc
      omega
    · rw [z] at hle
      cases hle
    have s3 := same_upd (o := .tup (cutV (ringV g) (some 1) none ++ cutV (ringV g) none (some 1))) ep
    have hp : (upd (upd (upd H c (.tup (cutV (ringV g) (some 1) none))) e (.tup (cutV (ringV g) none (some 1)))) p (.tup (cutV (ringV g) (some 1) none ++ cutV (ringV g) none (some 1)))) p = some (.tup (ringV (rot g))) := by
      rw [upd_same, cut_ring1 g2, cut_ring2 g2]
      unfold rot ringV
      rw [List.map_append]
    have s13 := s1.trans (s2.trans s3)
    generalize (upd (upd (upd H c (.tup (cutV (ringV g) (some 1) none))) e (.tup (cutV (ringV g) none (some 1)))) p (.tup (cutV (ringV g) (some 1) none ++ cutV (ringV g) none (some 1)))) = H3 at hp s13
    have ht3 := s13 _ _ ht
    have hT3 := hT.same s13
    refine ⟨t, p, ringV g, ringV (rot g), rfl, .inr ⟨SqT.of ht3, SqT.of hp, RZ.for_zipT (by rw [ringV_len, ringV_len, rot_len]) (fun i σ H' => ∃ y4 y5 : Option V, σ = [some (.ref a), some (.ref t), some (.int (fl (fun z => ent rows z.1 z.2) ((g.zip (rot g)).take i))), some (.int (fl (fun z => ent rows z.2 z.1) ((g.zip (rot g)).take i))), y4, y5] ∧ Same H3 H') ⟨none, none, rfl, .refl _⟩ (fun i σ H' ⟨_, _, _, s⟩ => ⟨SqT.of (s _ _ ht3), SqT.of (s _ _ hp)⟩) ?_ ?_⟩⟩
    · rintro i vx vy Tt σ H4 hx hy ⟨y4, y5, rfl, s4⟩ nT
      obtain ⟨x, ex, rfl⟩ := ringV_at hx
      obtain ⟨y, ey, rfl⟩ := ringV_at hy
      have hxn := hg x (List.mem_of_getElem? ex)
      have hyn := hg y (rot_mem (List.mem_of_getElem? ey))
      have hl := O.len
      have hz : (g.zip (rot g))[i]? = some (x, y) := by
        rw [List.getElem?_zip_eq_some]
        exact ⟨ex, ey⟩
      have s5 := s4.trans (same_upd (o := .tup [.int x, .int y]) nT)
      have hT5 := hT3.same s5
      obtain ⟨as, bx, e1, e2, e3⟩ := hT5.row (show x < rows.length by omega)
      obtain ⟨as', by', e1', e2', e3'⟩ := hT5.row (show y < rows.length by omega)
      have bd1 := ent_bd O (show x < rows.length by omega) hyn
      have bd2 := ent_bd O (show y < rows.length by omega) hxn
      refine ⟨Tt, [.int x, .int y], rfl, SqT.of upd_same, rfl, .int x, [.int y], rfl, .int y, [], rfl, rfl, ?_⟩
      refine ⟨_, rfl, .ref a, rfl, .int x, rfl, a, _, x, .ref bx, rfl, rfl, SqT.of e1, atI_nat e2, .int y, rfl, bx, _, y, _, rfl, rfl, SqT.of e3, atI_nat (ent_get O.wide (by omega) hyn), _, _, rfl, rfl, .inr ⟨by omega, by omega⟩, ?_⟩
      refine ⟨_, rfl, .ref a, rfl, .int y, rfl, a, _, y, .ref by', rfl, rfl, SqT.of e1', atI_nat e2', .int x, rfl, by', _, x, _, rfl, rfl, SqT.of e3', atI_nat (ent_get O.wide (by omega) hxn), _, _, rfl, rfl, .inr ⟨by omega, by omega⟩, ?_⟩
      refine ⟨some (.int x), some (.int y), ?_, s5⟩
      rw [fl_take hz, fl_take hz]
      rfl
    · rintro σ H4 ⟨y4, y5, rfl, s4⟩
      have et : (g.zip (rot g)).take (ringV g).length = g.zip (rot g) := List.take_of_length_le (by rw [ringV_len, List.length_zip]; omega)
      rw [et]
      have m := ring_math O hg
      refine ⟨_, rfl, _, rfl, _, rfl, _, rfl, rfl, ?_⟩
      rw [abs_if, abs_if, m, decide_eq_true rfl]
      exact q _ (s13.trans s4)
/-! ### barred -/
abbrev s_barred : Stmt := topS 43
abbrev n_barred : List Str := ["table", "many", "i", "j", "ring"]
theorem sc_barred : FnScope n_barred ["table"] (defScope s_barred) := ⟨rfl, rfl, rfl, by decide +kernel, rfl, by decide +kernel, by decide +kernel⟩
theorem ok_barred {f : Addr} {fd : FuncData} (F : Fun K "barred" "barred" s_barred f fd) (T : Tx mg) (c_check_form : Cal P w K mg base CX0 3 "check_form" ["table"] spGood) (c_bud_count : Cal P w K mg base CX0 1 "bud_count" ["table"] spBuds)
    (c_pair_bars : Cal P w K mg base CX0 1 "pair_bars" ["table", "i", "j"] spPair) (c_unlike_rows : Cal P w K mg base CX0 1 "unlike_rows" ["many", "length"] spUnlike) (c_ring_bars : Cal P w K mg base CX0 1 "ring_bars" ["table", "ring"] spRing) : FnOk P w K mg base CX0 4 f fd ["table"] spGood := by
  refine F.ok sc_barred (fun vs H Q E h => ?_) (fun cdv A outer s H vs Q E hr h => ?_)
  · obtain ⟨a, rows, n, rfl, _⟩ := h
    rfl
  · obtain ⟨a, rows, n, rfl, hT, O, q⟩ := h
    have hr1 := hr.mono (show 1 ≤ 3 by decide)
    refine ⟨_, (pss_cons (ps_expr (pe_cal c_check_form hr (by rfl) (pa_cons (pv 0) pa_nil)))
  (pss_cons (ps_set (i := 1) sc_barred.nd rfl (.inl rfl) (pe_cal c_bud_count hr1 (by rfl) (pa_cons (pv 0) pa_nil)))
  (pss_cons (ps_for PassesOwn.never rfl (pi_range1 (by rfl) T.range (pa_cons (pv 1) pa_nil)) (pg_name (i := 2) sc_barred.nd rfl (.inl rfl))
    (pss_one (ps_for PassesOwn.never rfl (pi_range2 (by rfl) T.range (pa_cons (pv 2) (pa_cons (pv 1) pa_nil))) (pg_name (i := 3) sc_barred.nd rfl (.inl rfl))
      (pss_one (ps_if (pt_val (pe_cal c_pair_bars hr1 (by rfl) (pa_cons (pv 0) (pa_cons (pv 2) (pa_cons (pv 3) pa_nil)))))
        (pss_one (ps_ret (pe_tup (pa_cons (pv 2) (pa_cons (pv 3) pa_nil)))))
        pss_nil)))))
  (pss_cons (ps_for PassesOwn.never rfl (p_list (K := K) (pe_op op_cat (pe_cal c_unlike_rows hr1 (by rfl) (pa_cons (pv 1) (pa_cons pe_int pa_nil))) (pe_cal c_unlike_rows hr1 (by rfl) (pa_cons (pv 1) (pa_cons pe_int pa_nil))))) (pg_name (i := 4) sc_barred.nd rfl (.inl rfl))
    (pss_one (ps_if (pt_val (pe_cal c_ring_bars hr1 (by rfl) (pa_cons (pv 0) (pa_cons (pv 4) pa_nil))))
      (pss_one (ps_ret (pv 4)))
      pss_nil)))
  (pss_one (ps_ret pe_non)))))), ?_⟩
    have h1 := O.n1
    have h2 := O.n4
    have h3 := O.len
    refine ⟨.ref a, rfl, a, rows, n, rfl, hT, O, fun H1 s1 => ?_⟩
    refine ⟨.ref a, rfl, a, rows, n, rfl, hT.same s1, by omega, O.wide, ?_⟩
    refine ⟨.int n, rfl, n, rfl, by omega, by omega, for_range (fun i σ H' => ∃ y2 y3 : Option V, σ = [some (.ref a), some (.int n), y2, y3, none] ∧ Same H H') ⟨none, none, rfl, s1⟩ ?_ ?_⟩
    · rintro i σ H2 hi ⟨y2, y3, rfl, s2⟩
      have hi : i < n := hi
      have e0 : (0 : Int) + (i : Int) = (i : Int) := by omega
      rw [e0]
      refine ⟨_, rfl, _, rfl, i, n, rfl, ⟨by omega, by omega, by omega, by omega⟩, for_range (fun j σ H' => ∃ y3 : Option V, σ = [some (.ref a), some (.int n), some (.int i), y3, none] ∧ Same H H') ⟨y3, rfl, s2⟩ ?_ ?_⟩
      · rintro j σ H3 hj ⟨y3, rfl, s3⟩
        obtain ⟨J, hJ⟩ : ∃ J : Nat, (i : Int) + (j : Int) = (J : Int) := ⟨i + j, by omega⟩
        rw [hJ]
        exact ⟨_, rfl, _, rfl, _, rfl, a, rows, n, i, J, rfl, hT.same s3, O, hi, by omega, false, rfl, iteF ⟨_, rfl, s3⟩⟩
      · rintro σ H3 ⟨y3, rfl, s3⟩
        exact ⟨_, y3, rfl, s3⟩
    · rintro σ H2 ⟨y2, y3, rfl, s2⟩
      refine ⟨.int n, rfl, n, 3, rfl, h2, by decide, fun p ts H3 s3 hp hts l3 => ?_⟩
      refine ⟨.int n, rfl, n, 4, rfl, h2, by decide, fun p' ts' H4 s4 hp' hts' l4 => ?_⟩
      refine ⟨p, p', _, _, rfl, rfl, s4 _ _ hp, hp', ?_, fun R eR => ?_⟩
      · rw [List.length_map, List.length_map]
        exact Nat.le_trans (show ts.length + ts'.length ≤ 1000 by omega) (by decide)
      have sR := same_upd (o := .lst (ts.map V.ref ++ ts'.map V.ref)) eR
      refine ⟨R, rfl, ⟨_, SqL.of upd_same⟩, for_list (K := K) (a := R) (xs := ts.map V.ref ++ ts'.map V.ref) (fun i σ H' => ∃ y4 : Option V, σ = [some (.ref a), some (.int n), y2, y3, y4] ∧ Same (upd H4 R (.lst (ts.map V.ref ++ ts'.map V.ref))) H') ⟨none, rfl, .refl _⟩ (fun i σ H' _ ⟨_, _, s⟩ => SqL.of (s _ _ upd_same)) ?_ ?_⟩
      · rintro i v σ H5 hv ⟨y4, rfl, s5⟩
        obtain ⟨t, g, rfl, hg, gl, gb⟩ : ∃ (t : Addr) (g : List Nat), v = .ref t ∧ H4 t = some (.tup (ringV g)) ∧ (g.length = 3 ∨ g.length = 4) ∧ ∀ x ∈ g, x < n := by
          rcases List.mem_append.mp (List.mem_of_getElem? hv) with h | h
          · obtain ⟨t, ht, e⟩ := List.mem_map.mp h
            subst e
            obtain ⟨g, a1, a2, a3⟩ := hts t ht
            exact ⟨t, g, rfl, s4 _ _ a1, .inl a2, a3⟩
          · obtain ⟨t, ht, e⟩ := List.mem_map.mp h
            subst e
            obtain ⟨g, a1, a2, a3⟩ := hts' t ht
            exact ⟨t, g, rfl, a1, .inr a2, a3⟩
        refine ⟨_, rfl, _, rfl, a, t, rows, n, g, rfl, hT.same (s2.trans (s3.trans (s4.trans (sR.trans s5)))), O, s5 _ _ (sR _ _ hg), by omega, by omega, gb, fun H6 s6 => ?_⟩
        exact ⟨false, rfl, iteF ⟨_, rfl, s5.trans s6⟩⟩
      · rintro σ H5 ⟨y4, rfl, s5⟩
        exact q _ (s2.trans (s3.trans (s4.trans (sR.trans s5))))
/-! ### check_table -/
abbrev s_check_table : Stmt := topS 37
abbrev n_check_table : List Str := ["table", "ring"]
theorem sc_check_table : FnScope n_check_table ["table"] (defScope s_check_table) := ⟨rfl, rfl, rfl, by decide +kernel, rfl, by decide +kernel, by decide +kernel⟩
theorem ok_check {f : Addr} {fd : FuncData} (F : Fun K "check_table" "check_table" s_check_table f fd) (T : Tx mg) (c_barred : Cal P w K mg base CX0 4 "barred" ["table"] spGood) : FnOk P w K mg base CX0 5 f fd ["table"] spGood := by
  refine F.ok sc_check_table (fun vs H Q E h => ?_) (fun cdv A outer s H vs Q E hr h => ?_)
  · obtain ⟨a, rows, n, rfl, _⟩ := h
    rfl
  · obtain ⟨a, rows, n, rfl, hT, O, q⟩ := h
    refine ⟨_, (pss_cons (ps_set (i := 1) sc_check_table.nd rfl (.inl rfl) (pe_cal c_barred hr (by rfl) (pa_cons (pv 0) pa_nil)))
  (pss_one (ps_if (pt_cmpR op_notN (pv 1) pe_non (nomark _))
    (pss_one ps_never)
    pss_nil))), ?_⟩
    refine ⟨.ref a, rfl, a, rows, n, rfl, hT, O, fun H1 s1 => ?_⟩
    exact ⟨.non, rfl, rfl, _, rfl, iteF (q _ s1)⟩
end
end Bw
set_option Elab.async false
set_option linter.all false
set_option maxRecDepth 100000
set_option maxHeartbeats 4000000
namespace Bw
open PySem PySem.Spec PyProof.Rows L2
/-! ### walks whose turn is any reading -/
theorem it_listS {K : PySem.W.Frag} {a : Addr} {xs : List V} {H1 : Hp} {Qd : Hp → Prop} {Body : V → Hp → (Hp → Prop) → Prop} (Pv : Nat → Hp → Prop) (h0 : Pv 0 H1) (hl : ∀ i H, i ≤ xs.length → Pv i H → SqL K H a xs)
    (hs : ∀ i x H, xs[i]? = some x → Pv i H → Body x H (Pv (i + 1))) (hd : ∀ H, Pv xs.length H → Qd H) :
    ∃ W : Nat → Nat → Hp → Prop, (∃ m, W 0 m H1) ∧ ∀ i m H, W i m H → ((Itl K a).stop i H ∧ Qd H) ∨ ((Itl K a).go i H ∧ ∃ Nx : Hp → Prop, (∀ H', Nx H' → ∃ m', m' < m ∧ W (i + 1) m' H') ∧ ∀ x H', (Itl K a).yld i H x H' → Body x H' Nx) := by
  refine ⟨fun i m H => m = xs.length - i ∧ i ≤ xs.length ∧ Pv i H, ⟨xs.length, by simp, Nat.zero_le _, h0⟩, ?_⟩
  rintro i m H ⟨rfl, hi, p⟩
  have q := hl i H hi p
  by_cases hlt : i < xs.length
  · refine .inr ⟨⟨xs, xs[i], q, by simp [hlt]⟩, Pv (i + 1), fun H' p' => ⟨xs.length - (i + 1), by omega, rfl, hlt, p'⟩, fun x H' y => ?_⟩
    obtain ⟨e, y⟩ := y
    subst e
    exact hs i x _ (y _ q) p
  · exact .inl ⟨⟨xs, q, by omega⟩, hd H (by
      have : i = xs.length := by omega
      rw [this] at p
      exact p)⟩
theorem it_rangeS {lo : Int} {n : Nat} {H1 : Hp} {Qd : Hp → Prop} {Body : V → Hp → (Hp → Prop) → Prop} (Pv : Nat → Hp → Prop) (h0 : Pv 0 H1) (hs : ∀ i H, i < n → Pv i H → Body (.int (lo + i)) H (Pv (i + 1))) (hd : ∀ H, Pv n H → Qd H) :
    ∃ W : Nat → Nat → Hp → Prop, (∃ m, W 0 m H1) ∧ ∀ i m H, W i m H → ((Itr lo n).stop i H ∧ Qd H) ∨ ((Itr lo n).go i H ∧ ∃ Nx : Hp → Prop, (∀ H', Nx H' → ∃ m', m' < m ∧ W (i + 1) m' H') ∧ ∀ x H', (Itr lo n).yld i H x H' → Body x H' Nx) := by
  refine ⟨fun i m H => m = n - i ∧ i ≤ n ∧ Pv i H, ⟨n, by simp, Nat.zero_le _, h0⟩, ?_⟩
  rintro i m H ⟨rfl, hi, p⟩
  by_cases hlt : i < n
  · refine .inr ⟨hlt, Pv (i + 1), fun H' p' => ⟨n - (i + 1), by omega, rfl, hlt, p'⟩, fun x H' y => ?_⟩
    obtain ⟨e, y⟩ := y
    subst e y
    exact hs i _ hlt p
  · exact .inl ⟨(by show n ≤ i; omega), hd H (by
      have : i = n := by omega
      rw [this] at p
      exact p)⟩
theorem all_repS (n : Nat) : (List.replicate n true).all id = true := by
  rw [List.all_eq_true]
  intro x hx
  exact List.eq_of_mem_replicate hx
theorem it_zipT {K : PySem.W.Frag} {a b : Addr} {xs ys : List V} {H1 : Hp} {Qd : Hp → Prop} {Body : V → Hp → (Hp → Prop) → Prop} (hl : xs.length = ys.length) (Pv : Nat → Hp → Prop) (h0 : Pv 0 H1) (hq : ∀ i H, Pv i H → SqT K H a xs ∧ SqT K H b ys)
    (hs : ∀ (i : Nat) (x y : V) (T : Addr) (H : Hp), xs[i]? = some x → ys[i]? = some y → Pv i H → H T = none → Body (.ref T) (upd H T (.tup [x, y])) (Pv (i + 1))) (hd : ∀ H, Pv xs.length H → Qd H) :
    ∃ W : Nat → Nat → Hp → Prop, (∃ m, W 0 m H1) ∧ ∀ i m H, W i m H → ((RZ.ItzT K a b).stop i H ∧ Qd H) ∨ ((RZ.ItzT K a b).go i H ∧ ∃ Nx : Hp → Prop, (∀ H', Nx H' → ∃ m', m' < m ∧ W (i + 1) m' H') ∧ ∀ x H', (RZ.ItzT K a b).yld i H x H' → Body x H' Nx) := by
  refine ⟨fun i m H => m = xs.length - i ∧ i ≤ xs.length ∧ Pv i H, ⟨xs.length, rfl, Nat.zero_le _, h0⟩, ?_⟩
  rintro i m H ⟨rfl, hi, p⟩
  obtain ⟨qx, qy⟩ := hq i H p
  by_cases hlt : i < xs.length
  · have hx : xs[i]? = some xs[i] := List.getElem?_eq_getElem hlt
    have hy : ys[i]? = some ys[i] := List.getElem?_eq_getElem (by omega)
    refine .inr ⟨⟨xs, ys, _, _, qx, qy, hx, hy⟩, Pv (i + 1), fun H' p' => ⟨xs.length - (i + 1), by omega, rfl, hlt, p'⟩, fun v H' y => ?_⟩
    obtain ⟨T, x', y', rfl, hT, rfl, f1, f2⟩ := y
    exact hs i x' y' T H (f1 xs qx) (f2 ys qy) p hT
  · have e : i = xs.length := by omega
    subst e
    exact .inl ⟨⟨xs, ys, qx, qy, Or.inl (Nat.le_refl _)⟩, hd H p⟩
theorem it_zipL {K : PySem.W.Frag} {a b : Addr} {xs ys : List V} {H1 : Hp} {Qd : Hp → Prop} {Body : V → Hp → (Hp → Prop) → Prop} (hl : xs.length = ys.length) (Pv : Nat → Hp → Prop) (h0 : Pv 0 H1) (hq : ∀ i H, Pv i H → SqL K H a xs ∧ SqL K H b ys)
    (hs : ∀ (i : Nat) (x y : V) (T : Addr) (H : Hp), xs[i]? = some x → ys[i]? = some y → Pv i H → H T = none → Body (.ref T) (upd H T (.tup [x, y])) (Pv (i + 1))) (hd : ∀ H, Pv xs.length H → Qd H) :
    ∃ W : Nat → Nat → Hp → Prop, (∃ m, W 0 m H1) ∧ ∀ i m H, W i m H → ((Itz K a b).stop i H ∧ Qd H) ∨ ((Itz K a b).go i H ∧ ∃ Nx : Hp → Prop, (∀ H', Nx H' → ∃ m', m' < m ∧ W (i + 1) m' H') ∧ ∀ x H', (Itz K a b).yld i H x H' → Body x H' Nx) := by
  refine ⟨fun i m H => m = xs.length - i ∧ i ≤ xs.length ∧ Pv i H, ⟨xs.length, rfl, Nat.zero_le _, h0⟩, ?_⟩
  rintro i m H ⟨rfl, hi, p⟩
  obtain ⟨qx, qy⟩ := hq i H p
  by_cases hlt : i < xs.length
  · have hx : xs[i]? = some xs[i] := List.getElem?_eq_getElem hlt
    have hy : ys[i]? = some ys[i] := List.getElem?_eq_getElem (by omega)
    refine .inr ⟨⟨xs, ys, _, _, qx, qy, hx, hy⟩, Pv (i + 1), fun H' p' => ⟨xs.length - (i + 1), by omega, rfl, hlt, p'⟩, fun v H' y => ?_⟩
    obtain ⟨T, x', y', rfl, hT, rfl, f1, f2⟩ := y
    exact hs i x' y' T H (f1 xs qx) (f2 ys qy) p hT
  · have e : i = xs.length := by omega
    subst e
    exact .inl ⟨⟨xs, ys, qx, qy, Or.inl (Nat.le_refl _)⟩, hd H p⟩
/-- alike data, at most n deep -/
def Al : Nat → Hp → V → V → Prop
  | 0, _, _, _ => False
  | n + 1, H, x, y => (x = y ∧ ((∃ i, x = .int i) ∨ (∃ z, x = .str z) ∨ (∃ b, x = .bl b) ∨ x = .non)) ∨
    (∃ (a b : Addr) (xs ys : List V), x = .ref a ∧ y = .ref b ∧ H a = some (.tup xs) ∧ H b = some (.tup ys) ∧ xs.length = ys.length ∧ xs.length ≤ 1000 ∧ ∀ (j : Nat) (u v : V), xs[j]? = some u → ys[j]? = some v → Al n H u v) ∨
    (∃ (a b : Addr) (xs ys : List V), x = .ref a ∧ y = .ref b ∧ H a = some (.lst xs) ∧ H b = some (.lst ys) ∧ xs.length = ys.length ∧ xs.length ≤ 1000 ∧ ∀ (j : Nat) (u v : V), xs[j]? = some u → ys[j]? = some v → Al n H u v)
theorem Al.same : ∀ {n : Nat} {H H' : Hp} {x y : V}, Same H H' → Al n H x y → Al n H' x y
  | 0, _, _, _, _, _, h => h
  | n + 1, H, H', x, y, s, h => by
    rcases h with h | ⟨a, b, xs, ys, h1, h2, h3, h4, h5, h6, h7⟩ | ⟨a, b, xs, ys, h1, h2, h3, h4, h5, h6, h7⟩
    · exact .inl h
    · exact .inr (.inl ⟨a, b, xs, ys, h1, h2, s _ _ h3, s _ _ h4, h5, h6, fun j u v e1 e2 => (h7 j u v e1 e2).same s⟩)
    · exact .inr (.inr ⟨a, b, xs, ys, h1, h2, s _ _ h3, s _ _ h4, h5, h6, fun j u v e1 e2 => (h7 j u v e1 e2).same s⟩)
section
variable {P : Program} {w : World} {K : PySem.W.Frag} {mg : Str → Option Value} {base : Heap}
abbrev s_law_same : Stmt := topS 81
abbrev n_law_same : List Str := ["_law_found", "_law_due", "_law_one", "_law_two"]
theorem sc_law_same : FnScope n_law_same ["_law_found", "_law_due"] (defScope s_law_same) := ⟨rfl, rfl, rfl, by decide +kernel, rfl, by decide +kernel, by decide +kernel⟩
def spSame (n : Nat) : Sp := fun vs H Q _ => ∃ x y : V, vs = [x, y] ∧ Al n H x y ∧ ∀ H', Same H H' → Q (.bl true) H'
theorem ok_same {f : Addr} {fd : FuncData} (F : Fun K "_law_same" "_law_same" s_law_same f fd) (T : Tx mg) (gf : mg "_law_same" = some (.ref f)) (bf : Binds K fd ["_law_found", "_law_due"] []) : ∀ n : Nat, FnOk P w K mg base CX0 (n + 1) f fd ["_law_found", "_law_due"] (spSame n)
  | 0 => F.ok sc_law_same (fun vs H Q E h => by
      obtain ⟨_, _, _, h, _⟩ := h
      exact h.elim) (fun cdv A outer s H vs Q E hr h => by
      obtain ⟨_, _, _, h, _⟩ := h
      exact h.elim)
  | n + 1 => by
    have c_law_same : Cal P w K mg base CX0 (n + 1) "_law_same" ["_law_found", "_law_due"] (spSame n) := ⟨f, fd, ok_same F T gf bf n, gf, F.kp, bf⟩
    refine F.ok sc_law_same (fun vs H Q E h => ?_) (fun cdv A outer s H vs Q E hr h => ?_)
    · obtain ⟨x, y, rfl, _⟩ := h
      rfl
    · obtain ⟨x, y, rfl, h, q⟩ := h
      refine ⟨_, (pss_cons (ps_if (pt_val (pe_callB (c_isi (K := K)) (by rfl) T.isinstance (by decide +kernel) (pa_cons (pv 1) (pa_cons (pe_bltn (v := .ty "dict") (by rfl) T.dict (by decide +kernel) rfl) pa_nil))))
    pss_never
    pss_nil)
  (pss_cons (ps_if (pt_cmpR op_ne (pe_callB (c_isi (K := K)) (by rfl) T.isinstance (by decide +kernel) (pa_cons (pv 1) (pa_cons (pe_bltn (v := .ty "tuple") (by rfl) T.tuple (by decide +kernel) rfl) pa_nil))) (pe_callB (c_isi (K := K)) (by rfl) T.isinstance (by decide +kernel) (pa_cons (pv 0) (pa_cons (pe_bltn (v := .ty "tuple") (by rfl) T.tuple (by decide +kernel) rfl) pa_nil))) (nomark _))
    (pss_one (ps_ret pe_bl))
    pss_nil)
  (pss_cons (ps_if (pt_cmpR op_ne (pe_callB (c_isi (K := K)) (by rfl) T.isinstance (by decide +kernel) (pa_cons (pv 1) (pa_cons (pe_bltn (v := .ty "list") (by rfl) T.list (by decide +kernel) rfl) pa_nil))) (pe_callB (c_isi (K := K)) (by rfl) T.isinstance (by decide +kernel) (pa_cons (pv 0) (pa_cons (pe_bltn (v := .ty "list") (by rfl) T.list (by decide +kernel) rfl) pa_nil))) (nomark _))
    (pss_one (ps_ret pe_bl))
    pss_nil)
  (pss_cons (ps_if (pt_val (pe_callB (c_isiT (K := K)) (by rfl) T.isinstance (by decide +kernel) (pa_cons (pv 1) (pa_cons (pe_tup (pa_cons (pe_bltn (v := .ty "list") (by rfl) T.list (by decide +kernel) rfl) (pa_cons (pe_bltn (v := .ty "tuple") (by rfl) T.tuple (by decide +kernel) rfl) pa_nil))) pa_nil))))
    (pss_one (ps_ret (pe_and (pe_cmpR op_eq (pe_callB (c_len (K := K)) (by rfl) T.len PySem.boot_len (pa_cons (pv 0) pa_nil)) (pe_callB (c_len (K := K)) (by rfl) T.len PySem.boot_len (pa_cons (pv 1) pa_nil)) (nomark _)) (pe_one (pe_callB (c_all (K := K) rfl) (by rfl) T.all (by decide +kernel) (pa_cons (pe_lc (own := [("_law_one", 2), ("_law_two", 3)]) (by rfl) sc_law_same.nd (RZ.pi_zipA (by rfl) T.zip (pa_cons (pv 0) (pa_cons (pv 1) pa_nil))) (blkOk_by (own := [("_law_one", 2), ("_law_two", 3)]) (N := n_law_same) (sc := defScope s_law_same) (by decide +kernel)) (fun _ _ _ _ _ => (g_tup (K := K) (n := 2) rfl (pgs_cons (pg_name (i := 2) sc_law_same.nd rfl (.inl rfl)) (pgs_cons (pg_name (i := 3) sc_law_same.nd rfl (.inl rfl)) pgs_nil)))) (fun _ _ _ _ _ => pts_nil) (fun _ _ _ _ _ => (pe_cal c_law_same hr (by rfl) (pa_cons (pv 2) (pa_cons (pv 3) pa_nil))))) pa_nil))))))
    pss_nil)
  (pss_cons (ps_if (pt_cmpR op_ne (pe_callB (c_isi (K := K)) (by rfl) T.isinstance (by decide +kernel) (pa_cons (pv 1) (pa_cons (pe_bltn (v := .ty "bool") (by rfl) T.bool (by decide +kernel) rfl) pa_nil))) (pe_callB (c_isi (K := K)) (by rfl) T.isinstance (by decide +kernel) (pa_cons (pv 0) (pa_cons (pe_bltn (v := .ty "bool") (by rfl) T.bool (by decide +kernel) rfl) pa_nil))) (nomark _))
    (pss_one (ps_ret pe_bl))
    pss_nil)
  (pss_cons (ps_if (pt_cmpR op_ne (pe_callB (c_isi (K := K)) (by rfl) T.isinstance (by decide +kernel) (pa_cons (pv 1) (pa_cons (pe_bltn (v := .ty "str") (by rfl) T.str (by decide +kernel) rfl) pa_nil))) (pe_callB (c_isi (K := K)) (by rfl) T.isinstance (by decide +kernel) (pa_cons (pv 0) (pa_cons (pe_bltn (v := .ty "str") (by rfl) T.str (by decide +kernel) rfl) pa_nil))) (nomark _))
    (pss_one (ps_ret pe_bl))
    pss_nil)
  (pss_one (ps_ret (pe_and (pe_cmpR op_eq (pe_cmpR op_isN (pv 1) pe_non (nomark _)) (pe_cmpR op_isN (pv 0) pe_non (nomark _)) (nomark _)) (pe_one (pe_cmpR op_eq (pv 0) (pv 1) (nomark _)))))))))))), ?_⟩
      rcases h with ⟨rfl, h⟩ | ⟨a, b, xs, ys, rfl, rfl, ha, hb, hl, hz, hi⟩ | ⟨a, b, xs, ys, rfl, rfl, ha, hb, hl, hz, hi⟩
      · -- numbers, texts, truths, None
        obtain ⟨t, b1, b2, ty, k1, k2, k3, k4, k5, hsc⟩ : ∃ (t : String) (b1 b2 : Bool), (∀ H', TyOf K H' x (.type t)) ∧ kitB t "dict" = some false ∧ kitB t "tuple" = some false ∧ kitB t "list" = some false ∧ kitB t "bool" = some b1 ∧ kitB t "str" = some b2 ∧ scal x x = true := by
          rcases h with ⟨i, rfl⟩ | ⟨z, rfl⟩ | ⟨b, rfl⟩ | rfl
          · exact ⟨"int", false, false, fun _ => .int i, by decide +kernel, by decide +kernel, by decide +kernel, by decide +kernel, by decide +kernel, rfl⟩
          · exact ⟨"str", false, true, fun _ => .str z, by decide +kernel, by decide +kernel, by decide +kernel, by decide +kernel, by decide +kernel, rfl⟩
          · exact ⟨"bool", true, false, fun _ => .bl b, by decide +kernel, by decide +kernel, by decide +kernel, by decide +kernel, by decide +kernel, rfl⟩
          · exact ⟨"NoneType", false, false, fun _ => .non, by decide +kernel, by decide +kernel, by decide +kernel, by decide +kernel, by decide +kernel, rfl⟩
        have kA : PySem.W.kitAny K (.type t) [.type "list", .type "tuple"] = some false := kitAny_cons (kit_ty k3) (fun _ => kitAny_cons (kit_ty k2) (fun _ => kitAny_nil) (fun z => by cases z)) (fun z => by cases z)
        refine ⟨x, rfl, _, _, _, _, false, rfl, .ty "dict", .base (ty _), kit_ty k1, false, rfl, iteF ?_⟩
        refine ⟨x, rfl, _, _, _, _, false, rfl, .ty "tuple", .base (ty _), kit_ty k2, x, rfl, _, _, _, _, false, rfl, .ty "tuple", .base (ty _), kit_ty k2, rfl, _, rfl, iteNS rfl ?_⟩
        refine ⟨x, rfl, _, _, _, _, false, rfl, .ty "list", .base (ty _), kit_ty k3, x, rfl, _, _, _, _, false, rfl, .ty "list", .base (ty _), kit_ty k3, rfl, _, rfl, iteNS rfl ?_⟩
        refine ⟨x, rfl, by show 2 ≤ sizeLine; decide, fun tp etp => ⟨x, tp, _, _, [.type "list", .type "tuple"], false, rfl, upd_same, .cons (.ty "list") (.cons (.ty "tuple") .nil), .base (ty _), kA, false, rfl, iteF ?_⟩⟩
        refine ⟨x, rfl, _, _, _, _, b1, rfl, .ty "bool", .base (ty _), kit_ty k4, x, rfl, _, _, _, _, b1, rfl, .ty "bool", .base (ty _), kit_ty k4, rfl, _, rfl, iteNS rfl ?_⟩
        refine ⟨x, rfl, _, _, _, _, b2, rfl, .ty "str", .base (ty _), kit_ty k5, x, rfl, _, _, _, _, b2, rfl, .ty "str", .base (ty _), kit_ty k5, rfl, _, rfl, iteNS rfl ?_⟩
        refine ⟨x, rfl, rfl, x, rfl, rfl, rfl, true, by rw [decide_eq_true rfl], iteT ⟨x, rfl, x, rfl, hsc, ?_⟩⟩
        rw [decide_eq_true rfl]
        exact q _ (same_upd etp)
      · -- two tuples
        have kA : PySem.W.kitAny K (.type "tuple") [.type "list", .type "tuple"] = some true := kitAny_cons (kit_ty (show kitB "tuple" "list" = some false by decide +kernel)) (fun _ => kitAny_cons (kit_ty (show kitB "tuple" "tuple" = some true by decide +kernel)) (fun z => by cases z) (fun _ => rfl)) (fun z => by cases z)
        refine ⟨.ref b, rfl, _, _, _, _, false, rfl, .ty "dict", .base (.tup hb), kit_ty (by decide +kernel), false, rfl, iteF ?_⟩
        refine ⟨.ref b, rfl, _, _, _, _, true, rfl, .ty "tuple", .base (.tup hb), kit_ty (by decide +kernel), .ref a, rfl, _, _, _, _, true, rfl, .ty "tuple", .base (.tup ha), kit_ty (by decide +kernel), rfl, _, rfl, iteNS rfl ?_⟩
        refine ⟨.ref b, rfl, _, _, _, _, false, rfl, .ty "list", .base (.tup hb), kit_ty (by decide +kernel), .ref a, rfl, _, _, _, _, false, rfl, .ty "list", .base (.tup ha), kit_ty (by decide +kernel), rfl, _, rfl, iteNS rfl ?_⟩
        refine ⟨.ref b, rfl, by show 2 ≤ sizeLine; decide, fun tp etp => ?_⟩
        have s1 := same_upd (o := .tup [.ty "list", .ty "tuple"]) etp
        have ha := s1 _ _ ha
        have hb := s1 _ _ hb
        refine ⟨.ref b, tp, _, _, [.type "list", .type "tuple"], true, rfl, upd_same, .cons (.ty "list") (.cons (.ty "tuple") .nil), .base (.tup hb), kA, true, rfl, iteT ?_⟩
        refine ⟨.ref a, rfl, a, _, rfl, .inr (SqT.of ha), .ref b, rfl, b, _, rfl, .inr (SqT.of hb), rfl, true, by rw [hl, decide_eq_true rfl], iteT ?_⟩
        refine ⟨.ref a, rfl, .ref b, rfl, a, b, xs, ys, rfl, .inr ⟨SqT.of ha, SqT.of hb, fun D eD => ?_⟩⟩
        have naD : a ≠ D := ne_of_none ha eD
        have nbD : b ≠ D := ne_of_none hb eD
        refine it_zipT hl (fun j H' => H' D = some (.lst ((List.replicate j true).map V.bl)) ∧ ∀ c o, c ≠ D → (upd H tp (.tup [.ty "list", .ty "tuple"])) c = some o → H' c = some o) ⟨upd_same, fun c o n e => by rw [upd_ne n]; exact e⟩ (fun j H' ⟨_, k⟩ => ⟨SqT.of (k _ _ naD ha), SqT.of (k _ _ nbD hb)⟩) ?_ ?_
        · rintro j u v Tt H1 hu hv ⟨e1, k1⟩ nT
          have hj := (List.getElem?_eq_some_iff.mp hu).1
          have sT := same_upd (o := .tup [u, v]) nT
          have sA : Same H (upd H1 Tt (.tup [u, v])) := fun c o e => sT _ _ (k1 _ _ (ne_of_none (s1 _ _ e) eD) (s1 _ _ e))
          refine ⟨Tt, [u, v], rfl, SqT.of upd_same, rfl, u, [v], rfl, v, [], rfl, rfl, rfl, u, rfl, v, rfl, u, v, rfl, (hi j u v hu hv).same sA, fun H2 s2 => ?_⟩
          refine ⟨_, s2 _ _ (sT _ _ e1), by rw [List.length_map, List.length_replicate]; exact small1000 (by omega), ?_, fun c o n e => ?_⟩
          · rw [upd_same, List.replicate_succ', List.map_append]
            rfl
          · rw [upd_ne n]
            exact s2 _ _ (sT _ _ (k1 _ _ n e))
        · rintro H1 ⟨e1, k1⟩
          refine ⟨D, _, rfl, SqL.of e1, ?_⟩
          rw [all_repS]
          exact q _ fun c o e => k1 _ _ (ne_of_none (s1 _ _ e) eD) (s1 _ _ e)
      · -- two lists
        have kA : PySem.W.kitAny K (.type "list") [.type "list", .type "tuple"] = some true := kitAny_cons (kit_ty (show kitB "list" "list" = some true by decide +kernel)) (fun z => by cases z) (fun _ => rfl)
        refine ⟨.ref b, rfl, _, _, _, _, false, rfl, .ty "dict", .base (.lst hb), kit_ty (by decide +kernel), false, rfl, iteF ?_⟩
        refine ⟨.ref b, rfl, _, _, _, _, false, rfl, .ty "tuple", .base (.lst hb), kit_ty (by decide +kernel), .ref a, rfl, _, _, _, _, false, rfl, .ty "tuple", .base (.lst ha), kit_ty (by decide +kernel), rfl, _, rfl, iteNS rfl ?_⟩
        refine ⟨.ref b, rfl, _, _, _, _, true, rfl, .ty "list", .base (.lst hb), kit_ty (by decide +kernel), .ref a, rfl, _, _, _, _, true, rfl, .ty "list", .base (.lst ha), kit_ty (by decide +kernel), rfl, _, rfl, iteNS rfl ?_⟩
        refine ⟨.ref b, rfl, by show 2 ≤ sizeLine; decide, fun tp etp => ?_⟩
        have s1 := same_upd (o := .tup [.ty "list", .ty "tuple"]) etp
        have ha := s1 _ _ ha
        have hb := s1 _ _ hb
        refine ⟨.ref b, tp, _, _, [.type "list", .type "tuple"], true, rfl, upd_same, .cons (.ty "list") (.cons (.ty "tuple") .nil), .base (.lst hb), kA, true, rfl, iteT ?_⟩
        refine ⟨.ref a, rfl, a, _, rfl, .inl (SqL.of ha), .ref b, rfl, b, _, rfl, .inl (SqL.of hb), rfl, true, by rw [hl, decide_eq_true rfl], iteT ?_⟩
        refine ⟨.ref a, rfl, .ref b, rfl, a, b, xs, ys, rfl, .inl ⟨SqL.of ha, SqL.of hb, fun D eD => ?_⟩⟩
        have naD : a ≠ D := ne_of_none ha eD
        have nbD : b ≠ D := ne_of_none hb eD
        refine it_zipL hl (fun j H' => H' D = some (.lst ((List.replicate j true).map V.bl)) ∧ ∀ c o, c ≠ D → (upd H tp (.tup [.ty "list", .ty "tuple"])) c = some o → H' c = some o) ⟨upd_same, fun c o n e => by rw [upd_ne n]; exact e⟩ (fun j H' ⟨_, k⟩ => ⟨SqL.of (k _ _ naD ha), SqL.of (k _ _ nbD hb)⟩) ?_ ?_
        · rintro j u v Tt H1 hu hv ⟨e1, k1⟩ nT
          have hj := (List.getElem?_eq_some_iff.mp hu).1
          have sT := same_upd (o := .tup [u, v]) nT
          have sA : Same H (upd H1 Tt (.tup [u, v])) := fun c o e => sT _ _ (k1 _ _ (ne_of_none (s1 _ _ e) eD) (s1 _ _ e))
          refine ⟨Tt, [u, v], rfl, SqT.of upd_same, rfl, u, [v], rfl, v, [], rfl, rfl, rfl, u, rfl, v, rfl, u, v, rfl, (hi j u v hu hv).same sA, fun H2 s2 => ?_⟩
          refine ⟨_, s2 _ _ (sT _ _ e1), by rw [List.length_map, List.length_replicate]; exact small1000 (by omega), ?_, fun c o n e => ?_⟩
          · rw [upd_same, List.replicate_succ', List.map_append]
            rfl
          · rw [upd_ne n]
            exact s2 _ _ (sT _ _ (k1 _ _ n e))
        · rintro H1 ⟨e1, k1⟩
          refine ⟨D, _, rfl, SqL.of e1, ?_⟩
          rw [all_repS]
          exact q _ fun c o e => k1 _ _ (ne_of_none (s1 _ _ e) eD) (s1 _ _ e)
end
end Bw
set_option Elab.async false
set_option linter.all false
set_option maxRecDepth 100000
set_option maxHeartbeats 4000000
namespace Bw
open PySem PySem.Spec PyProof.Rows L2
/-! ### rows by their addresses -/
def RefsAt (H : Hp) (as : List Addr) (rows : List (List Int)) : Prop := as.length = rows.length ∧ ∀ (i : Nat) (r : List Int), rows[i]? = some r → ∃ b, as[i]? = some b ∧ H b = some (.tup (r.map V.int))
theorem RefsAt.tab {H : Hp} {a : Addr} {as : List Addr} {rows : List (List Int)} (h : RefsAt H as rows) (e : H a = some (.tup (as.map V.ref))) : TabAt H a rows := ⟨as, e, h.1, h.2⟩
theorem TabAt.refs {H : Hp} {a : Addr} {rows : List (List Int)} (h : TabAt H a rows) : ∃ as : List Addr, H a = some (.tup (as.map V.ref)) ∧ RefsAt H as rows := by
  obtain ⟨as, e, l, k⟩ := h
  exact ⟨as, e, l, k⟩
theorem RefsAt.same {H H' : Hp} {as : List Addr} {rows : List (List Int)} (s : Same H H') (h : RefsAt H as rows) : RefsAt H' as rows := ⟨h.1, fun i r e => by
  obtain ⟨b, e1, e2⟩ := h.2 i r e
  exact ⟨b, e1, s _ _ e2⟩⟩
theorem RefsAt.append {H : Hp} {as bs : List Addr} {rows more : List (List Int)} (h : RefsAt H as rows) (k : RefsAt H bs more) : RefsAt H (as ++ bs) (rows ++ more) := by
  refine ⟨by rw [List.length_append, List.length_append, h.1, k.1], fun i r e => ?_⟩
  rw [List.getElem?_append] at e
  split at e
  · next hi =>
    obtain ⟨b, e1, e2⟩ := h.2 i r e
    exact ⟨b, by rw [List.getElem?_append, if_pos (by rw [h.1]; exact hi)]; exact e1, e2⟩
  · next hi =>
    obtain ⟨b, e1, e2⟩ := k.2 _ r e
    exact ⟨b, by rw [List.getElem?_append, if_neg (by rw [h.1]; exact hi), h.1]; exact e1, e2⟩
theorem RefsAt.take {H : Hp} {as : List Addr} {rows : List (List Int)} (h : RefsAt H as rows) (n : Nat) : RefsAt H (as.take n) (rows.take n) := by
  refine ⟨by rw [List.length_take, List.length_take, h.1], fun i r e => ?_⟩
  rw [List.getElem?_take] at e
  split at e
  · next hi =>
    obtain ⟨b, e1, e2⟩ := h.2 i r e
    exact ⟨b, by rw [List.getElem?_take, if_pos hi]; exact e1, e2⟩
  · cases e
theorem RefsAt.drop {H : Hp} {as : List Addr} {rows : List (List Int)} (h : RefsAt H as rows) (n : Nat) : RefsAt H (as.drop n) (rows.drop n) := by
  refine ⟨by rw [List.length_drop, List.length_drop, h.1], fun i r e => ?_⟩
  rw [List.getElem?_drop] at e
  obtain ⟨b, e1, e2⟩ := h.2 _ r e
  exact ⟨b, by rw [List.getElem?_drop]; exact e1, e2⟩
theorem cut_take (xs : List V) (n : Nat) : cutV xs none (some (n : Int)) = xs.take n := by
  unfold cutV
  rw [HT.sIx_nat, HT.sIx_none, List.drop_zero, Nat.sub_zero]
  by_cases h : n ≤ xs.length
  · rw [Nat.min_eq_left h]
  · rw [Nat.min_eq_right (by omega), List.take_of_length_le (Nat.le_refl _), List.take_of_length_le (by omega)]
theorem cut_drop (xs : List V) (n : Nat) : cutV xs (some (n : Int)) none = xs.drop n := by
  unfold cutV
  rw [HT.sIx_nat, HT.sIx_none]
  by_cases h : n ≤ xs.length
  · rw [Nat.min_eq_left h, List.take_of_length_le]
    rw [List.length_drop]
    exact Nat.le_refl _
  · rw [Nat.min_eq_right (by omega), List.drop_of_length_le (Nat.le_refl _), List.drop_of_length_le (by omega), List.take_nil]
/-! ### what is being gathered in a comprehension -/
def Acc (H0 H' : Hp) (D : Addr) (G : Nat → List Int) (i : Nat) : Prop := ∃ ts : List Addr, ts.length = i ∧ (∀ (k : Nat) (b : Addr), ts[k]? = some b → H' b = some (.tup ((G k).map V.int))) ∧ H' D = some (.lst (ts.map V.ref)) ∧ ∀ b o, b ≠ D → H0 b = some o → H' b = some o
theorem Acc.zero {H0 : Hp} {D : Addr} {G : Nat → List Int} : Acc H0 (upd H0 D (.lst [])) D G 0 := ⟨[], rfl, fun k b e => by simp at e, upd_same, fun b o n e => by rw [upd_ne n]; exact e⟩
theorem Acc.next {H0 H1 H2 : Hp} {D p : Addr} {G : Nat → List Int} {i : Nat} (h : Acc H0 H1 D G i) (s : Same H1 H2) (hp : H2 p = some (.tup ((G i).map V.int))) (hi : i ≤ 1000) :
    ∃ acc, H2 D = some (.lst acc) ∧ acc.length < sizeLine ∧ Acc H0 (upd H2 D (.lst (acc ++ [.ref p]))) D G (i + 1) := by
  obtain ⟨ts, et, hts, eD, k⟩ := h
  have eD2 := s _ _ eD
  have npD : p ≠ D := ne_of hp eD2 (by intro z; cases z)
  refine ⟨_, eD2, by rw [List.length_map]; exact small1000 (by omega), ts ++ [p], by rw [List.length_append, et]; rfl, fun k c e => ?_, ?_, fun c o nc e => ?_⟩
  · rw [List.getElem?_append] at e
    split at e
    · have hc := s _ _ (hts k c e)
      rw [upd_ne (ne_of hc eD2 (by intro z; cases z))]
      exact hc
    · next hk =>
      have h2 := (List.getElem?_eq_some_iff.mp e).1
      rw [List.length_singleton] at h2
      have hk2 : k = i := by omega
      subst hk2
      have z : k - ts.length = 0 := by omega
      rw [z] at e
      have : p = c := Option.some.inj e
      subst this
      rw [upd_ne npD]
      exact hp
  · rw [upd_same, List.map_append]
    rfl
  · rw [upd_ne nc]
    exact s _ _ (k _ _ nc e)
theorem Acc.get {H0 H1 : Hp} {D : Addr} {G : Nat → List Int} {n : Nat} (h : Acc H0 H1 D G n) : ∃ ts : List Addr, H1 D = some (.lst (ts.map V.ref)) ∧ RefsAt H1 ts ((List.range n).map G) := by
  obtain ⟨ts, et, hts, eD, k⟩ := h
  refine ⟨ts, eD, by rw [et, List.length_map, List.length_range], fun i r e => ?_⟩
  have hi : i < n := by
    have := (List.getElem?_eq_some_iff.mp e).1
    rw [List.length_map, List.length_range] at this
    exact this
  have e2 : G i = r := by
    rw [List.getElem?_map, List.getElem?_range hi] at e
    exact Option.some.inj e
  subst e2
  exact ⟨_, List.getElem?_eq_getElem (by omega), hts i _ (List.getElem?_eq_getElem (by omega))⟩
theorem Acc.stay {H0 H1 : Hp} {D : Addr} {G : Nat → List Int} {n : Nat} (h : Acc H0 H1 D G n) {b : Addr} {o : HO} (n : H0 D = none) (e : H0 b = some o) : H1 b = some o := by
  obtain ⟨ts, et, hts, eD, k⟩ := h
  exact k _ _ (ne_of_none e n) e
def AccI (H0 H' : Hp) (D : Addr) (g : Nat → Int) (i : Nat) : Prop := H' D = some (.lst ((matRow i g).map V.int)) ∧ ∀ b o, b ≠ D → H0 b = some o → H' b = some o
theorem AccI.zero {H0 : Hp} {D : Addr} {g : Nat → Int} : AccI H0 (upd H0 D (.lst [])) D g 0 := ⟨upd_same, fun b o n e => by rw [upd_ne n]; exact e⟩
theorem AccI.next {H0 H1 H2 : Hp} {D : Addr} {g : Nat → Int} {i : Nat} {y : Int} (h : AccI H0 H1 D g i) (s : Same H1 H2) (hy : y = g i) (hi : i ≤ 1000) : ∃ acc, H2 D = some (.lst acc) ∧ acc.length < sizeLine ∧ AccI H0 (upd H2 D (.lst (acc ++ [.int y]))) D g (i + 1) := by
  refine ⟨_, s _ _ h.1, by rw [List.length_map, matRow_len]; exact small1000 hi, ?_, fun b o n e => by rw [upd_ne n]; exact s _ _ (h.2 _ _ n e)⟩
  rw [upd_same, hy]
  unfold matRow
  rw [List.range_succ, List.map_append, List.map_append]
  rfl
theorem AccI.stay {H0 H1 : Hp} {D : Addr} {g : Nat → Int} {n : Nat} (h : AccI H0 H1 D g n) {b : Addr} {o : HO} (n : H0 D = none) (e : H0 b = some o) : H1 b = some o := h.2 _ _ (ne_of_none e n) e
/-! ### readings -/
theorem rep_done {K : PySem.W.Frag} {H : Hp} {Q : VK} {z0 : Addr} {m : Nat} (h0 : H z0 = some (.tup [.int 0])) (h1 : 1 ≤ m) (h8 : m ≤ 8) (q : ∀ (z : Addr) (H' : Hp), Same H H' → H' z = some (.tup ((matRow m fun _ => 0).map V.int)) → Q (.ref z) H') : rRep1 K (.ref z0) (.int m) H Q := by
  refine ⟨z0, m, _, rfl, rfl, SqT.of h0, (fun e => by cases e), by omega, by omega, by show 1 ≤ 1000; decide, fun e => ?_, fun _ p hp => ?_⟩
  · have : m = 1 := by omega
    subst this
    exact q z0 H (.refl _) h0
  · refine q p _ (same_upd hp) ?_
    rw [upd_same, Int.toNat_natCast, rep_flat]
theorem cat_done {K : PySem.W.Frag} {H : Hp} {Q : VK} {a b : Addr} {xs ys : List V} (hx : H a = some (.tup xs)) (hy : H b = some (.tup ys)) (nx : xs ≠ []) (ny : ys ≠ []) (lx : xs.length ≤ 500) (ly : ys.length ≤ 500) (q : ∀ (p : Addr) (H' : Hp), Same H H' → H' p = some (.tup (xs ++ ys)) → Q (.ref p) H') : rCatA K (.ref a) (.ref b) H Q :=
  ⟨a, b, xs, ys, rfl, rfl, SqT.of hx, SqT.of hy, Nat.le_of_lt (small1000 (by omega)), fun e => absurd e nx, fun _ e => absurd e ny, fun _ _ p hp => q p _ (same_upd hp) upd_same⟩
theorem sl_done {K : PySem.W.Frag} {H : Hp} {Q : VK} {a : Addr} {xs : List V} {n : Nat} (hx : H a = some (.tup xs)) (q : ∀ (p : Addr) (H' : Hp), Same H H' → H' p = some (.tup (xs.take n)) → Q (.ref p) H') : rSlA K (.ref a) none (some (n : Int)) H Q := by
  refine ⟨a, xs, rfl, SqT.of hx, fun e => ?_, fun _ p hp => q p _ (same_upd hp) (by rw [upd_same, cut_take])⟩
  have e2 := e.2
  rw [HT.sIx_nat] at e2
  refine q a H (.refl _) ?_
  rw [List.take_of_length_le (by omega)]
  exact hx
/-! ### other tables -/
def uRow (n k : Nat) : List Int := matRow n fun j => if k = j then 1 else 0
def uRows (n : Nat) : List (List Int) := (List.range n).map (uRow n)
def negRow (r : List Int) : List Int := r.map fun t => -t
def negRows (rows : List (List Int)) : List (List Int) := rows.map negRow
def zRow (n : Nat) : List Int := matRow n fun _ => 0
def sideRows (r1 : List (List Int)) (n1 : Nat) (r2 : List (List Int)) (n2 : Nat) : List (List Int) :=
  ((r1.map (· ++ zRow n2)).take n1 ++ (r2.map (zRow n1 ++ ·)).take n2 ++ (r1.map (· ++ zRow n2)).drop n1) ++ (r2.map (zRow n1 ++ ·)).drop n2
theorem mat_of (r : List Int) (h : Int → Int) : (matRow r.length fun j => h (r.getD j 0)) = r.map h := by
  apply List.ext_getElem?
  intro k
  by_cases hk : k < r.length
  · rw [matRow_get hk, List.getElem?_map, List.getElem?_eq_getElem hk, List.getD_eq_getElem?_getD, List.getElem?_eq_getElem hk]
    rfl
  · rw [List.getElem?_eq_none (by rw [matRow_len]; omega), List.getElem?_eq_none (by rw [List.length_map]; omega)]
theorem rows_of (rows : List (List Int)) (h : List Int → List Int) : ((List.range rows.length).map fun k => h (rows.getD k [])) = rows.map h := by
  apply List.ext_getElem?
  intro k
  by_cases hk : k < rows.length
  · rw [List.getElem?_map, List.getElem?_map, List.getElem?_range hk, List.getElem?_eq_getElem hk]
    show some (h (rows.getD k [])) = _
    rw [List.getD_eq_getElem?_getD, List.getElem?_eq_getElem hk]
    rfl
  · rw [List.getElem?_eq_none (by rw [List.length_map, List.length_range]; omega), List.getElem?_eq_none (by rw [List.length_map]; omega)]
theorem neg_neg (rows : List (List Int)) : negRows (negRows rows) = rows := by
  unfold negRows negRow
  rw [List.map_map]
  have e : ((fun r : List Int => r.map fun t => -t) ∘ fun r : List Int => r.map fun t => -t) = id := by
    funext r
    show (r.map fun t => -t).map (fun t => -t) = r
    rw [List.map_map]
    have e2 : ((fun t : Int => -t) ∘ fun t : Int => -t) = id := by
      funext t
      exact Int.neg_neg t
    rw [e2, List.map_id]
  rw [e, List.map_id]
theorem negRows_get {rows : List (List Int)} {i : Nat} : (negRows rows).getD i [] = negRow (rows.getD i []) := by
  unfold negRows
  rw [List.getD_eq_getElem?_getD, List.getElem?_map, List.getD_eq_getElem?_getD]
  cases rows[i]? <;> rfl
theorem ent_neg (rows : List (List Int)) (i j : Nat) : ent (negRows rows) i j = -(ent rows i j) := by
  unfold ent
  rw [negRows_get]
  unfold negRow
  rw [List.getD_eq_getElem?_getD, List.getElem?_map, List.getD_eq_getElem?_getD (l := rows.getD i [])]
  cases (rows.getD i [])[j]? <;> rfl
theorem TabOk.neg {rows : List (List Int)} {n : Nat} (O : TabOk rows n) : TabOk (negRows rows) n := by
  obtain ⟨d, d0, dv⟩ := O.even
  refine ⟨O.n1, O.n4, ?_, ?_, fun r hr => ?_, fun r hr t ht => ?_, d, d0, fun i j hi hj => ?_⟩
  · unfold negRows
    rw [List.length_map]
    exact O.len
  · unfold negRows
    rw [List.length_map]
    exact O.len4
  · obtain ⟨r', h', rfl⟩ := List.mem_map.mp hr
    unfold negRow
    rw [List.length_map]
    exact O.wide _ h'
  · obtain ⟨r', h', rfl⟩ := List.mem_map.mp hr
    obtain ⟨t', h2, rfl⟩ := List.mem_map.mp ht
    have := O.tie _ h' _ h2
    omega
  · have := dv i j hi hj
    rw [ent_neg, ent_neg, Int.mul_neg, Int.mul_neg]
    omega
theorem ent_prin {rows : List (List Int)} {n : Nat} (hl : n ≤ rows.length) {i j : Nat} (hi : i < n) : ent (rows.take n ++ uRows n) i j = ent rows i j := by
  unfold ent
  have e : (rows.take n ++ uRows n).getD i [] = rows.getD i [] := by
    rw [List.getD_eq_getElem?_getD, List.getElem?_append, if_pos (by rw [List.length_take]; omega), List.getElem?_take, if_pos hi, List.getD_eq_getElem?_getD]
  rw [e]
theorem uRows_mem {n : Nat} {r : List Int} (h : r ∈ uRows n) : r.length = n ∧ ∀ t ∈ r, -50 ≤ t ∧ t ≤ 50 := by
  unfold uRows at h
  obtain ⟨k, _, rfl⟩ := List.mem_map.mp h
  unfold uRow
  refine ⟨matRow_len .., fun t ht => ?_⟩
  unfold matRow at ht
  obtain ⟨j, _, rfl⟩ := List.mem_map.mp ht
  split <;> omega
theorem uRows_len (n : Nat) : (uRows n).length = n := by
  unfold uRows
  rw [List.length_map, List.length_range]
theorem TabOk.prin {rows : List (List Int)} {n : Nat} (O : TabOk rows n) : TabOk (rows.take n ++ uRows n) n := by
  obtain ⟨d, d0, dv⟩ := O.even
  have hl := O.len
  have h4 := O.n4
  refine ⟨O.n1, O.n4, ?_, ?_, fun r hr => ?_, fun r hr t ht => ?_, d, d0, fun i j hi hj => ?_⟩
  · rw [List.length_append, List.length_take, uRows_len]
    omega
  · rw [List.length_append, List.length_take, uRows_len]
    omega
  · rcases List.mem_append.mp hr with hr | hr
    · exact O.wide _ (List.mem_of_mem_take hr)
    · exact (uRows_mem hr).1
  · rcases List.mem_append.mp hr with hr | hr
    · exact O.tie _ (List.mem_of_mem_take hr) _ ht
    · exact (uRows_mem hr).2 _ ht
  · rw [ent_prin hl hi, ent_prin hl hj]
    exact dv i j hi hj
theorem prin_prin {rows : List (List Int)} {n : Nat} (hl : n ≤ rows.length) : (rows.take n ++ uRows n).take n ++ uRows n = rows.take n ++ uRows n := by
  have e : (rows.take n ++ uRows n).take n = rows.take n := by
    rw [List.take_append_of_le_length (by rw [List.length_take]; omega), List.take_take, Nat.min_self]
  rw [e]
/-- two tables alike are the same by the law's own looking -/
theorem al_tab {H : Hp} {a b : Addr} {rows : List (List Int)} (ha : TabAt H a rows) (hb : TabAt H b rows) (hz : rows.length ≤ 1000) (hw : ∀ r ∈ rows, r.length ≤ 1000) : Al 3 H (.ref a) (.ref b) := by
  obtain ⟨as, a1, a2, a3⟩ := ha
  obtain ⟨bs, b1, b2, b3⟩ := hb
  refine .inr (.inl ⟨a, b, _, _, rfl, rfl, a1, b1, by rw [List.length_map, List.length_map, a2, b2], by rw [List.length_map, a2]; exact hz, fun j u v hu hv => ?_⟩)
  have hj : j < rows.length := by
    have := (List.getElem?_eq_some_iff.mp hu).1
    rw [List.length_map, a2] at this
    exact this
  obtain ⟨x, x1, x2⟩ := a3 j _ (List.getElem?_eq_getElem hj)
  obtain ⟨y, y1, y2⟩ := b3 j _ (List.getElem?_eq_getElem hj)
  rw [List.getElem?_map, x1] at hu
  rw [List.getElem?_map, y1] at hv
  cases hu
  cases hv
  refine .inr (.inl ⟨x, y, _, _, rfl, rfl, x2, y2, rfl, by rw [List.length_map]; exact hw _ (List.getElem_mem hj), fun k u v hu hv => ?_⟩)
  obtain ⟨t, _, rfl⟩ := int_at hu
  rw [hu] at hv
  cases hv
  exact .inl ⟨rfl, .inl ⟨t, rfl⟩⟩
end Bw
set_option Elab.async false
set_option linter.all false
set_option maxRecDepth 100000
set_option maxHeartbeats 4000000
namespace Bw
open PySem PySem.Spec PyProof.Rows L2
/-- a def read off its class, by the class's name -/
structure ClsFn (K : PySem.W.Frag) (mg : Str → Option Value) (x m : Str) (C f : Addr) : Prop where
  g : mg x = some (.ref C)
  sg : PySem.W.specialIn K (.ref C) "__getattribute__" = some (some (.builtin "type.__getattribute__"))
  ty : PySem.W.typeIn K (.ref C) = some (.type "type")
  rd : PySem.W.readsIn K C (.type "type") = true
  fc : PySem.W.findCls K (.ref C) (.type "type") m = some (.val (.ref f))
  kf : PySem.W.keepIn K (.ref f) = true
theorem pe_cfun {X : Cx} {x m : Str} {C f : Addr} {CX : CXT} {k : Nat} {fd : FuncData} {ps : List Str} {sp : Sp} {E : XK} {e : Expr} {es : List Expr} {t : TA} {np apos pos : Pos} {pl : Sem Bool} (T : ClsFn X.K X.mg x m C f) (F : FnOk X.prog X.w X.K X.mg X.base CX k f fd ps sp) (hr : Room k X.A) (hg : Gl X x)
    (hb : Binds X.K fd ps []) (hx : Passes CX X E) (ha : PA X (e :: es) t) (hdb : (x == ("__debug__" : Str)) = false := by decide)
    (ht : eval (.Call (.Attribute (.Name x np) m apos) (e :: es) [] pos) X.env = (do
      let ov ← eval (.Name x np) X.env
      standAt apos.atName
      let (f, first) ← holding [ov] (getMethod ov m pl)
      callWith pos f first (backTo pos (starEach (e :: es) X.env)) (backToKw pos (keywordEach [] X.env))) := by rfl)
    (he : starEach (e :: es) X.env = (false, eval e X.env) :: starEach es X.env := by rfl) (hpl : (backTo pos (starEach es X.env)).any (·.1) = false := by rfl) :
    PE X (.Call (.Attribute (.Name x np) m apos) (e :: es) [] pos) (tCall sp [] E t) := by
  refine ⟨fun pins s σ H Q I h => ?_⟩
  refine PySem.W.methodCall_KW (ld_glob I hg T.g ?_ hdb) ht
  obtain ⟨m, fr⟩ := I.fr
  refine PySem.W.method_of_cls fr I.ok.mod.kin T.sg (PySem.W.cls_val fr I.ok.mod.kin T.ty T.rd T.fc rfl ?_)
  show wpAny _ _ (callWith pos (Value.ref f) [] (backTo pos (starEach (e :: es) X.env)) []) _ _ _
  refine PySem.W.callWith_K (h₀ := X.base) I.ok.mod.kin T.kf (thn (ha.run pos pins _ σ H _ (I.tok _) h) fun us s1 ⟨vs, H1, I1, r, q⟩ => ⟨I1.kIn, ?_⟩) he hpl
  exact run_fn F hr hb .nil hx I1 r q
/-! ### raise C(), C with an __init__ of its own that wants nothing -/
theorem pmk_oex0 {X : Cx} {p pos : Pos} {CX : CXT} {x : Str} {C fI : Addr} {k : Nat} {fd : FuncData} {ps : List Str} {sp : Sp} (T : OexC X.K C) (iC : PySem.W.findIn X.K (.ref C) "__init__" = some (some (.ref fI))) (tI : PySem.W.typeIn X.K (.ref fI) = some (.type "function"))
    (F1 : FnOk X.prog X.w X.K X.mg X.base CX k fI fd ps sp) (hr : Room (k + 1) X.A) (hb : Binds X.K fd ps []) (hx : Passes CX X (fun _ _ _ => False)) (hg : Gl X x) (hm : X.mg x = some (.ref C)) (hdb : (x == ("__debug__" : Str)) = false := by decide) :
    PMk X (.Call (.Name x p) [] [] pos) (tMkO C sp [] tNil) := by
  intro pins s1 σ H1 Q I1 h
  obtain ⟨hz, q1⟩ := h
  obtain ⟨nm, q, N, bs, bm, sn, sub, ab, col, dd, k0, k1, k2, k3, k5, hC, hbm⟩ := T.cls
  refine wpAny_Call_Name_kw (ld_glob I1 hg hm ?_ hdb); refine PySem.W.callWith_K0 I1.kIn T.kC ?_
  show wpAny _ _ (call (.ref C) []) _ _ _
  obtain ⟨hp, g, dr, tk, os⟩ := s1
  have hsz : hp.objs.size ≤ hp.objs.size + 1 := Nat.le_succ _
  have hn : H1 (hp.objs.size + 1) = none := I1.hok.fresh hsz
  have hq := q1 (hp.objs.size + 1) hn
  have kk : ∀ b o, hp.get? b = some o → ((hp.push (PySem.W.kdv_tup [])).push (PySem.HandSPX.excO C hp.objs.size)).get? b = some o := fun b o e => Heap.get?_push_of_some _ (Heap.get?_push_of_some _ e)
  have hget : ((hp.push (PySem.W.kdv_tup [])).push (PySem.HandSPX.excO C hp.objs.size)).get? (hp.objs.size + 1) = some (PySem.HandSPX.excO C hp.objs.size) := by heap_get
  have I2 : L2.Inv X pins σ (upd H1 (hp.objs.size + 1) (exo (hp.objs.size + 1) C none)) ⟨(hp.push (PySem.W.kdv_tup [])).push (PySem.HandSPX.excO C hp.objs.size), g, dr, tk, os⟩ := I1.laid (t' := tk) (a := hp.objs.size + 1) (o := exo (hp.objs.size + 1) C none) (h' := (hp.push (PySem.W.kdv_tup [])).push (PySem.HandSPX.excO C hp.objs.size)) kk hsz (exo_ok hget)
  have r2 : Vals [V.ref (hp.objs.size + 1)] [Value.ref (hp.objs.size + 1)] := .cons rfl .nil
  have hl : ([Value.ref (hp.objs.size + 1)] ++ ([] : List Value)).length = ps.length := F1.len _ _ _ _ hq
  refine wpAny_call (PySem.HandSPX.call_own F.excBase_ValueError (fun Y => PySem.HandSPX.refsVE_contains Y bm hbm) (I1.kIn _ _ hC) (PySem.W.looks_findIn I1.kIn iC) (fun self => PySem.W.bind_fn I1.kIn self tI) (Nat.zero_le _)
    (codeAny_mono (F1.run _ X.stack _ _ ⟨[Value.ref (hp.objs.size + 1)], []⟩ [Value.ref (hp.objs.size + 1)] _ _ (fun _ _ _ => False) (hr.make C [] []) (I2.env0.make C [] []) (hb _ [Value.ref (hp.objs.size + 1)] I2.kIn hl) r2 hq) fun r s' hq' => ?_))
  cases r with
  | error er => exact hx pins σ _ _ er s' I2 hq'
  | ok fl =>
    cases fl with
    | ret u =>
      obtain ⟨v, H2, os2, bare2, un2, hok2, rv, ev, d, fs, ea, ed, hd1, q2⟩ := hq'
      subst ev
      obtain ⟨h2, g2, d2, t2, os'⟩ := s'
      exact ⟨rv, mk_end (raises_own T.exC T.tyC) I1 hsz kk un2 hok2 os2 bare2 ea ed hd1 q2⟩
    | next => exact False.elim hq'
    | brk => exact False.elim hq'
    | cont => exact False.elim hq'
/-- f(k = e, ..), nothing by place -/
def tCallK0 (sp : Sp) (gV : List V → List V → List V) (E : XK) (tk : TA) : TE := fun σ H Q => tk σ H fun zs H2 => sp (gV [] zs) H2 Q E
theorem pe_callK0 {X : Cx} {CX : CXT} {k : Nat} {f : Addr} {fd : FuncData} {ps ks : List Str} {sp : Sp} {E : XK} {x : Str} {p pos : Pos} {kws : List Keyword} {tk : TA} {g : List Value → List Value → List Value} {gV : List V → List V → List V}
    (F : FnOk X.prog X.w X.K X.mg X.base CX k f fd ps sp) (hr : Room k X.A) (hg : Gl X x) (hm : X.mg x = some (.ref f)) (hk : PySem.W.keepIn X.K (.ref f) = true) (hb : KBinds X.K fd ps ks g gV) (hx : Passes CX X E)
    (hkw : PK X kws tk) (hall : (backToKw pos (keywordEach kws X.env)).all (·.1.isSome) = true := by rfl) (hks : (backToKw pos (keywordEach kws X.env)).filterMap (·.1) = ks := by rfl)
    (hdb : (x == ("__debug__" : Str)) = false := by decide) (hpl : ((backTo pos (starEach [] X.env)).any (·.1) || (backToKw pos (keywordEach kws X.env)).any (·.1.isNone)) = false := by rfl) :
    PE X (.Call (.Name x p) [] kws pos) (tCallK0 sp gV E tk) := by
  refine ⟨fun pins s σ H Q I h => ?_⟩
  refine wpAny_Call_Name_kw (ld_glob I hg hm ?_ hdb)
  refine PySem.W.callWith_KW0 (h₀ := X.base) I.ok.mod.kin hk hall (thn (hkw.run pos pins s σ H _ I h) fun ws s2 ⟨zs, H2, I2, rz, q2⟩ => ⟨I2.kIn, ?_⟩) hpl
  rw [hks]
  exact run_fnk (us := []) (vs := []) F hr hb hx I2 .nil rz q2
theorem it_walk {J : It} {n : Nat} {G : Hp → Prop} {Y : Nat → Hp → V → Hp → Prop} (wk : Walk J n G Y) {H1 : Hp} {Qd : Hp → Prop} {Body : V → Hp → (Hp → Prop) → Prop} (Pv : Nat → Hp → Prop) (h0 : Pv 0 H1) (hG : ∀ i H, i ≤ n → Pv i H → G H)
    (hs : ∀ i x H H', i < n → Pv i H → Y i H x H' → Body x H' (Pv (i + 1))) (hd : ∀ H, Pv n H → Qd H) :
    ∃ W : Nat → Nat → Hp → Prop, (∃ m, W 0 m H1) ∧ ∀ i m H, W i m H → (J.stop i H ∧ Qd H) ∨ (J.go i H ∧ ∃ Nx : Hp → Prop, (∀ H', Nx H' → ∃ m', m' < m ∧ W (i + 1) m' H') ∧ ∀ x H', J.yld i H x H' → Body x H' Nx) := by
  refine ⟨fun i m H => m = n - i ∧ i ≤ n ∧ Pv i H, ⟨n, rfl, Nat.zero_le _, h0⟩, ?_⟩
  rintro i m H ⟨rfl, hi, p⟩
  have q := hG i H hi p
  by_cases hlt : i < n
  · exact .inr ⟨wk.goes i H hlt q, Pv (i + 1), fun H' p' => ⟨n - (i + 1), by omega, rfl, hlt, p'⟩, fun x H' y => hs i x H H' hlt p (wk.yields i H x H' hlt q y)⟩
  · have e : i = n := by omega
    subst e
    exact .inl ⟨wk.stops H q, hd H p⟩
section
variable {X : Cx} {K : PySem.W.Frag}
theorem p_bmR {o e : Expr} {es : List Expr} {to : TE} {t : TA} {name : Str} {apos cpos : Pos} {T id : String} {r : V → List V → Hp → VK → Prop} (pa : PlainAttrs T) (slot : Slot T name id) (hty : typeOf (.builtin id) = pure (.type "method_descriptor")) (hm : MtR X id r) (ho : PE X o to) (ha : PA X (e :: es) t) (hK : X.K = K := by rfl)
    (hbase : attributeBase o name X.env (eval o X.env) = eval o X.env := by rfl)
    (hfew : ((backTo cpos (starEach (e :: es) X.env)).all (fun x => !x.1) && (backToKw cpos (keywordEach [] X.env)).all (fun x => x.1.isSome) && decide ((e :: es).length + ([] : List Keyword).length + (if ([] : List Keyword).isEmpty then 0 else 1) < 30)) = true := by rfl)
    (hline : (apos.endLine == cpos.line) = true := by rfl) (hs : starEach (e :: es) X.env = (false, eval e X.env) :: starEach es X.env := by rfl) (hplain : (backTo cpos (starEach es X.env)).any (·.1) = false := by rfl) :
    PE X (.Call (.Attribute o name apos) (e :: es) [] cpos) (tBM K T r to t) := by
  subst hK
  exact pe_bm pa slot hty hm ho ha hbase hfew hline hs hplain
theorem c_max (hc : X.calm = true) (h : X.K = K := by rfl) : CallR X (.builtin "max") (rMax K) := by
  subst h
  exact cr_max hc
end
end Bw
set_option Elab.async false
set_option linter.all false
set_option maxRecDepth 100000
set_option maxHeartbeats 4000000
namespace Bw
open PySem PySem.Spec PyProof.Rows L2
/-! ### max and min of a tuple of whole numbers -/
section
variable {prog : Program} {w : World} {A : Around} {E : Value → Shared → Prop} {s : Shared} {l : Addr} {xs : Array (Int × Tok)}
theorem iter_intTup {Q : Value → Shared → Prop} (hl : s.heap.IsTuple l (intItems xs))
    (h : ∀ s₂ : Shared, s₂ = { s with heap := s.heap.push { cls := .type "tuple_iterator", data := .fields #[.ref l, .int 0 0] } } →
      (s₂.heap.IsTupleIter s.heap.objs.size l 0 ∧ s₂.heap.IsTuple l (intItems xs)) → (∀ b ∈ [s.heap.objs.size, l], b < s₂.heap.objs.size) → l ≠ s.heap.objs.size → Q (.ref s.heap.objs.size) s₂) :
    wpAny (model prog w) A (pyIter (.ref l)) Q E s := by
  have hlt : l < s.heap.objs.size := by obtain ⟨_, e, _⟩ := hl; exact Heap.lt_size e
  refine wpAny_pyIter_tuple hl (h _ rfl ⟨⟨_, Heap.get?_push_size _ rfl, rfl, rfl⟩, hl.at fun o e => Heap.get?_push_of_some _ e⟩ (fun b hb => ?_) (Nat.ne_of_lt hlt))
  show b < (s.heap.push _).objs.size
  rw [Heap.size_push]
  rcases List.mem_cons.mp hb with rfl | hb
  · exact Nat.lt_succ_self _
  · rcases List.mem_cons.mp hb with rfl | hb
    · exact Nat.lt_succ_of_lt hlt
    · cases hb
theorem old_keptT {h' : Heap} {o₀ : Obj} (hk : ∀ b o, b ∉ [s.heap.objs.size] → (s.heap.push o₀).get? b = some o → h'.get? b = some o) :
    ∀ b o, s.heap.get? b = some o → h'.get? b = some o := fun b o e => by
  refine hk b o (fun hm => ?_) (Heap.get?_push_of_some _ e)
  rcases List.mem_cons.mp hm with e1 | hm
  · exact absurd (e1 ▸ Heap.lt_size e) (Nat.lt_irrefl _)
  · cases hm
theorem max_intTup {Q : Value → Shared → Prop} (hh : A.handled = none) (hl : s.heap.IsTuple l (intItems xs)) (hne : 0 < xs.size)
    (h : ∀ v h' tk, (intItems xs)[argBest (fun i j => decide (numAt xs i > numAt xs j)) (xs.size - 1)]? = some v → (∀ b o, s.heap.get? b = some o → h'.get? b = some o) → Q v { s with heap := h', toks := tk }) :
    wpAny (model prog w) A (call (.builtin "max") [.ref l]) Q E s := by
  refine call_max_walk (iter_intTup hl fun s₂ e st hfp hlI => ?_)
  subst e
  refine ⟨_, _, _, _, _, _, _, rfl, Walks.tuple (A := A.in1) hh _ l hlI (intItems xs), st, hfp, by simpa [intItems] using hne, CmpOf.ints_gt (numAt xs) (fun _ _ => intItems_at), fun v h' tk hP hk => ?_⟩
  exact h v h' tk (by simpa [intItems] using hP) (old_keptT hk)
theorem min_intTup {Q : Value → Shared → Prop} (hh : A.handled = none) (hl : s.heap.IsTuple l (intItems xs)) (hne : 0 < xs.size)
    (h : ∀ v h' tk, (intItems xs)[argBest (fun i j => decide (numAt xs i < numAt xs j)) (xs.size - 1)]? = some v → (∀ b o, s.heap.get? b = some o → h'.get? b = some o) → Q v { s with heap := h', toks := tk }) :
    wpAny (model prog w) A (call (.builtin "min") [.ref l]) Q E s := by
  refine call_min_walk (iter_intTup hl fun s₂ e st hfp hlI => ?_)
  subst e
  refine ⟨_, _, _, _, _, _, _, rfl, Walks.tuple (A := A.in1) hh _ l hlI (intItems xs), st, hfp, by simpa [intItems] using hne, CmpOf.ints_lt (numAt xs) (fun _ _ => intItems_at), fun v h' tk hP hk => ?_⟩
  exact h v h' tk (by simpa [intItems] using hP) (old_keptT hk)
theorem max_rawT {its : List Value} {ns : List Int} {Q : Value → Shared → Prop} (hh : A.handled = none) (hl : s.heap.IsTuple l its.toArray) (hi : IntsAre its ns) (hne : 0 < ns.length)
    (h : ∀ h' tk M t', (∀ b o, s.heap.get? b = some o → h'.get? b = some o) → M ∈ ns → (∀ a, a ∈ ns → a ≤ M) → Q (.int M t') { s with heap := h', toks := tk }) : wpAny (model prog w) A (call (.builtin "max") [.ref l]) Q E s := by
  obtain ⟨xs, e⟩ := hi.allInts.items
  have hn : numsOf (intItems xs).toList = ns := by rw [← e]; exact hi.numsOf
  rw [nums_intItems] at hn
  subst hn
  rw [e] at hl
  have hsz : 0 < xs.size := by simpa using hne
  refine max_intTup hh hl hsz fun v h' tk hv hk => ?_
  obtain ⟨t, rfl⟩ := intItems_at hv
  obtain ⟨h1, h2⟩ := argBest_gt (numAt xs) (xs.size - 1)
  refine h h' tk _ t hk ?_ fun a ha => ?_
  · rw [numAt_eq]; exact PySem.getD_mem (by rw [List.length_map, Array.length_toList]; omega)
  · obtain ⟨j, hj, rfl⟩ := mem_getD ha
    rw [List.length_map, Array.length_toList] at hj
    rw [← numAt_eq]; exact h2 j (by omega)
theorem min_rawT {its : List Value} {ns : List Int} {Q : Value → Shared → Prop} (hh : A.handled = none) (hl : s.heap.IsTuple l its.toArray) (hi : IntsAre its ns) (hne : 0 < ns.length)
    (h : ∀ h' tk M t', (∀ b o, s.heap.get? b = some o → h'.get? b = some o) → M ∈ ns → (∀ a, a ∈ ns → M ≤ a) → Q (.int M t') { s with heap := h', toks := tk }) : wpAny (model prog w) A (call (.builtin "min") [.ref l]) Q E s := by
  obtain ⟨xs, e⟩ := hi.allInts.items
  have hn : numsOf (intItems xs).toList = ns := by rw [← e]; exact hi.numsOf
  rw [nums_intItems] at hn
  subst hn
  rw [e] at hl
  have hsz : 0 < xs.size := by simpa using hne
  refine min_intTup hh hl hsz fun v h' tk hv hk => ?_
  obtain ⟨t, rfl⟩ := intItems_at hv
  obtain ⟨h1, h2⟩ := argBest_lt (numAt xs) (xs.size - 1)
  refine h h' tk _ t hk ?_ fun a ha => ?_
  · rw [numAt_eq]; exact PySem.getD_mem (by rw [List.length_map, Array.length_toList]; omega)
  · obtain ⟨j, hj, rfl⟩ := mem_getD ha
    rw [List.length_map, Array.length_toList] at hj
    rw [← numAt_eq]; exact h2 j (by omega)
end
section
variable {X : Cx} {K : PySem.W.Frag}
def rMaxT (K : PySem.W.Frag) : List V → Hp → VK → Prop := fun vs H Q => ∃ (a : Addr) (ns : List Int), vs = [V.ref a] ∧ SqT K H a (ns.map V.int) ∧ 0 < ns.length ∧ ∀ m, m ∈ ns → (∀ y, y ∈ ns → y ≤ m) → Q (.int m) H
def rMinT (K : PySem.W.Frag) : List V → Hp → VK → Prop := fun vs H Q => ∃ (a : Addr) (ns : List Int), vs = [V.ref a] ∧ SqT K H a (ns.map V.int) ∧ 0 < ns.length ∧ ∀ m, m ∈ ns → (∀ y, y ∈ ns → m ≤ y) → Q (.int m) H
theorem c_maxT (hc : X.calm = true) (h : X.K = K := by rfl) : CallR X (.builtin "max") (rMaxT K) := by
  subst h
  intro pins s σ H vs us Q I r h
  obtain ⟨a, ns, rfl, hs, hne, q⟩ := h
  obtain ⟨its, rv, hl, _⟩ := I.tuple hs
  rw [Vals.ref1 r]
  exact max_rawT (I.ok.hd hc) hl rv.ints hne fun h' tk m t' hk h1 h2 => ⟨.int _, H, I.kept hk, ⟨_, rfl⟩, q m h1 h2⟩
theorem c_minT (hc : X.calm = true) (h : X.K = K := by rfl) : CallR X (.builtin "min") (rMinT K) := by
  subst h
  intro pins s σ H vs us Q I r h
  obtain ⟨a, ns, rfl, hs, hne, q⟩ := h
  obtain ⟨its, rv, hl, _⟩ := I.tuple hs
  rw [Vals.ref1 r]
  exact min_rawT (I.ok.hd hc) hl rv.ints hne fun h' tk m t' hk h1 h2 => ⟨.int _, H, I.kept hk, ⟨_, rfl⟩, q m h1 h2⟩
end
end Bw
set_option Elab.async false
set_option linter.all false
set_option maxRecDepth 100000
set_option maxHeartbeats 4000000
namespace Bw
open PySem PySem.Spec PyProof.Rows L2
/-! ### the errors' own __init__ -/
section
variable {P : Program} {w : World} {K : PySem.W.Frag} {mg : Str → Option Value} {base : Heap}
abbrev s_bud_init : Stmt := inClass (topS 2) 0
theorem sc_bud_init : FnScope ["self", "word"] ["self", "word"] (defScope s_bud_init) := ⟨rfl, rfl, rfl, by decide +kernel, rfl, by decide +kernel, by decide +kernel⟩
def vV (K : PySem.W.Frag) : Prop := PySem.W.findCls K (.type "ValueError") (.type "type") "__init__" = some (.val (.builtin "ValueError.__init__"))
def spBudInit (K : PySem.W.Frag) : Sp := fun vs H Q _ => ∃ (a C : Addr) (x : V), vs = [.ref a, x] ∧ OexC K C ∧ PySem.W.findIn K (.ref C) "word" = some none ∧ H a = some (exo a C none) ∧ ∀ dx, H dx = none → dx ≠ a → Q .non (upd (upd H dx (exd dx [("word", x)])) a (exo a C (some dx)))
theorem ok_budinit {f : Addr} {fd : FuncData} {k : Nat} (F : Fun K "__init__" "BudError.__init__" s_bud_init f fd) (T : Tx mg) (v : vV K) : FnOk P w K mg base CX0 (k + 1) f fd ["self", "word"] (spBudInit K) := by
  refine F.ok sc_bud_init (fun vs H Q E h => ?_) (fun cdv A outer s H vs Q E hr h => ?_)
  · obtain ⟨a, C, x, rfl, _⟩ := h
    rfl
  · obtain ⟨a, C, x, rfl, O, nw, ha, q⟩ := h
    refine ⟨_, pss_cons (ps_expr (pe_veinit (by rfl) T.ValueError v (pa_cons (pv 0) (pa_cons (pv 1) pa_nil)))) (pss_one (ps_ost (pv 0) (pv 1))), ?_⟩
    refine ⟨.ref a, rfl, x, rfl, a, C, [x], rfl, by show 1 ≤ 1000; decide, O, ha, ?_⟩
    exact ⟨x, rfl, .ref a, rfl, a, C, rfl, O, nw, .inl ⟨ha, q⟩⟩
abbrev s_great_init : Stmt := inClass (topS 6) 0
theorem sc_great_init : FnScope ["self"] ["self"] (defScope s_great_init) := ⟨rfl, rfl, rfl, by decide +kernel, rfl, by decide +kernel, by decide +kernel⟩
def greatFs : List (Str × V) := [("word", .str "great")]
def spGreatInit (K : PySem.W.Frag) : Sp := fun vs H Q _ => ∃ (a C : Addr), vs = [.ref a] ∧ OexC K C ∧ PySem.W.findIn K (.ref C) "word" = some none ∧ H a = some (exo a C none) ∧
  ∀ (dx : Addr) (H' : Hp), H dx = none → dx ≠ a → H' a = some (exo a C (some dx)) → H' dx = some (exd dx greatFs) → (∀ b, b ≠ a → b ≠ dx → H' b = H b) → Q .non H'
theorem ok_greatinit {f fB CB : Addr} {fd fdB : FuncData} {k : Nat} (F : Fun K "__init__" "Great.__init__" s_great_init f fd) (T : Tx mg) (TB : ClsFn K mg "BudError" "__init__" CB fB) (FB : FnOk P w K mg base CX0 k fB fdB ["self", "word"] (spBudInit K)) (bB : Binds K fdB ["self", "word"] []) : FnOk P w K mg base CX0 (k + 1) f fd ["self"] (spGreatInit K) := by
  refine F.ok sc_great_init (fun vs H Q E h => ?_) (fun cdv A outer s H vs Q E hr h => ?_)
  · obtain ⟨a, C, rfl, _⟩ := h
    rfl
  · obtain ⟨a, C, rfl, O, nw, ha, q⟩ := h
    refine ⟨_, pss_one (ps_expr (pe_cfun TB FB hr (by rfl) bB pass0 (pa_cons (pv 0) (pa_cons pe_str pa_nil)))), ?_⟩
    refine ⟨.ref a, rfl, a, C, _, rfl, O, nw, ha, fun dx ed nd => ?_⟩
    refine q dx _ ed nd upd_same ?_ fun b n1 n2 => ?_
    · rw [upd_ne nd, upd_same]
      rfl
    · rw [upd_ne n1, upd_ne n2]
end
/-- what the written part says of Great -/
structure GreatC (K : PySem.W.Frag) (mg : Str → Option Value) (C f : Addr) : Prop where
  g : mg "Great" = some (.ref C)
  oex : OexC K C
  iC : PySem.W.findIn K (.ref C) "__init__" = some (some (.ref f))
  tI : PySem.W.typeIn K (.ref f) = some (.type "function")
  nw : PySem.W.findIn K (.ref C) "word" = some none
  te : PySem.W.exmOne K (.ref C) (.ref C) = some true
/-! ### tables turned -/
def turnE (B : Nat → Nat → Int) (k i j : Nat) : Int :=
  if i = k ∨ j = k then -(B i j) else if 0 < B i k ∧ 0 < B k j then B i j + B i k * B k j else if B i k < 0 ∧ B k j < 0 then B i j - B i k * B k j else B i j
def turnT (rows : List (List Int)) (n k : Nat) : List (List Int) := (List.range rows.length).map fun i => matRow n (turnE (ent rows) k i)
structure WdOk (rows : List (List Int)) (n : Nat) : Prop where
  n1 : 1 ≤ n
  n4 : n ≤ 4
  len : n ≤ rows.length
  len8 : rows.length ≤ 8
  wide : ∀ r ∈ rows, r.length = n
  tie : ∀ r ∈ rows, ∀ t ∈ r, -50 ≤ t ∧ t ≤ 50
theorem WdOk.bd {rows : List (List Int)} {n i j : Nat} (O : WdOk rows n) (hi : i < rows.length) (hj : j < n) : -50 ≤ ent rows i j ∧ ent rows i j ≤ 50 := by
  have h := row_len O.wide hi
  have hj2 : j < (rows.getD i []).length := by omega
  have e : ent rows i j = (rows.getD i [])[j] := by
    unfold ent
    rw [List.getD_eq_getElem?_getD (i := j), List.getElem?_eq_getElem hj2]
    rfl
  rw [e]
  refine O.tie (rows.getD i []) ?_ _ (List.getElem_mem hj2)
  rw [List.getD_eq_getElem?_getD, List.getElem?_eq_getElem hi]
  exact List.getElem_mem hi
theorem turnT_len (rows : List (List Int)) (n k : Nat) : (turnT rows n k).length = rows.length := by
  unfold turnT
  rw [List.length_map, List.length_range]
theorem turnT_wide {rows : List (List Int)} {n k : Nat} : ∀ r ∈ turnT rows n k, r.length = n := fun r hr => by
  obtain ⟨i, _, rfl⟩ := List.mem_map.mp hr
  exact matRow_len _ _
theorem turnT_ent {rows : List (List Int)} {n k i j : Nat} (hi : i < rows.length) (hj : j < n) : ent (turnT rows n k) i j = turnE (ent rows) k i j := by
  have e : (turnT rows n k).getD i [] = matRow n (turnE (ent rows) k i) := by
    unfold turnT
    rw [List.getD_eq_getElem?_getD, List.getElem?_map, List.getElem?_range hi]
    rfl
  show ((turnT rows n k).getD i []).getD j 0 = _
  rw [e]
  exact matRow_getD hj
def fits (rows : List (List Int)) (n k : Nat) : Prop := ∀ r ∈ turnT rows n k, ∀ t ∈ r, -50 ≤ t ∧ t ≤ 50
theorem TabAt.entry {K : PySem.W.Frag} {H : Hp} {a : Addr} {rows : List (List Int)} {n i j : Nat} {Q : VK} (h : TabAt H a rows) (w : ∀ r ∈ rows, r.length = n) (hi : i < rows.length) (hj : j < n) {P : V → Hp → Prop} :
    ∃ (as : List Addr) (b : Addr), H a = some (.tup (as.map V.ref)) ∧ (as.map V.ref)[i]? = some (.ref b) ∧ H b = some (.tup ((rows.getD i []).map V.int)) ∧ ((rows.getD i []).map V.int)[j]? = some (.int (ent rows i j)) := by
  obtain ⟨as, b, h1, h2, h3⟩ := h.row hi
  exact ⟨as, b, h1, h2, h3, ent_get w hi hj⟩
/-! ### a row turned -/
def newRow (row up down : List Int) (k : Nat) : List Int :=
  if row.getD k 0 = 0 then row else matRow row.length fun j => row.getD j 0 + row.getD k 0 * (if 0 < row.getD k 0 then up else down).getD j 0
theorem getD_at {r : List Int} {j : Nat} {x : Int} (h : r[j]? = some x) : r.getD j 0 = x := by
  rw [List.getD_eq_getElem?_getD, h]
  rfl
theorem at_getD {r : List Int} {j : Nat} (h : j < r.length) : (r.map V.int)[j]? = some (.int (r.getD j 0)) := by
  rw [List.getElem?_map, List.getElem?_eq_getElem h, List.getD_eq_getElem?_getD, List.getElem?_eq_getElem h]
  rfl
section
variable {P : Program} {w : World} {K : PySem.W.Frag} {mg : Str → Option Value} {base : Heap}
abbrev s_turned_row : Stmt := topS 47
abbrev n_turned_row : List Str := ["row", "up", "down", "place", "tie", "old", "often"]
theorem sc_turned_row : FnScope n_turned_row ["row", "up", "down", "place"] (defScope s_turned_row) := ⟨rfl, rfl, rfl, by decide +kernel, rfl, by decide +kernel, by decide +kernel⟩
def spTRow : Sp := fun vs H Q _ => ∃ (r u d : Addr) (row up down : List Int) (k : Nat), vs = [.ref r, .ref u, .ref d, .int k] ∧ H r = some (.tup (row.map V.int)) ∧ H u = some (.lst (up.map V.int)) ∧ H d = some (.lst (down.map V.int)) ∧ k < row.length ∧ row.length ≤ 4 ∧ up.length = row.length ∧ down.length = row.length ∧ (∀ t ∈ row, -50 ≤ t ∧ t ≤ 50) ∧
  ∀ (b : Addr) (H' : Hp), Same H H' → H' b = some (.tup ((newRow row up down k).map V.int)) → Q (.ref b) H'
theorem ok_trow {f : Addr} {fd : FuncData} (F : Fun K "turned_row" "turned_row" s_turned_row f fd) (T : Tx mg) : FnOk P w K mg base CX0 1 f fd ["row", "up", "down", "place"] spTRow := by
  refine F.ok sc_turned_row (fun vs H Q E h => ?_) (fun cdv A outer s H vs Q E hr h => ?_)
  · obtain ⟨r, u, d, row, up, down, k, rfl, _⟩ := h
    rfl
  · obtain ⟨r, u, d, row, up, down, k, rfl, h1, hu, hd, hk, l4, lu, ld, hb, q⟩ := h
    refine ⟨_, (pss_cons (ps_set (i := 4) sc_turned_row.nd rfl (.inr rfl) (pe_ix (i_tup (K := K)) (pv 0) (pv 3) (fun _ _ => rfl)))
  (pss_cons (ps_if (pt_cmpR op_eq (pv 4) pe_int (nomark _))
    (pss_one (ps_ret (pv 0)))
    pss_nil)
  (pss_one (ps_ret (pe_callTy (c_tup (K := K)) (by rfl) T.tuple (by decide +kernel) (pa_cons (pe_lc (own := [("old", 5), ("often", 6)]) (by rfl) sc_turned_row.nd (p_zipM (K := K) (by rfl) T.zip (pa_cons (pv 0) (pa_cons (pe_ifExp (pt_cmpR op_gt (pv 4) pe_int (nomark _)) (pv 1) (pv 2)) pa_nil))) (blkOk_by (own := [("old", 5), ("often", 6)]) (N := n_turned_row) (sc := defScope s_turned_row) (by decide +kernel)) (fun _ _ _ _ _ => (g_tup (K := K) (n := 2) rfl (pgs_cons (pg_name (i := 5) sc_turned_row.nd rfl (.inl rfl)) (pgs_cons (pg_name (i := 6) sc_turned_row.nd rfl (.inl rfl)) pgs_nil)))) (fun _ _ _ _ _ => pts_nil) (fun _ _ _ _ _ => (pe_op op_add (pv 5) (pe_op op_mul (pv 4) (pv 6))))) pa_nil)))))), ?_⟩
    have ek := at_getD hk
    have hbk : -50 ≤ row.getD k 0 ∧ row.getD k 0 ≤ 50 := by
      rw [List.getD_eq_getElem?_getD, List.getElem?_eq_getElem hk]
      exact hb _ (List.getElem_mem hk)
    generalize et : row.getD k 0 = t at ek hbk
    refine ⟨.ref r, rfl, .int k, rfl, r, _, _, .int t, rfl, rfl, SqT.of h1, atI_nat ek, ?_⟩
    refine ⟨.int t, rfl, rfl, _, rfl, ite2 (fun e => ?_) (fun e => ?_)⟩
    · have e := V.int.inj (of_decide_eq_true e)
      refine ⟨.ref r, rfl, q r H (.refl _) ?_⟩
      unfold newRow
      rw [if_pos (et.trans e)]
      exact h1
    · have e : t ≠ 0 := fun z => e (decide_eq_true (by rw [z]))
      refine ⟨.ref r, rfl, .int t, rfl, _, _, rfl, rfl, _, rfl, ite2 (fun e2 => ?_) (fun e2 => ?_)⟩
      · have e2 : 0 < t := of_decide_eq_true e2
        refine ⟨.ref u, rfl, r, u, _, _, rfl, .inl ⟨SqT.of h1, SqL.of hu, fun D eD => ?_⟩⟩
        have lmin : row.length = min (row.map V.int).length (up.map V.int).length := by
          rw [List.length_map, List.length_map, lu, Nat.min_self]
        refine lc_it (walk_zipG (xs := row.map V.int) (ys := up.map V.int) lmin) (fun i H' => AccI H H' D (fun j => row.getD j 0 + t * up.getD j 0) i) AccI.zero (fun i H' _ hA => ⟨SqT.of (hA.stay eD h1), SqL.of (hA.stay eD hu)⟩) ?_ ?_
        · rintro i v H3 H3' hi hA ⟨U, x', y', rfl, eU, rfl, ex', ey'⟩
          obtain ⟨x, ex, rfl⟩ := int_at ex'
          obtain ⟨y, ey, rfl⟩ := int_at ey'
          refine ⟨U, _, rfl, SqT.of upd_same, rfl, _, _, rfl, _, _, rfl, rfl, rfl, .int x, rfl, .int t, rfl, .int y, rfl, _, _, rfl, rfl, .inl ⟨by omega, by omega⟩, _, _, rfl, rfl, ?_⟩
          exact hA.next (same_upd eU) (by rw [getD_at ex, getD_at ey]) (by omega)
        · rintro H3 hA
          refine ⟨D, _, rfl, .inl ⟨SqL.of hA.1, fun p hp => ?_⟩⟩
          refine q p _ (fun b o e => same_upd hp _ _ (hA.stay eD e)) ?_
          rw [upd_same]
          unfold newRow
          rw [et, if_neg e, if_pos e2]
      · have e2 : ¬ 0 < t := fun z => e2 (decide_eq_true z)
        refine ⟨.ref d, rfl, r, d, _, _, rfl, .inl ⟨SqT.of h1, SqL.of hd, fun D eD => ?_⟩⟩
        have lmin : row.length = min (row.map V.int).length (down.map V.int).length := by
          rw [List.length_map, List.length_map, ld, Nat.min_self]
        refine lc_it (walk_zipG (xs := row.map V.int) (ys := down.map V.int) lmin) (fun i H' => AccI H H' D (fun j => row.getD j 0 + t * down.getD j 0) i) AccI.zero (fun i H' _ hA => ⟨SqT.of (hA.stay eD h1), SqL.of (hA.stay eD hd)⟩) ?_ ?_
        · rintro i v H3 H3' hi hA ⟨U, x', y', rfl, eU, rfl, ex', ey'⟩
          obtain ⟨x, ex, rfl⟩ := int_at ex'
          obtain ⟨y, ey, rfl⟩ := int_at ey'
          refine ⟨U, _, rfl, SqT.of upd_same, rfl, _, _, rfl, _, _, rfl, rfl, rfl, .int x, rfl, .int t, rfl, .int y, rfl, _, _, rfl, rfl, .inl ⟨by omega, by omega⟩, _, _, rfl, rfl, ?_⟩
          exact hA.next (same_upd eU) (by rw [getD_at ex, getD_at ey]) (by omega)
        · rintro H3 hA
          refine ⟨D, _, rfl, .inl ⟨SqL.of hA.1, fun p hp => ?_⟩⟩
          refine q p _ (fun b o e => same_upd hp _ _ (hA.stay eD e)) ?_
          rw [upd_same]
          unfold newRow
          rw [et, if_neg e, if_neg e2]
end
end Bw
set_option Elab.async false
set_option linter.all false
set_option maxRecDepth 100000
set_option maxHeartbeats 4000000
namespace Bw
open PySem PySem.Spec PyProof.Rows L2
theorem Same.updN {H H' : Hp} {D : Addr} {o : HO} (s : Same H H') (h : H D = none) : Same H (upd H' D o) := fun c u e => by
  rw [upd_ne (ne_of_none e h)]
  exact s _ _ e
def bigT (t : Int) : Bool := decide ((if t < 0 then -t else t) > 50)
def bigR (rows : List (List Int)) : Bool := rows.any fun r => r.any bigT
theorem bigT_iff (t : Int) : bigT t = false ↔ -50 ≤ t ∧ t ≤ 50 := by
  unfold bigT
  rw [decide_eq_false_iff_not]
  constructor
  · intro h
    split at h <;> omega
  · rintro ⟨h1, h2⟩
    split <;> omega
theorem bigR_iff (rows : List (List Int)) : bigR rows = false ↔ ∀ r ∈ rows, ∀ t ∈ r, -50 ≤ t ∧ t ≤ 50 := by
  unfold bigR
  rw [List.any_eq_false]
  constructor
  · intro h r hr t ht
    have h1 := h r hr
    have h2 : r.any bigT = false := by
      cases e : r.any bigT with
      | false => rfl
      | true => exact absurd e h1
    have h3 := List.any_eq_false.mp h2 t ht
    refine (bigT_iff t).mp ?_
    cases e : bigT t with
    | false => rfl
    | true => exact absurd e h3
  · intro h r hr z
    obtain ⟨t, ht, e⟩ := List.any_eq_true.mp z
    rw [(bigT_iff t).mpr (h r hr t ht)] at e
    cases e
theorem bigR_take {rows : List (List Int)} {i : Nat} {r : List Int} (h : rows[i]? = some r) : bigR (rows.take (i + 1)) = (bigR (rows.take i) || r.any bigT) := by
  unfold bigR
  rw [List.take_succ, h, List.any_append]
  show (_ || (r.any bigT || false)) = _
  rw [Bool.or_false]
theorem any_take {r : List Int} {j : Nat} {t : Int} (h : r[j]? = some t) : (r.take (j + 1)).any bigT = ((r.take j).any bigT || bigT t) := by
  rw [List.take_succ, h, List.any_append]
  show (_ || (bigT t || false)) = _
  rw [Bool.or_false]
section
variable {P : Program} {w : World} {K : PySem.W.Frag} {mg : Str → Option Value} {base : Heap}
abbrev s_turned_table : Stmt := topS 48
abbrev n_turned_table : List Str := ["table", "place", "own", "up", "down", "rows", "tie", "row"]
theorem sc_turned_table : FnScope n_turned_table ["table", "place"] (defScope s_turned_table) := ⟨rfl, rfl, rfl, by decide +kernel, rfl, by decide +kernel, by decide +kernel⟩
def spTurn (C : Addr) : Sp := fun vs H Q E => ∃ (a : Addr) (rows : List (List Int)) (n k : Nat), vs = [.ref a, .int k] ∧ TabAt H a rows ∧ WdOk rows n ∧ k < n ∧
  (fits rows n k → ∀ (b : Addr) (H' : Hp), Same H H' → TabAt H' b (turnT rows n k) → Q (.ref b) H') ∧
  (¬ fits rows n k → ∀ (d : Addr) (H' : Hp), Same H H' → H' d = some (.xd greatFs) → E (.ref C) (some d) H')
def upE (B : Nat → Nat → Int) (k j : Nat) : Int := if j = k then -2 else if B k j > 0 then B k j else 0
def dnE (B : Nat → Nat → Int) (k j : Nat) : Int := if j = k then -2 else if -(B k j) > 0 then -(B k j) else 0
theorem new_turn {rows : List (List Int)} {n k i : Nat} (w : ∀ r ∈ rows, r.length = n) (hi : i < rows.length) (hk : k < n) (hik : i ≠ k) :
    newRow (rows.getD i []) (matRow n (upE (ent rows) k)) (matRow n (dnE (ent rows) k)) k = matRow n (turnE (ent rows) k i) := by
  have lr := row_len w hi
  unfold newRow
  have ek : (rows.getD i []).getD k 0 = ent rows i k := rfl
  rw [ek, lr]
  by_cases e : ent rows i k = 0
  · rw [if_pos e]
    apply List.ext_getElem?
    intro j
    by_cases hj : j < n
    · rw [matRow_get hj, List.getElem?_eq_getElem (by omega)]
      congr 1
      have e1 : (rows.getD i [])[j]'(by omega) = ent rows i j := by
        unfold ent
        rw [List.getD_eq_getElem?_getD (i := j), List.getElem?_eq_getElem (by omega)]
        rfl
      rw [e1]
      unfold turnE
      by_cases hjk : j = k
      · subst hjk
        rw [if_pos (.inr rfl), e]
        rfl
      · have hnk : ¬ (i = k ∨ j = k) := fun z => z.elim hik hjk
        rw [if_neg hnk, e, if_neg (by omega), if_neg (by omega)]
    · rw [List.getElem?_eq_none (by omega), List.getElem?_eq_none (by rw [matRow_len]; omega)]
  · rw [if_neg e]
    unfold matRow
    refine List.map_congr_left fun j hj => ?_
    have hj : j < n := List.mem_range.mp hj
    show ent rows i j + _ * List.getD (if 0 < ent rows i k then matRow n (upE (ent rows) k) else matRow n (dnE (ent rows) k)) j 0 = _
    unfold turnE
    by_cases hp : 0 < ent rows i k
    · rw [if_pos hp, matRow_getD hj]
      unfold upE
      by_cases hjk : j = k
      · subst hjk
        rw [if_pos rfl, if_pos (.inr rfl)]
        omega
      · have hnk : ¬ (i = k ∨ j = k) := fun z => z.elim hik hjk
        rw [if_neg hjk, if_neg hnk]
        by_cases hb : ent rows k j > 0
        · have hb2 : 0 < ent rows i k ∧ 0 < ent rows k j := ⟨hp, hb⟩
          rw [if_pos hb, if_pos hb2]
        · have hb2 : ¬ (0 < ent rows i k ∧ 0 < ent rows k j) := fun z => hb z.2
          have hb3 : ¬ (ent rows i k < 0 ∧ ent rows k j < 0) := fun z => by omega
          rw [if_neg hb, if_neg hb2, if_neg hb3, Int.mul_zero, Int.add_zero]
    · rw [if_neg hp, matRow_getD hj]
      have hn : ent rows i k < 0 := by omega
      unfold dnE
      by_cases hjk : j = k
      · subst hjk
        rw [if_pos rfl, if_pos (.inr rfl)]
        omega
      · have hnk : ¬ (i = k ∨ j = k) := fun z => z.elim hik hjk
        have hb2 : ¬ (0 < ent rows i k ∧ 0 < ent rows k j) := fun z => hp z.1
        rw [if_neg hjk, if_neg hnk, if_neg hb2]
        by_cases hb : ent rows k j < 0
        · have hb3 : ent rows i k < 0 ∧ ent rows k j < 0 := ⟨hn, hb⟩
          have hb4 : -(ent rows k j) > 0 := by omega
          rw [if_pos hb4, if_pos hb3, Int.mul_neg]
          omega
        · have hb3 : ¬ (ent rows i k < 0 ∧ ent rows k j < 0) := fun z => hb z.2
          have hb4 : ¬ (-(ent rows k j) > 0) := by omega
          rw [if_neg hb4, if_neg hb3, Int.mul_zero, Int.add_zero]
theorem own_turn {rows : List (List Int)} {n k : Nat} (w : ∀ r ∈ rows, r.length = n) (hk : k < rows.length) :
    matRow n (fun j => -((rows.getD k []).getD j 0)) = matRow n (turnE (ent rows) k k) := by
  unfold matRow
  refine List.map_congr_left fun j hj => ?_
  unfold turnE
  rw [if_pos (.inl rfl)]
  rfl
theorem big_row {r : List Int} {m l : Int} (hm : m ∈ r) (hmx : ∀ y ∈ r, y ≤ m) (hl : l ∈ r) (hlx : ∀ y ∈ r, l ≤ y) : r.any bigT = (decide (m > 50) || decide (l < -50)) := by
  rw [Bool.eq_iff_iff, List.any_eq_true, Bool.or_eq_true, decide_eq_true_iff, decide_eq_true_iff]
  constructor
  · rintro ⟨x, hx, e⟩
    unfold bigT at e
    have e := of_decide_eq_true e
    have h1 := hmx x hx
    have h2 := hlx x hx
    split at e
    · right; omega
    · left; omega
  · rintro (h | h)
    · refine ⟨m, hm, decide_eq_true ?_⟩
      rw [if_neg (by omega)]
      exact h
    · refine ⟨l, hl, decide_eq_true ?_⟩
      rw [if_pos (by omega)]
      omega
theorem big_max {r : List Int} {m : Int} (hm : m ∈ r) (h : m > 50) : r.any bigT = true := by
  rw [List.any_eq_true]
  refine ⟨m, hm, decide_eq_true ?_⟩
  rw [if_neg (by omega)]
  exact h
theorem set_mat {n j : Nat} {b : Nat → Int} {v : Int} : ((matRow n b).map V.int).set j (.int v) = (matRow n (fun i => if i = j then v else b i)).map V.int := by
  rw [← List.map_set, matRow_set]
theorem ix_nat {n k : Nat} (h : k < n) : ixN n (k : Int) = some k := by
  unfold ixN
  rw [if_pos (by omega), if_pos (by omega), Int.toNat_natCast]
theorem ok_turn {f C fI : Addr} {fd fdI : FuncData} (F : Fun K "turned_table" "turned_table" s_turned_table f fd) (T : Tx mg) (c_turned_row : Cal P w K mg base CX0 1 "turned_row" ["row", "up", "down", "place"] spTRow)
    (TG : GreatC K mg C fI) (FI : FnOk P w K mg base CX0 2 fI fdI ["self"] (spGreatInit K)) (bI : Binds K fdI ["self"] []) : FnOk P w K mg base (L2.CX P w) 4 f fd ["table", "place"] (spTurn C) := by
  refine F.okX sc_turned_table (fun vs H Q E h => ?_) (fun cdv A outer s H vs Q E hr h => ?_)
  · obtain ⟨a, rows, n, k, rfl, _⟩ := h
    rfl
  · obtain ⟨a, rows, n, k, rfl, hT, O, hk, q, qE⟩ := h
    have hr1 := hr.mono (show 1 ≤ 3 by decide)
    refine ⟨_, (pss_cons (ps_set (i := 2) sc_turned_table.nd rfl (.inl rfl) (pe_ix (i_tup (K := K)) (pv 0) (pv 1) (fun _ _ => rfl)))
  (pss_cons (ps_set (i := 3) sc_turned_table.nd rfl (.inr rfl) (pe_lc (own := [("tie", 6)]) (by rfl) sc_turned_table.nd (p_tup (K := K) (pv 2)) (blkOk_by (own := [("tie", 6)]) (N := n_turned_table) (sc := defScope s_turned_table) (by decide +kernel)) (fun _ _ _ _ _ => (pg_name (i := 6) sc_turned_table.nd rfl (.inl rfl))) (fun _ _ _ _ _ => pts_nil) (fun _ _ _ _ _ => (pe_callB (call_max2 rfl) (by rfl) T.max (by decide +kernel) (pa_cons pe_int (pa_cons (pv 6) pa_nil))))))
  (pss_cons (ps_set (i := 4) sc_turned_table.nd rfl (.inr rfl) (pe_lc (own := [("tie", 6)]) (by rfl) sc_turned_table.nd (p_tup (K := K) (pv 2)) (blkOk_by (own := [("tie", 6)]) (N := n_turned_table) (sc := defScope s_turned_table) (by decide +kernel)) (fun _ _ _ _ _ => (pg_name (i := 6) sc_turned_table.nd rfl (.inl rfl))) (fun _ _ _ _ _ => pts_nil) (fun _ _ _ _ _ => (pe_callB (call_max2 rfl) (by rfl) T.max (by decide +kernel) (pa_cons pe_int (pa_cons (pe_un un_neg (pv 6)) pa_nil))))))
  (pss_cons (ps_asg (pe_un un_neg pe_int) (pg_sub (pv 3) (pv 1) set_list))
  (pss_cons (ps_asg (pe_un un_neg pe_int) (pg_sub (pv 4) (pv 1) set_list))
  (pss_cons (ps_setLc (i := 5) (own := [("row", 7)]) (by rfl) sc_turned_table.nd rfl rfl (sw_true rfl rfl rfl (by decide +kernel)) (p_tup (K := K) (pv 0)) (blkOk_by (own := [("row", 7)]) (N := n_turned_table) (sc := defScope s_turned_table) (by decide +kernel)) (fun _ _ _ _ _ => (pg_name (i := 7) sc_turned_table.nd rfl (.inl rfl))) (fun _ _ _ _ _ => pts_nil) (fun _ _ _ _ _ => (pe_cal c_turned_row hr1 (by rfl) (pa_cons (pv 7) (pa_cons (pv 3) (pa_cons (pv 4) (pa_cons (pv 1) pa_nil)))))))
  (pss_cons (ps_asg (pe_callTy (c_tup (K := K)) (by rfl) T.tuple (by decide +kernel) (pa_cons (pe_lc (own := [("tie", 6)]) (by rfl) sc_turned_table.nd (p_tup (K := K) (pv 2)) (blkOk_by (own := [("tie", 6)]) (N := n_turned_table) (sc := defScope s_turned_table) (by decide +kernel)) (fun _ _ _ _ _ => (pg_name (i := 6) sc_turned_table.nd rfl (.inl rfl))) (fun _ _ _ _ _ => pts_nil) (fun _ _ _ _ _ => (pe_un un_neg (pv 6)))) pa_nil)) (pg_sub (pv 5) (pv 1) set_list))
  (pss_cons (ps_if (pt_val (pe_callB (c_any (K := K) rfl) (by rfl) T.any (by decide +kernel) (pa_cons (pe_lc (own := [("row", 7)]) (by rfl) sc_turned_table.nd (p_list (K := K) (pv 5)) (blkOk_by (own := [("row", 7)]) (N := n_turned_table) (sc := defScope s_turned_table) (by decide +kernel)) (fun _ _ _ _ _ => (pg_name (i := 7) sc_turned_table.nd rfl (.inl rfl))) (fun _ _ _ _ _ => pts_nil) (fun _ _ _ _ _ => (pe_or (pe_cmpR op_gt (pe_callB (c_maxT (K := K) rfl) (by rfl) T.max (by decide +kernel) (pa_cons (pv 7) pa_nil)) (pe_gint (by rfl) T.MOST_TIE) (nomark _)) (pe_one (pe_cmpR op_lt (pe_callB (c_minT (K := K) rfl) (by rfl) T.min (by decide +kernel) (pa_cons (pv 7) pa_nil)) (pe_un un_neg (pe_gint (by rfl) T.MOST_TIE)) (nomark _)))))) pa_nil)))
    (pss_one (ps_raise rfl (takes_of rfl rfl rfl rfl) (pmk_oex0 TG.oex TG.iC TG.tI FI hr bI pass0 (by rfl) TG.g)))
    pss_nil)
  (pss_one (ps_ret (pe_callTy (c_tup (K := K)) (by rfl) T.tuple (by decide +kernel) (pa_cons (pv 5) pa_nil)))))))))))), ?_⟩
    have h1 := O.n1
    have h4 := O.n4
    have hl := O.len
    have hl8 := O.len8
    have hkr : k < rows.length := by omega
    obtain ⟨as, ha, hR⟩ := hT.refs
    have las : as.length = rows.length := hR.1
    obtain ⟨as', c, g1, g2, g3⟩ := hT.row hkr
    have eas : as'.map V.ref = as.map V.ref := HO.tup.inj (Option.some.inj (g1.symm.trans ha))
    rw [eas] at g2
    have lk := row_len O.wide hkr
    refine ⟨.ref a, rfl, .int k, rfl, a, _, _, .ref c, rfl, rfl, SqT.of ha, atI_nat g2, ?_⟩
    -- up
    refine ⟨.ref c, rfl, c, rfl, ⟨_, SqT.of g3⟩, fun U eU => ?_⟩
    refine lc_tup (K := K) (a := c) (xs := (rows.getD k []).map V.int) (fun j H' => AccI H H' U (fun j => if (rows.getD k []).getD j 0 > 0 then (rows.getD k []).getD j 0 else 0) j) AccI.zero (fun j H' _ hA => SqT.of (hA.stay eU g3)) ?_ ?_
    · rintro j v H1 hv hA
      obtain ⟨x, ex, rfl⟩ := int_at hv
      have hj := (List.getElem?_eq_some_iff.mp ex).1
      refine ⟨rfl, .int x, rfl, _, _, rfl, ?_⟩
      exact hA.next (.refl _) (by rw [getD_at ex]) (by omega)
    · rintro H1 hA
      rw [List.length_map, lk] at hA
      have s1 : Same H H1 := fun b o e => hA.stay eU e
      have e1 : H1 U = some (.lst ((matRow n fun j => if (rows.getD k []).getD j 0 > 0 then (rows.getD k []).getD j 0 else 0).map V.int)) := hA.1
      clear hA
      -- down
      refine ⟨.ref c, rfl, c, rfl, ⟨_, SqT.of (s1 _ _ g3)⟩, fun D eD => ?_⟩
      refine lc_tup (K := K) (a := c) (xs := (rows.getD k []).map V.int) (fun j H' => AccI H1 H' D (fun j => if -((rows.getD k []).getD j 0) > 0 then -((rows.getD k []).getD j 0) else 0) j) AccI.zero (fun j H' _ hA => SqT.of (hA.stay eD (s1 _ _ g3))) ?_ ?_
      · rintro j v H2 hv hA
        obtain ⟨x, ex, rfl⟩ := int_at hv
        have hj := (List.getElem?_eq_some_iff.mp ex).1
        refine ⟨rfl, .int x, rfl, _, rfl, _, _, rfl, ?_⟩
        exact hA.next (.refl _) (by rw [getD_at ex]) (by omega)
      · rintro H2 hA
        rw [List.length_map, lk] at hA
        have s2 : Same H1 H2 := fun b o e => hA.stay eD e
        have e2 : H2 D = some (.lst ((matRow n fun j => if -((rows.getD k []).getD j 0) > 0 then -((rows.getD k []).getD j 0) else 0).map V.int)) := hA.1
        clear hA
        have nUD : U ≠ D := ne_of_none e1 eD
        -- up[place] = -2, down[place] = -2
        have ixk : ∀ b : Nat → Int, ixN ((matRow n b).map V.int).length (k : Int) = some k := fun b => by
          rw [List.length_map, matRow_len]
          exact ix_nat hk
        refine ⟨2, rfl, .ref U, rfl, .int k, rfl, U, _, k, k, rfl, rfl, s2 _ _ e1, ixk _, ?_⟩
        refine ⟨2, rfl, .ref D, rfl, .int k, rfl, D, _, k, k, rfl, rfl, (upd_ne (fun z => nUD z.symm)).trans e2, ixk _, ?_⟩
        rw [set_mat, set_mat]
        have eU3 : (upd (upd H2 U (.lst ((matRow n (upE (ent rows) k)).map V.int))) D (.lst ((matRow n (dnE (ent rows) k)).map V.int))) U = some (.lst ((matRow n (upE (ent rows) k)).map V.int)) := by
          rw [upd_ne nUD, upd_same]
        have eD3 : (upd (upd H2 U (.lst ((matRow n (upE (ent rows) k)).map V.int))) D (.lst ((matRow n (dnE (ent rows) k)).map V.int))) D = some (.lst ((matRow n (dnE (ent rows) k)).map V.int)) := upd_same
        have s3 : Same H (upd (upd H2 U (.lst ((matRow n (upE (ent rows) k)).map V.int))) D (.lst ((matRow n (dnE (ent rows) k)).map V.int))) := fun b o e => by
          rw [upd_ne (ne_of_none (s1 _ _ e) eD), upd_ne (ne_of_none e eU)]
          exact s2 _ _ (s1 _ _ e)
        have fu : (matRow n fun i => if i = k then (-2 : Int) else if (rows.getD k []).getD i 0 > 0 then (rows.getD k []).getD i 0 else 0) = matRow n (upE (ent rows) k) := rfl
        have fd : (matRow n fun i => if i = k then (-2 : Int) else if -((rows.getD k []).getD i 0) > 0 then -((rows.getD k []).getD i 0) else 0) = matRow n (dnE (ent rows) k) := rfl
        generalize ee : (upd (upd H2 U (.lst ((matRow n (upE (ent rows) k)).map V.int))) D (.lst ((matRow n (dnE (ent rows) k)).map V.int))) = H3 at eU3 eD3 s3
        have ee2 : (upd (upd H2 U (.lst ((matRow n fun i => if i = k then (-2 : Int) else if (rows.getD k []).getD i 0 > 0 then (rows.getD k []).getD i 0 else 0).map V.int))) D (.lst ((matRow n fun i => if i = k then (-2 : Int) else if -((rows.getD k []).getD i 0) > 0 then -((rows.getD k []).getD i 0) else 0).map V.int))) = H3 := ee
        rw [ee2]
        clear ee ee2 fu fd
        have ha3 := s3 _ _ ha
        have g33 := s3 _ _ g3
        have hR3 := hR.same s3
        -- rows
        refine ⟨.ref a, rfl, a, rfl, ⟨_, SqT.of ha3⟩, fun R eR => ?_⟩
        refine lc_tup (K := K) (a := a) (xs := as.map V.ref) (fun i H' => Acc H3 H' R (fun i => newRow (rows.getD i []) (matRow n (upE (ent rows) k)) (matRow n (dnE (ent rows) k)) k) i) Acc.zero (fun i H' _ hA => SqT.of (hA.stay eR ha3)) ?_ ?_
        · rintro i v H4 hv hA
          rw [List.getElem?_map] at hv
          obtain ⟨t, et, rfl⟩ := Option.map_eq_some_iff.mp hv
          have hi : i < rows.length := by
            have := (List.getElem?_eq_some_iff.mp et).1
            omega
          obtain ⟨b, eb, hb⟩ := hR3.2 i _ (List.getElem?_eq_getElem hi)
          rw [et] at eb
          cases eb
          have er : rows[i] = rows.getD i [] := by
            rw [List.getD_eq_getElem?_getD, List.getElem?_eq_getElem hi]
            rfl
          have hmem := O.tie _ (List.getElem_mem hi)
          rw [er] at hb hmem
          have lr := row_len O.wide hi
          refine ⟨rfl, .ref t, rfl, .ref U, rfl, .ref D, rfl, .int k, rfl, t, U, D, _, _, _, k, rfl, hA.stay eR hb, hA.stay eR eU3, hA.stay eR eD3, by omega, by omega, by rw [matRow_len]; omega, by rw [matRow_len]; omega, hmem, fun p H5 s5 hp => ?_⟩
          exact hA.next s5 hp (by omega)
        · rintro H4 hA
          rw [List.length_map, las] at hA
          obtain ⟨ts, eR4, hR4⟩ := hA.get
          have s4 : Same H3 H4 := fun b o e => hA.stay eR e
          have s04 := s3.trans s4
          clear hA
          -- own row
          refine ⟨.ref c, rfl, c, rfl, ⟨_, SqT.of (s04 _ _ g3)⟩, fun L eL => ?_⟩
          refine lc_tup (K := K) (a := c) (xs := (rows.getD k []).map V.int) (fun j H' => AccI H4 H' L (fun j => -((rows.getD k []).getD j 0)) j) AccI.zero (fun j H' _ hA => SqT.of (hA.stay eL (s04 _ _ g3))) ?_ ?_
          · rintro j v H5 hv hA
            obtain ⟨x, ex, rfl⟩ := int_at hv
            have hj := (List.getElem?_eq_some_iff.mp ex).1
            refine ⟨rfl, .int x, rfl, _, rfl, ?_⟩
            exact hA.next (.refl _) (by rw [getD_at ex]) (by omega)
          · rintro H5 hA
            rw [List.length_map, lk] at hA
            have s5 : Same H4 H5 := fun b o e => hA.stay eL e
            refine ⟨L, _, rfl, .inl ⟨SqL.of hA.1, fun p hp => ?_⟩⟩
            rw [own_turn O.wide hkr]
            have lts : ts.length = rows.length := by
              rw [hR4.1, List.length_map, List.length_range]
            have sp := s5.trans (same_upd (o := .tup ((matRow n (turnE (ent rows) k k)).map V.int)) hp)
            refine ⟨.ref R, rfl, .int k, rfl, R, _, k, k, rfl, rfl, sp _ _ eR4, ?_, ?_⟩
            · rw [List.length_map, lts]
              exact ix_nat hkr
            have eset : (ts.map V.ref).set k (.ref p) = (ts.set k p).map V.ref := by
              rw [List.map_set]
            rw [eset]
            have hR6 : RefsAt (upd (upd H5 p (.tup ((matRow n (turnE (ent rows) k k)).map V.int))) R (.lst ((ts.set k p).map V.ref))) (ts.set k p) (turnT rows n k) := by
              refine ⟨by rw [List.length_set, lts, turnT_len], fun i r e => ?_⟩
              have hi : i < rows.length := by
                have := (List.getElem?_eq_some_iff.mp e).1
                rw [turnT_len] at this
                exact this
              have er : r = matRow n (turnE (ent rows) k i) := by
                unfold turnT at e
                rw [List.getElem?_map, List.getElem?_range hi] at e
                exact (Option.some.inj e).symm
              subst er
              by_cases hik : i = k
              · subst hik
                refine ⟨p, by rw [List.getElem?_set_self (by omega)], ?_⟩
                rw [upd_ne (ne_of_none (s5 _ _ eR4) hp).symm, upd_same]
              · obtain ⟨b, eb, hb⟩ := hR4.2 i _ (by rw [List.getElem?_map, List.getElem?_range hi]; rfl)
                refine ⟨b, by rw [List.getElem?_set_ne (fun z => hik z.symm)]; exact eb, ?_⟩
                have nbR : b ≠ R := fun z => by
                  rw [z, eR4] at hb
                  cases hb
                rw [upd_ne nbR, sp _ _ hb]
                show some (HO.tup ((newRow (rows.getD i []) (matRow n (upE (ent rows) k)) (matRow n (dnE (ent rows) k)) k).map V.int)) = _
                rw [new_turn O.wide hi hk hik]
            have eR6 : (upd (upd H5 p (.tup ((matRow n (turnE (ent rows) k k)).map V.int))) R (.lst ((ts.set k p).map V.ref))) R = some (.lst ((ts.set k p).map V.ref)) := upd_same
            have s6 : Same H (upd (upd H5 p (.tup ((matRow n (turnE (ent rows) k k)).map V.int))) R (.lst ((ts.set k p).map V.ref))) := fun b o e => by
              rw [upd_ne (ne_of_none (s3 _ _ e) eR)]
              exact sp _ _ (s04 _ _ e)
            have lts2 : (ts.set k p).length = rows.length := by
              rw [List.length_set, lts]
            generalize (upd (upd H5 p (.tup ((matRow n (turnE (ent rows) k k)).map V.int))) R (.lst ((ts.set k p).map V.ref))) = H6 at hR6 eR6 s6
            clear sp hp hA s5 eL s4 s04 eR4 hR4 eset
            generalize ts.set k p = us at hR6 eR6 lts2
            -- any
            refine ⟨.ref R, rfl, R, rfl, ⟨_, SqL.of eR6⟩, fun L eL => ?_⟩
            refine lc_list (K := K) (a := R) (xs := us.map V.ref) (fun i H' => ∃ bs : List Bool, H' L = some (.lst (bs.map V.bl)) ∧ bs.any id = bigR ((turnT rows n k).take i) ∧ bs.length = i ∧ Same H6 H') ⟨[], upd_same, rfl, rfl, same_upd eL⟩ (fun i H' _ ⟨_, _, _, _, s⟩ => SqL.of (s _ _ eR6)) ?_ ?_
            · rintro i v H7 ev ⟨bs, e7, hb7, l7, s7⟩
              rw [List.getElem?_map] at ev
              obtain ⟨t, et, rfl⟩ := Option.map_eq_some_iff.mp ev
              have hi : i < rows.length := by
                have := (List.getElem?_eq_some_iff.mp et).1
                omega
              have er : (turnT rows n k)[i]? = some (matRow n (turnE (ent rows) k i)) := by
                unfold turnT
                rw [List.getElem?_map, List.getElem?_range hi]
                rfl
              obtain ⟨b, eb, hb⟩ := hR6.2 i _ er
              rw [et] at eb
              cases eb
              have lr : (matRow n (turnE (ent rows) k i)).length = n := matRow_len _ _
              generalize matRow n (turnE (ent rows) k i) = r at er hb lr
              have hb := s7 _ _ hb
              have fin : ∀ z : Bool, z = r.any bigT → ∃ acc, H7 L = some (.lst acc) ∧ acc.length < sizeLine ∧ ∃ bs : List Bool, (upd H7 L (.lst (acc ++ [.bl z]))) L = some (.lst (bs.map V.bl)) ∧ bs.any id = bigR ((turnT rows n k).take (i + 1)) ∧ bs.length = i + 1 ∧ Same H6 (upd H7 L (.lst (acc ++ [.bl z]))) := fun z ez => by
                refine ⟨_, e7, by rw [List.length_map]; exact small1000 (by omega), bs ++ [z], ?_, ?_, by rw [List.length_append, l7]; rfl, Same.updN s7 eL⟩
                · rw [upd_same, List.map_append]
                  rfl
                · rw [List.any_append, hb7, bigR_take er, ez]
                  show (_ || (_ || false)) = _
                  rw [Bool.or_false]
                  rfl
              refine ⟨rfl, .ref t, rfl, t, r, rfl, SqT.of hb, by omega, fun m hm hmx => ⟨_, _, rfl, rfl, _, rfl, ite2 (fun e => ?_) (fun e => ?_)⟩⟩
              · exact fin true (big_max hm (of_decide_eq_true e)).symm
              · refine ⟨.ref t, rfl, t, r, rfl, SqT.of hb, by omega, fun l hl hlx => ⟨_, rfl, _, _, rfl, rfl, ?_⟩⟩
                refine fin _ ?_
                rw [big_row hm hmx hl hlx]
                have e : decide (m > 50) = false := by
                  cases z : decide (m > 50) with
                  | false => rfl
                  | true => exact absurd z e
                rw [e, Bool.false_or]
            · rintro H7 ⟨bs, e7, hb7, _, s7⟩
              rw [List.length_map, lts2, List.take_of_length_le (by rw [turnT_len]; exact Nat.le_refl _)] at hb7
              refine ⟨L, _, rfl, SqL.of e7, ?_⟩
              rw [hb7]
              have s07 := s6.trans s7
              refine ⟨_, rfl, ite2 (fun hz => ?_) (fun hz => ?_)⟩
              · have hf : ¬ fits rows n k := fun z => by
                  rw [(bigR_iff _).mpr z] at hz
                  cases hz
                refine ⟨by show 0 ≤ 1000; decide, fun x ex => ?_⟩
                refine ⟨x, C, rfl, TG.oex, TG.nw, upd_same, fun dx H8 ed nd hx hd hk => ?_⟩
                have ed2 : H7 dx = none := by
                  rw [upd_ne nd] at ed
                  exact ed
                refine ⟨rfl, dx, _, hx, hd, ed2, qE hf dx _ (fun c o e => ?_) upd_same⟩
                have e2 := s07 _ _ e
                have n1 : c ≠ x := ne_of_none e2 ex
                have n2 : c ≠ dx := ne_of_none e2 ed2
                rw [upd_ne n2, del_ne n1, hk c n1 n2, upd_ne n1]
                exact e2
              · have hf : fits rows n k := (bigR_iff _).mp (by
                  cases e : bigR (turnT rows n k) with
                  | false => rfl
                  | true => exact absurd e hz)
                refine ⟨.ref R, rfl, R, _, rfl, .inl ⟨SqL.of (s7 _ _ eR6), fun p hp => ?_⟩⟩
                have sp := same_upd (o := .tup (us.map V.ref)) hp
                exact q hf p _ (s07.trans sp) (((hR6.same s7).same sp).tab upd_same)
end
end Bw
set_option Elab.async false
set_option linter.all false
set_option maxRecDepth 100000
set_option maxHeartbeats 4000000
namespace Bw
open PySem PySem.Spec PyProof.Rows L2
def fitB (rows : List (List Int)) (n k : Nat) : Bool := !bigR (turnT rows n k)
theorem fitB_iff {rows : List (List Int)} {n k : Nat} : fitB rows n k = true ↔ fits rows n k := by
  unfold fitB
  rw [Bool.not_eq_true', bigR_iff]
  exact Iff.rfl
theorem WdOk.turn {rows : List (List Int)} {n k : Nat} (O : WdOk rows n) (h : fits rows n k) : WdOk (turnT rows n k) n := ⟨O.n1, O.n4, by rw [turnT_len]; exact O.len, by rw [turnT_len]; exact O.len8, turnT_wide, h⟩
theorem TabOk.sq {rows : List (List Int)} {n : Nat} (O : TabOk rows n) : WdOk (rows.take n) n := by
  have h1 := O.n1
  have h2 := O.len
  have h4 := O.n4
  exact ⟨O.n1, O.n4, by rw [List.length_take]; omega, by rw [List.length_take]; omega, fun r hr => O.wide r (List.mem_of_mem_take hr), fun r hr => O.tie r (List.mem_of_mem_take hr)⟩
end Bw

set_option Elab.async false
set_option linter.all false
set_option maxRecDepth 100000
set_option maxHeartbeats 1000000
namespace Bw
open PySem PySem.Spec PyProof.Rows L2
/-! ### sums of products, as what they make of any weighing of powers -/
abbrev Tm := List Int × Int
def Lf (ts : List Tm) (φ : List Int → Int) : Int := (ts.map fun a => a.2 * φ a.1).sum
theorem Lf_nil (φ : List Int → Int) : Lf [] φ = 0 := rfl
theorem Lf_cons (a : Tm) (ts : List Tm) (φ : List Int → Int) : Lf (a :: ts) φ = a.2 * φ a.1 + Lf ts φ := by
  unfold Lf
  rw [List.map_cons, List.sum_cons]
theorem Lf_append (a b : List Tm) (φ : List Int → Int) : Lf (a ++ b) φ = Lf a φ + Lf b φ := by
  unfold Lf
  rw [List.map_append, List.sum_append]
theorem Lf_perm {a b : List Tm} (h : a.Perm b) (φ : List Int → Int) : Lf a φ = Lf b φ := by
  induction h with
  | nil => rfl
  | cons x _ ih => rw [Lf_cons, Lf_cons, ih]
  | swap x y l =>
    rw [Lf_cons, Lf_cons, Lf_cons, Lf_cons]
    omega
  | trans _ _ h1 h2 => exact h1.trans h2
theorem Lf_filter (ts : List Tm) (φ : List Int → Int) : Lf (ts.filter fun a => decide (a.2 ≠ 0)) φ = Lf ts φ := by
  induction ts with
  | nil => rfl
  | cons a ts ih =>
    rw [List.filter_cons]
    by_cases h : a.2 = 0
    · rw [if_neg (by simp [h]), ih, Lf_cons, h]
      omega
    · rw [if_pos (by simp [h]), Lf_cons, Lf_cons, ih]
theorem Lf_map (ts : List Tm) (g : List Int → List Int) (φ : List Int → Int) : Lf (ts.map fun a => (g a.1, a.2)) φ = Lf ts fun p => φ (g p) := by
  induction ts with
  | nil => rfl
  | cons a ts ih => rw [List.map_cons, Lf_cons, Lf_cons, ih]
theorem Lf_neg (ts : List Tm) (φ : List Int → Int) : Lf (ts.map fun a => (a.1, -a.2)) φ = -(Lf ts φ) := by
  induction ts with
  | nil => rfl
  | cons a ts ih =>
    rw [List.map_cons, Lf_cons, Lf_cons, ih]
    show -a.2 * φ a.1 + -(Lf ts φ) = -(a.2 * φ a.1 + Lf ts φ)
    rw [Int.neg_mul]
    omega
/-- products falling by their powers, none of count 0 -/
def Falls (r : List Tm) : Prop := r.Pairwise (fun a b => HT.lexLt b.1 a.1 = true)
structure Cn (ℓ : (List Int → Int) → Int) (r : List Tm) : Prop where
  fall : Falls r
  nz : ∀ a ∈ r, a.2 ≠ 0
  lf : ∀ φ, Lf r φ = ℓ φ
theorem lex_irr (p : List Int) : HT.lexLt p p = false := by
  cases h : HT.lexLt p p with
  | false => rfl
  | true =>
    have := NtL.lex_asym _ _ h
    rw [h] at this
    cases this
theorem lex_ne {p q : List Int} (h : HT.lexLt p q = true) : p ≠ q := fun e => by
  rw [e, lex_irr] at h
  cases h
theorem lex_tot : ∀ {p q : List Int}, HT.lexLt p q = false → HT.lexLt q p = false → p = q
  | [], [], _, _ => rfl
  | [], _ :: _, h, _ => by cases h
  | _ :: _, [], _, h => by cases h
  | x :: p, y :: q, h1, h2 => by
    rw [HT.lexLt_cons] at h1 h2
    by_cases e : x = y
    · subst e
      rw [if_pos rfl] at h1 h2
      rw [lex_tot h1 h2]
    · rw [if_neg e] at h1
      rw [if_neg (fun z => e z.symm)] at h2
      have a1 := of_decide_eq_false h1
      have a2 := of_decide_eq_false h2
      omega
/-- the count of p in r -/
def ind (p : List Int) : List Int → Int := fun q => if q = p then 1 else 0
theorem Lf_ind_none {r : List Tm} {p : List Int} (h : ∀ a ∈ r, a.1 ≠ p) : Lf r (ind p) = 0 := by
  induction r with
  | nil => rfl
  | cons a r ih =>
    rw [Lf_cons, ih fun b hb => h b (List.mem_cons_of_mem _ hb)]
    unfold ind
    rw [if_neg (h a (List.mem_cons_self ..))]
    omega
theorem Lf_ind_mem {r : List Tm} (hf : Falls r) {p : List Int} {c : Int} (h : (p, c) ∈ r) : Lf r (ind p) = c := by
  induction r with
  | nil => cases h
  | cons a r ih =>
    have hf' := List.pairwise_cons.mp hf
    rw [Lf_cons]
    rcases List.mem_cons.mp h with e | h
    · subst e
      rw [Lf_ind_none fun b hb => lex_ne (hf'.1 b hb)]
      show c * ind p p + 0 = c
      unfold ind
      rw [if_pos rfl]
      omega
    · have ne : a.1 ≠ p := Ne.symm (lex_ne (hf'.1 (p, c) h))
      rw [ih hf'.2 h]
      unfold ind
      rw [if_neg ne]
      omega
theorem Cn.mem {ℓ : (List Int → Int) → Int} {r : List Tm} (h : Cn ℓ r) (p : List Int) (c : Int) : (p, c) ∈ r ↔ c ≠ 0 ∧ ℓ (ind p) = c := by
  constructor
  · intro m
    refine ⟨h.nz _ m, ?_⟩
    rw [← h.lf, Lf_ind_mem h.fall m]
  · rintro ⟨hc, e⟩
    rw [← h.lf] at e
    by_cases m : ∃ a ∈ r, a.1 = p
    · obtain ⟨a, ha, rfl⟩ := m
      rw [Lf_ind_mem h.fall (p := a.1) (c := a.2) ha] at e
      rw [← e]
      exact ha
    · rw [Lf_ind_none fun a ha e' => m ⟨a, ha, e'⟩] at e
      exact absurd e.symm hc
theorem falls_uniq : ∀ {r r' : List Tm}, Falls r → Falls r' → (∀ a, a ∈ r ↔ a ∈ r') → r = r'
  | [], [], _, _, _ => rfl
  | [], b :: r', _, _, h => absurd ((h b).mpr (List.mem_cons_self ..)) (by simp)
  | a :: r, [], _, _, h => absurd ((h a).mp (List.mem_cons_self ..)) (by simp)
  | a :: r, b :: r', h1, h2, h => by
    have f1 := List.pairwise_cons.mp h1
    have f2 := List.pairwise_cons.mp h2
    have e : a = b := by
      rcases List.mem_cons.mp ((h a).mp (List.mem_cons_self ..)) with e | m
      · exact e
      · rcases List.mem_cons.mp ((h b).mpr (List.mem_cons_self ..)) with e | m'
        · exact e.symm
        · have x := f2.1 a m
          have y := f1.1 b m'
          have z := NtL.lex_asym _ _ x
          rw [y] at z
          cases z
    subst e
    have hr : r = r' := falls_uniq f1.2 f2.2 fun c => by
      constructor
      · intro m
        rcases List.mem_cons.mp ((h c).mp (List.mem_cons_of_mem _ m)) with e | m'
        · subst e
          exact absurd rfl (lex_ne (f1.1 c m))
        · exact m'
      · intro m
        rcases List.mem_cons.mp ((h c).mpr (List.mem_cons_of_mem _ m)) with e | m'
        · subst e
          exact absurd rfl (lex_ne (f2.1 c m))
        · exact m'
    rw [hr]
theorem Cn.uniq {ℓ : (List Int → Int) → Int} {r r' : List Tm} (h : Cn ℓ r) (h' : Cn ℓ r') : r = r' := by
  refine falls_uniq h.fall h'.fall fun a => ?_
  obtain ⟨p, c⟩ := a
  rw [h.mem, h'.mem]
/-! ### books: a count for each powers, in the order in which they came -/
def getB (bk : List Tm) (p : List Int) : Option Int := (bk.find? fun a => decide (a.1 = p)).map (·.2)
def putB (bk : List Tm) (p : List Int) (c : Int) : List Tm := if (bk.any fun a => decide (a.1 = p)) = true then bk.map (fun a => if a.1 = p then (a.1, c) else a) else bk ++ [(p, c)]
def NdB (bk : List Tm) : Prop := (bk.map (·.1)).Nodup
theorem putB_keys {bk : List Tm} {p : List Int} {c : Int} (h : NdB bk) : NdB (putB bk p c) := by
  unfold putB NdB
  by_cases q : (bk.any fun a => decide (a.1 = p)) = true
  · rw [if_pos q, List.map_map]
    have e : ((fun a : Tm => a.1) ∘ fun a : Tm => if a.1 = p then (a.1, c) else a) = fun a => a.1 := by
      funext a
      show (if a.1 = p then (a.1, c) else a).1 = a.1
      split <;> rfl
    rw [e]
    exact h
  · rw [if_neg q, List.map_append]
    refine List.nodup_append.mpr ⟨h, by simp, ?_⟩
    intro x hx y hy e
    obtain ⟨a, ha, rfl⟩ := List.mem_map.mp hx
    have : y = p := by simpa using hy
    subst this
    exact q (List.any_eq_true.mpr ⟨a, ha, decide_eq_true e⟩)
theorem putB_len (bk : List Tm) (p : List Int) (c : Int) : (putB bk p c).length ≤ bk.length + 1 := by
  unfold putB
  split
  · rw [List.length_map]
    omega
  · rw [List.length_append]
    exact Nat.le_refl _
theorem Lf_repl {p : List Int} {c d : Int} : ∀ {bk : List Tm}, NdB bk → (p, d) ∈ bk → ∀ φ, Lf (bk.map fun a => if a.1 = p then (a.1, c) else a) φ = Lf bk φ + (c - d) * φ p
  | [], _, h, _ => by cases h
  | a :: bk, nd, h, φ => by
    have nd' := List.nodup_cons.mp nd
    rw [List.map_cons, Lf_cons, Lf_cons]
    by_cases e : a.1 = p
    · have rest : (bk.map fun a => if a.1 = p then (a.1, c) else a) = bk := by
        have z : bk.map (fun a => if a.1 = p then (a.1, c) else a) = bk.map id := List.map_congr_left fun b hb => by
          rw [if_neg]
          · rfl
          · intro e'
            exact nd'.1 (List.mem_map.mpr ⟨b, hb, e'.trans e.symm⟩)
        rw [z, List.map_id]
      have ad : a = (p, d) := by
        rcases List.mem_cons.mp h with h | h
        · exact h.symm
        · exact absurd (List.mem_map.mpr ⟨(p, d), h, e.symm⟩) nd'.1
      rw [rest, if_pos e, ad]
      show c * φ p + Lf bk φ = d * φ p + Lf bk φ + (c - d) * φ p
      rw [Int.sub_mul]
      omega
    · rw [if_neg e]
      have h' : (p, d) ∈ bk := by
        rcases List.mem_cons.mp h with h | h
        · rw [← h] at e
          exact absurd rfl e
        · exact h
      rw [Lf_repl nd'.2 h' φ]
      omega
theorem getB_some {bk : List Tm} {p : List Int} {d : Int} (h : getB bk p = some d) : (p, d) ∈ bk := by
  unfold getB at h
  obtain ⟨a, ha, rfl⟩ := Option.map_eq_some_iff.mp h
  have e := List.find?_some ha
  have m := List.mem_of_find?_eq_some ha
  have : a.1 = p := of_decide_eq_true e
  rw [← this]
  exact m
theorem getB_none {bk : List Tm} {p : List Int} (h : getB bk p = none) : (bk.any fun a => decide (a.1 = p)) = false := by
  unfold getB at h
  have z := Option.map_eq_none_iff.mp h
  cases q : (bk.any fun a => decide (a.1 = p)) with
  | false => rfl
  | true =>
    obtain ⟨a, ha, e⟩ := List.any_eq_true.mp q
    exact absurd e (List.find?_eq_none.mp z a ha)
def addB (bk : List Tm) (p : List Int) (c : Int) : List Tm := putB bk p ((getB bk p).getD 0 + c)
theorem Lf_addB {bk : List Tm} (nd : NdB bk) (p : List Int) (c : Int) (φ : List Int → Int) : Lf (addB bk p c) φ = Lf bk φ + c * φ p := by
  unfold addB
  cases h : getB bk p with
  | none =>
    unfold putB
    rw [getB_none h, if_neg (by simp), Lf_append, Lf_cons, Lf_nil]
    show Lf bk φ + ((0 + c) * φ p + 0) = _
    rw [Int.zero_add]
    omega
  | some d =>
    unfold putB
    have m := getB_some h
    rw [if_pos (List.any_eq_true.mpr ⟨_, m, decide_eq_true rfl⟩), Lf_repl nd m]
    show Lf bk φ + (d + c - d) * φ p = _
    have e : d + c - d = c := by omega
    rw [e]
/-- a book as a dict -/
def enc (a : Tm) : List Key × V := (a.1.map Sum.inl, V.int a.2)
theorem inl_inj {p q : List Int} (h : p.map (Sum.inl : Int → Key) = q.map Sum.inl) : p = q := by
  have e := congrArg (List.map fun k : Key => match k with | .inl i => i | .inr _ => 0) h
  rw [List.map_map, List.map_map] at e
  have z : ((fun k : Key => match k with | .inl i => i | .inr _ => 0) ∘ (Sum.inl : Int → Key)) = id := rfl
  rw [z, List.map_id, List.map_id] at e
  exact e
theorem enc_iff {a : Tm} {p : List Int} : (enc a).1 = p.map Sum.inl ↔ a.1 = p := ⟨fun z => inl_inj z, fun z => by rw [← z]; rfl⟩
theorem enc_any (bk : List Tm) (p : List Int) : ((bk.map enc).any fun kv => decide (kv.1 = p.map Sum.inl)) = bk.any fun a => decide (a.1 = p) := by
  rw [List.any_map]
  congr 1
  funext a
  exact decide_eq_decide.mpr enc_iff
theorem enc_put (bk : List Tm) (p : List Int) (c : Int) : putK (bk.map enc) (p.map Sum.inl) (V.int c) = (putB bk p c).map enc := by
  unfold putK putB
  rw [enc_any]
  split
  · rw [List.map_map, List.map_map]
    refine List.map_congr_left fun a _ => ?_
    show (if (enc a).1 = p.map Sum.inl then ((enc a).1, V.int c) else enc a) = enc (if a.1 = p then (a.1, c) else a)
    by_cases e : a.1 = p
    · rw [if_pos (enc_iff.mpr e), if_pos e]
      rfl
    · rw [if_neg fun z => e (enc_iff.mp z), if_neg e]
  · rw [List.map_append]
    rfl
theorem enc_val : ∀ (bk : List Tm) (p : List Int), valV (bk.map enc) (p.map Sum.inl) = (getB bk p).map V.int
  | [], _ => rfl
  | a :: bk, p => by
    rw [List.map_cons]
    by_cases e : a.1 = p
    · have h1 : getB (a :: bk) p = some a.2 := by
        unfold getB
        rw [List.find?_cons_of_pos (by simpa using e)]
        rfl
      rw [h1, valV_pos (enc_iff.mpr e)]
      rfl
    · have h1 : getB (a :: bk) p = getB bk p := by
        unfold getB
        rw [List.find?_cons_of_neg (by simpa using e)]
      rw [h1, ← enc_val bk p, valV_neg fun z => e (enc_iff.mp z)]
theorem enc_keys (bk : List Tm) : KeysI (bk.map enc) (bk.map (·.1)) := by
  unfold KeysI
  rw [List.map_map, List.map_map]
  rfl
end Bw
set_option Elab.async false
set_option linter.all false
set_option maxRecDepth 100000
set_option maxHeartbeats 4000000
namespace Bw
open PySem PySem.Spec PyProof.Rows L2
/-! ### products in the heap -/
def TermAt (H : Hp) (t : Addr) (a : Tm) : Prop := ∃ q, H t = some (.tup [.ref q, .int a.2]) ∧ H q = some (.tup (a.1.map V.int))
def TermsAt (H : Hp) (ts : List Addr) (terms : List Tm) : Prop := ts.length = terms.length ∧ ∀ (i : Nat) (a : Tm), terms[i]? = some a → ∃ t, ts[i]? = some t ∧ TermAt H t a
theorem TermAt.same {H H' : Hp} {t : Addr} {a : Tm} (s : ∀ b xs, H b = some (.tup xs) → H' b = some (.tup xs)) (h : TermAt H t a) : TermAt H' t a := by
  obtain ⟨q, h1, h2⟩ := h
  exact ⟨q, s _ _ h1, s _ _ h2⟩
theorem TermsAt.keep {H H' : Hp} {ts : List Addr} {terms : List Tm} (s : ∀ b xs, H b = some (.tup xs) → H' b = some (.tup xs)) (h : TermsAt H ts terms) : TermsAt H' ts terms := ⟨h.1, fun i a e => by
  obtain ⟨t, e1, e2⟩ := h.2 i a e
  exact ⟨t, e1, e2.same s⟩⟩
theorem TermsAt.same {H H' : Hp} {ts : List Addr} {terms : List Tm} (s : Same H H') (h : TermsAt H ts terms) : TermsAt H' ts terms := h.keep fun b xs e => s _ _ e
theorem TermsAt.but {H H' : Hp} {f l : Addr} {ts : List Addr} {terms : List Tm} (s : SameBut f H H') (hf : FeedAt H f l) (h : TermsAt H ts terms) : TermsAt H' ts terms := h.keep fun b xs e => s _ _ (hf.tup e) e
theorem TermsAt.put {H : Hp} {R : Addr} {xs : List V} {o : HO} {ts : List Addr} {terms : List Tm} (h : TermsAt H ts terms) (hR : H R = some (.lst xs)) : TermsAt (upd H R o) ts terms := h.keep fun b ys e => by
  rw [upd_ne (ne_of e hR (by intro z; cases z))]
  exact e
theorem TermsAt.nil {H : Hp} : TermsAt H [] [] := ⟨rfl, fun i a e => by simp at e⟩
theorem TermsAt.snoc {H : Hp} {ts : List Addr} {terms : List Tm} {t : Addr} {a : Tm} (h : TermsAt H ts terms) (ht : TermAt H t a) : TermsAt H (ts ++ [t]) (terms ++ [a]) := by
  refine ⟨by rw [List.length_append, List.length_append, h.1]; rfl, fun i b e => ?_⟩
  rw [List.getElem?_append] at e
  split at e
  · next hi =>
    obtain ⟨u, e1, e2⟩ := h.2 i b e
    exact ⟨u, by rw [List.getElem?_append, if_pos (by rw [h.1]; exact hi)]; exact e1, e2⟩
  · next hi =>
    have h2 := (List.getElem?_eq_some_iff.mp e).1
    rw [List.length_singleton] at h2
    have z : i - terms.length = 0 := by omega
    rw [z] at e
    have : a = b := Option.some.inj e
    subst this
    refine ⟨t, ?_, ht⟩
    rw [List.getElem?_append, if_neg (by rw [h.1]; exact hi), h.1, z]
    rfl
theorem TermsAt.at {H : Hp} {ts : List Addr} {terms : List Tm} (h : TermsAt H ts terms) {i : Nat} {t : Addr} (e : ts[i]? = some t) : ∃ a, terms[i]? = some a ∧ TermAt H t a := by
  have hi : i < terms.length := by
    have := (List.getElem?_eq_some_iff.mp e).1
    rw [h.1] at this
    exact this
  obtain ⟨u, e1, e2⟩ := h.2 i _ (List.getElem?_eq_getElem hi)
  cases (Option.some.inj (e.symm.trans e1))
  exact ⟨_, List.getElem?_eq_getElem hi, e2⟩
end Bw
set_option Elab.async false
set_option linter.all false
set_option maxRecDepth 100000
set_option maxHeartbeats 4000000
namespace Bw
open PySem PySem.Spec PyProof.Rows L2
/-! ### more of books -/
def Sized (n M : Nat) (ts : List Tm) : Prop := ∀ a ∈ ts, a.1.length = n ∧ a.2.natAbs ≤ M
theorem Sized.nil {n M : Nat} : Sized n M [] := fun a h => by cases h
theorem Sized.mono {n M N : Nat} {ts : List Tm} (h : Sized n M ts) (l : M ≤ N) : Sized n N ts := fun a ha => ⟨(h a ha).1, Nat.le_trans (h a ha).2 l⟩
theorem Sized.put {n M : Nat} {bk : List Tm} {p : List Int} {c : Int} (h : Sized n M bk) (hp : p.length = n) (hc : c.natAbs ≤ M) : Sized n M (putB bk p c) := by
  unfold putB
  split
  · intro a ha
    obtain ⟨b, hb, rfl⟩ := List.mem_map.mp ha
    split
    · exact ⟨(h b hb).1, hc⟩
    · exact h b hb
  · intro a ha
    rcases List.mem_append.mp ha with ha | ha
    · exact h a ha
    · rw [List.mem_singleton.mp ha]
      exact ⟨hp, hc⟩
theorem Sized.add {n M m : Nat} {bk : List Tm} {p : List Int} {c : Int} (h : Sized n M bk) (hp : p.length = n) (hc : c.natAbs ≤ m) : Sized n (M + m) (addB bk p c) := by
  refine (h.mono (Nat.le_add_right M m)).put hp ?_
  cases e : getB bk p with
  | none =>
    show (0 + c).natAbs ≤ _
    omega
  | some d =>
    have := (h _ (getB_some e)).2
    show (d + c).natAbs ≤ _
    have z : d.natAbs ≤ M := this
    omega
theorem getB_mem {bk : List Tm} (nd : NdB bk) {p : List Int} {c : Int} (h : (p, c) ∈ bk) : getB bk p = some c := by
  cases e : getB bk p with
  | none =>
    have z := getB_none e
    have : (bk.any fun a => decide (a.1 = p)) = true := List.any_eq_true.mpr ⟨_, h, decide_eq_true rfl⟩
    rw [z] at this
    cases this
  | some d =>
    have m := getB_some e
    have : ∀ {l : List Tm}, (l.map (·.1)).Nodup → (p, c) ∈ l → (p, d) ∈ l → c = d := by
      intro l
      induction l with
      | nil => intro _ h _; cases h
      | cons a l ih =>
        intro nd h1 h2
        have nd' := List.nodup_cons.mp nd
        rcases List.mem_cons.mp h1 with e1 | h1
        · rcases List.mem_cons.mp h2 with e2 | h2
          · exact congrArg Prod.snd (e1.trans e2.symm)
          · exact absurd (List.mem_map.mpr ⟨_, h2, by rw [← e1]⟩) nd'.1
        · rcases List.mem_cons.mp h2 with e2 | h2
          · exact absurd (List.mem_map.mpr ⟨_, h1, by rw [← e2]⟩) nd'.1
          · exact ih nd'.2 h1 h2
    rw [this nd h m]
theorem nd_app {a b : List Tm} (h : NdB (a ++ b)) : NdB a := by
  unfold NdB at *
  rw [List.map_append] at h
  exact (List.nodup_append.mp h).1
theorem putB_new {bk : List Tm} {p : List Int} {c : Int} (h : NdB (bk ++ [(p, c)])) : putB bk p c = bk ++ [(p, c)] := by
  unfold putB
  rw [if_neg]
  intro z
  obtain ⟨a, ha, e⟩ := List.any_eq_true.mp z
  unfold NdB at h
  rw [List.map_append] at h
  exact (List.nodup_append.mp h).2.2 a.1 (List.mem_map_of_mem ha) p (by simp) (of_decide_eq_true e)
theorem merge_nd : ∀ {b a : List Tm}, NdB (a ++ b) → mergeT (a.map enc) (b.map enc) = (a ++ b).map enc
  | [], a, _ => by rw [List.append_nil]; rfl
  | x :: b, a, h => by
    have e : a ++ x :: b = (a ++ [x]) ++ b := by simp
    rw [e] at h ⊢
    show mergeT (putK (a.map enc) (x.1.map Sum.inl) (V.int x.2)) (b.map enc) = _
    rw [enc_put, putB_new (c := x.2) (nd_app h)]
    exact merge_nd h
theorem nd_filter {bk : List Tm} {f : Tm → Bool} (h : NdB bk) : NdB (bk.filter f) := List.Sublist.nodup (List.Sublist.map _ List.filter_sublist) h
theorem kV_ints (p : List Int) : ((p.map Sum.inl : List Key)).map kV = p.map V.int := by
  rw [List.map_map]
  rfl
theorem nd_short {bk : List Tm} {M : Nat} (nd : NdB bk) (s : Sized 0 M bk) : bk.length ≤ 1 := by
  match bk, nd, s with
  | [], _, _ => exact Nat.zero_le _
  | [_], _, _ => exact Nat.le_refl _
  | a :: b :: r, nd, s =>
    have e1 : a.1 = [] := List.eq_nil_of_length_eq_zero (s a (List.mem_cons_self ..)).1
    have e2 : b.1 = [] := List.eq_nil_of_length_eq_zero (s b (List.mem_cons_of_mem _ (List.mem_cons_self ..))).1
    have n := (List.nodup_cons.mp nd).1
    exact absurd (show a.1 ∈ b.1 :: _ by rw [e1, e2]; exact List.mem_cons_self ..) n
theorem nd_keys {bk : List Tm} {n M : Nat} (nd : NdB bk) (s : Sized n M bk) : 2 ≤ (bk.map (·.1)).length → ∀ q ∈ bk.map (·.1), q ≠ [] := by
  intro h q hq e
  subst e
  obtain ⟨a, ha, e⟩ := List.mem_map.mp hq
  have := (s a ha).1
  rw [show a.1 = [] from e] at this
  subst this
  rw [List.length_map] at h
  have := nd_short nd s
  omega
/-! ### heaps -/
theorem unlock_same {H H' : Hp} {d : Addr} {od : Obj} {u : HO} (h : Same (upd H d (.frz od u)) H') (hd : H d = some u) : Same H (upd H' d u) := fun c o e => by
  by_cases z : c = d
  · subst z
    rw [upd_same, ← hd, e]
  · rw [upd_ne z]
    exact h _ _ (by rw [upd_ne z]; exact e)
theorem TermsAt.updX {H : Hp} {d : Addr} {o u : HO} {ts : List Addr} {terms : List Tm} (h : TermsAt H ts terms) (hd : H d = some u) (nt : ∀ xs, u ≠ .tup xs) : TermsAt (upd H d o) ts terms := h.keep fun b xs e => by
  rw [upd_ne]
  · exact e
  · intro z
    subst z
    rw [e] at hd
    exact nt xs (Option.some.inj hd).symm
theorem TermsAt.tail {H : Hp} {t : Addr} {ts : List Addr} {a : Tm} {terms : List Tm} (h : TermsAt H (t :: ts) (a :: terms)) : TermAt H t a ∧ TermsAt H ts terms := by
  refine ⟨?_, Nat.succ.inj h.1, fun i b e => ?_⟩
  · obtain ⟨u, e1, e2⟩ := h.2 0 a rfl
    cases (Option.some.inj e1)
    exact e2
  · obtain ⟨u, e1, e2⟩ := h.2 (i + 1) b e
    exact ⟨u, e1, e2⟩
theorem TermsAt.pairs {H : Hp} : ∀ {ts : List Addr} {terms : List Tm}, TermsAt H ts terms → ∃ its : List (List Key × Addr × V), Paired (fun t (x : List Key × Addr × V) => H t = some (.tup [.ref x.2.1, x.2.2]) ∧ H x.2.1 = some (.tup (x.1.map kV))) ts its ∧ its.map (fun x => (x.1, x.2.2)) = terms.map enc
  | [], [], _ => ⟨[], .nil, rfl⟩
  | [], _ :: _, h => absurd h.1 (by simp)
  | _ :: _, [], h => absurd h.1 (by simp)
  | t :: ts, a :: terms, h => by
    obtain ⟨⟨q, h1, h2⟩, ht⟩ := h.tail
    obtain ⟨its, p, e⟩ := ht.pairs
    refine ⟨(a.1.map Sum.inl, q, .int a.2) :: its, .cons ⟨h1, by rw [kV_ints]; exact h2⟩ p, ?_⟩
    rw [List.map_cons, e, List.map_cons]
    rfl
/-- a book at d -/
def BkAt (H : Hp) (d : Addr) (bk : List Tm) : Prop := H d = some (.dT (bk.map enc))
theorem take_filter {bk : List Tm} {i : Nat} {a : Tm} (h : bk[i]? = some a) (f : Tm → Bool) : (bk.take (i + 1)).filter f = (bk.take i).filter f ++ (if f a = true then [a] else []) := by
  rw [List.take_succ, h, List.filter_append]
  congr 1
  show List.filter f [a] = _
  rw [List.filter_cons]
  split <;> simp
abbrev nzB : Tm → Bool := fun a => decide (a.2 ≠ 0)
end Bw
set_option Elab.async false
set_option linter.all false
set_option maxRecDepth 100000
set_option maxHeartbeats 4000000
namespace Bw
open PySem PySem.Spec PyProof.Rows L2
section
variable {P : Program} {w : World} {K : PySem.W.Frag} {mg : Str → Option Value} {base : Heap}
/-- what a book of a linear form is -/
structure BookOf (n M : Nat) (ℓ : (List Int → Int) → Int) (bk : List Tm) : Prop where
  nd : NdB bk
  sz : Sized n M bk
  nz : ∀ a ∈ bk, a.2 ≠ 0
  lf : ∀ φ, Lf bk φ = ℓ φ
theorem nz_comp {i k : Nat} {σ : L2.St} {H : Hp} {F : Addr} {bk : List Tm} {Q : VK} (h1 : σ[i]? = some (some (.ref F))) (h2 : ∀ v : V, ((wipe σ [k]).set k (some v))[i]? = some (some (.ref F)))
    (h3 : ∀ v : V, ((wipe σ [k]).set k (some v))[k]? = some (some v)) (h4 : ∀ v : V, wipe ((wipe σ [k]).set k (some v)) [k] = wipe σ [k]) (eF : BkAt H F bk) (nd : NdB bk) (hl : bk.length ≤ 1000)
    (q : ∀ (L : Addr) (ts : List Addr) (H' : Hp), Same H H' → H L = none → H' L = some (.lst (ts.map V.ref)) → TermsAt H' ts (bk.filter nzB) → Q (.ref L) H') :
    tLockE (tLc (iKeys (tVar i)) (gName k) (tTest (tOp rNe (tDGet (tVar i) (tVar k)) (tC (V.int 0)))) (tTup (tCons (tVar k) (tCons (tDGet (tVar i) (tVar k)) tNil))) [k]) σ H Q := by
  refine ⟨F, _, eF, trivial, fun od => ?_⟩
  refine ⟨_, h1, F, od, rfl, .inr ⟨_, upd_same, fun L eL => ?_⟩⟩
  have nLF : L ≠ F := Ne.symm (ne_of_none upd_same eL)
  have L0 : H L = none := by
    rw [upd_ne nLF] at eL
    exact eL
  refine lc_it walk_keysT (fun j H' => ∃ ts : List Addr, H' L = some (.lst (ts.map V.ref)) ∧ TermsAt H' ts ((bk.take j).filter nzB) ∧ Same (upd H F (.frz od (.dT (bk.map enc)))) H') ⟨[], upd_same, by rw [List.take_zero]; exact .nil, same_upd eL⟩ (fun j H' _ ⟨_, _, _, s⟩ => s _ _ upd_same) ?_ ?_
  · rintro j x H1 H1' hj ⟨ts, e1, hT1, s1⟩ ⟨rfl, key, v, b, ekv, rfl, eb⟩
    have hj : j < bk.length := by
      rw [List.length_map] at hj
      exact hj
    have ej := List.getElem?_eq_getElem hj
    rw [List.getElem?_map, ej] at ekv
    have ekv := Option.some.inj ekv
    have ek : key = (bk[j]).1.map Sum.inl := (congrArg Prod.fst ekv).symm
    subst ek
    have hm : (bk[j].1, bk[j].2) ∈ bk := List.getElem_mem hj
    have hv : valV (bk.map enc) (bk[j].1.map Sum.inl) = some (V.int bk[j].2) := by
      rw [enc_val, getB_mem nd hm]
      rfl
    have eF1 := s1 _ _ upd_same
    have dg : ∀ H2 : Hp, Same H1' H2 → DGet H2 F (.ref b) (some (V.int bk[j].2)) := fun H2 s2 => .inr ⟨_, _, b, .inr ⟨od, s2 _ _ eF1⟩, rfl, s2 _ _ eb, hv.symm⟩
    refine ⟨h4 _, ?_⟩
    refine ⟨_, h2 _, _, h3 _, F, _, rfl, dg _ (.refl _), rfl, _, rfl, ite2 (fun hz => ?_) (fun hz => ?_)⟩
    rotate_left
    · have tk := take_filter ej nzB
      have hz : bk[j].2 = 0 := Classical.byContradiction fun z => hz (by simp [z])
      refine ⟨ts, e1, ?_, s1⟩
      rw [tk, if_neg (by simp [nzB, hz]), List.append_nil]
      exact hT1
    · have tk := take_filter ej nzB
      have hz : bk[j].2 ≠ 0 := fun z => by simp [z] at hz
      refine ⟨_, h3 _, _, h2 _, _, h3 _, F, _, rfl, dg _ (.refl _), by show 2 ≤ sizeLine; decide, fun t et => ?_⟩
      have st := same_upd (o := .tup [.ref b, .int bk[j].2]) et
      have hln : ts.length ≤ 1000 := by
        have z := hT1.1
        have z2 := List.length_filter_le nzB (bk.take j)
        rw [List.length_take] at z2
        omega
      refine ⟨_, st _ _ e1, by rw [List.length_map]; exact small1000 hln, ts ++ [t], ?_, ?_, ?_⟩
      · rw [upd_same, List.map_append]
        rfl
      · rw [tk, if_pos (by simp [nzB, hz])]
        refine TermsAt.put (TermsAt.snoc (hT1.same st) ⟨b, upd_same, ?_⟩) (st _ _ e1)
        rw [kV_ints] at eb
        exact st _ _ eb
      · exact Same.updN (s1.trans st) eL
  · rintro H1 ⟨ts, e1, hT1, s1⟩
    have eF1 := s1 _ _ upd_same
    rw [List.length_map, List.take_length] at hT1
    refine ⟨eF1, q L ts _ (unlock_same s1 eF) L0 ?_ (hT1.updX eF1 (fun xs z => by cases z))⟩
    rw [upd_ne nLF]
    exact e1
theorem u1 {a c : Nat} (h : a + 64 < c) : a + 1 < c := by omega
end
end Bw
set_option Elab.async false
set_option linter.all false
set_option maxRecDepth 100000
set_option maxHeartbeats 4000000
namespace Bw
open PySem PySem.Spec PyProof.Rows L2
/-! ### the products of a book, falling -/
def fallB (bk : List Tm) (ks : List (List Int)) : List Tm := ks.map fun p => (p, (getB bk p).getD 0)
theorem fallB_perm {bk : List Tm} {ks : List (List Int)} (nd : NdB bk) (hp : ks.Perm (bk.map (·.1))) : (fallB bk ks).Perm bk := by
  have h : (fallB bk ks).Perm ((bk.map (·.1)).map fun p => (p, (getB bk p).getD 0)) := hp.map _
  rw [List.map_map] at h
  have e : bk.map ((fun p => (p, (getB bk p).getD 0)) ∘ (·.1)) = bk.map id := List.map_congr_left fun a ha => by
    show (a.1, (getB bk a.1).getD 0) = a
    rw [getB_mem nd (c := a.2) ha]
    rfl
  rw [e, List.map_id] at h
  exact h
theorem fallB_falls {bk : List Tm} {ks : List (List Int)} (nd : NdB bk) (hp : ks.Perm (bk.map (·.1))) (hw : ks.Pairwise fun x y => HT.lexLt x y = false) : Falls (fallB bk ks) := by
  have n : ks.Nodup := hp.nodup_iff.mpr nd
  unfold Falls fallB
  rw [List.pairwise_map]
  refine (hw.and n).imp fun {x y} h => ?_
  cases e : HT.lexLt y x with
  | true => rfl
  | false => exact absurd (lex_tot h.1 e) h.2
theorem fallB_cn {n M : Nat} {ℓ : (List Int → Int) → Int} {bk : List Tm} {ks : List (List Int)} (B : BookOf n M ℓ bk) (hp : ks.Perm (bk.map (·.1))) (hw : ks.Pairwise fun x y => HT.lexLt x y = false) : Cn ℓ (fallB bk ks) :=
  ⟨fallB_falls B.nd hp hw, fun a ha => B.nz a ((fallB_perm B.nd hp).mem_iff.mp ha), fun φ => by rw [Lf_perm (fallB_perm B.nd hp), B.lf]⟩
theorem fallB_cnF {n M : Nat} {ℓ : (List Int → Int) → Int} {bk : List Tm} {ks : List (List Int)} (nd : NdB bk) (lf : ∀ φ, Lf bk φ = ℓ φ) (hp : ks.Perm (bk.map (·.1))) (hw : ks.Pairwise fun x y => HT.lexLt x y = false) : Cn ℓ ((fallB bk ks).filter nzB) :=
  ⟨List.Pairwise.filter _ (fallB_falls nd hp hw), fun a ha => of_decide_eq_true (List.mem_filter.mp ha).2, fun φ => by rw [Lf_filter, Lf_perm (fallB_perm nd hp), lf]⟩
theorem fallB_take {bk : List Tm} {ks : List (List Int)} {i : Nat} {p : List Int} (h : ks[i]? = some p) : (fallB bk (ks.take (i + 1))) = fallB bk (ks.take i) ++ [(p, (getB bk p).getD 0)] := by
  unfold fallB
  rw [List.take_succ, h, List.map_append]
  rfl
theorem keys_of {H : Hp} : ∀ {bk : List Tm} {bs : List Addr}, IsKeys H (bk.map enc) bs → (∀ b ∈ bs, ∃ q : List Int, H b = some (.tup (q.map V.int))) ∧ bs.map (keyOf H) = bk.map (·.1)
  | [], _, .nil => ⟨fun b hb => by simp at hb, rfl⟩
  | a :: bk, _, .cons (b := b) h r => by
    obtain ⟨i1, i2⟩ := keys_of r
    have h' : H b = some (.tup (a.1.map V.int)) := by
      rw [← kV_ints]
      exact h
    refine ⟨fun c hc => ?_, ?_⟩
    · rcases List.mem_cons.mp hc with rfl | hc
      · exact ⟨_, h'⟩
      · exact i1 c hc
    · rw [List.map_cons, i2, keyOf_at h']
      rfl
section
variable {P : Program} {w : World} {K : PySem.W.Frag} {mg : Str → Option Value} {base : Heap}
end
end Bw
set_option Elab.async false
set_option linter.all false
set_option maxRecDepth 100000
set_option maxHeartbeats 4000000
namespace Bw
open PySem PySem.Spec PyProof.Rows L2
theorem ref_at {ts : List Addr} {i : Nat} {x : V} (h : (ts.map V.ref)[i]? = some x) : ∃ t, ts[i]? = some t ∧ x = .ref t := by
  rw [List.getElem?_map] at h
  cases e : ts[i]? with
  | none =>
    rw [e] at h
    cases h
  | some t =>
    rw [e] at h
    exact ⟨t, rfl, (Option.some.inj h).symm⟩
theorem SqS.same {K : PySem.W.Frag} {b : Bool} {H H' : Hp} {a : Addr} {xs : List V} (s : Same H H') (h : SqS K b H a xs) : SqS K b H' a xs := by
  cases b
  · rcases h with (h | ⟨o, h⟩) | h
    · exact .inl (.inl (s _ _ h))
    · exact .inl (.inr ⟨o, s _ _ h⟩)
    · exact .inr h
  · exact Same.seq s h
section
variable {P : Program} {w : World} {K : PySem.W.Frag} {mg : Str → Option Value} {base : Heap}
abbrev s_gathered : Stmt := topS 23
abbrev n_gathered : List Str := ["terms", "counts", "powers", "count", "key"]
theorem sc_gathered : FnScope n_gathered ["terms"] (defScope s_gathered) := ⟨rfl, rfl, rfl, by decide +kernel, rfl, by decide +kernel, by decide +kernel⟩
def spGath (K : PySem.W.Frag) : Sp := fun vs H Q _ => ∃ (R : Addr) (ts : List Addr) (terms : List Tm) (n m : Nat) (bb : Bool), vs = [.ref R] ∧ SqS K bb H R (ts.map V.ref) ∧ TermsAt H ts terms ∧ terms.length ≤ 1000 ∧ Sized n m terms ∧
  ∀ (p : Addr) (us : List Addr) (r : List Tm) (H' : Hp), Same H H' → H p = none → H' p = some (.tup (us.map V.ref)) → TermsAt H' us r → Cn (Lf terms) r → Sized n (terms.length * m) r → r.length ≤ terms.length → Q (.ref p) H'
theorem ok_gath {f : Addr} {fd : FuncData} (F : Fun K "gathered" "gathered" s_gathered f fd) (T : Tx mg) : FnOk P w K mg base CX0 1 f fd ["terms"] (spGath K) := by
  refine F.ok sc_gathered (fun vs H Q E h => ?_) (fun cdv A outer s H vs Q E hr h => ?_)
  · obtain ⟨R, ts, terms, n, m, bb, rfl, _⟩ := h
    rfl
  · obtain ⟨R, ts, terms, n, m, bb, rfl, hR, hT, hlen, hsz, q⟩ := h
    have hu := hr.units
    refine ⟨_, (pss_cons (ps_set (i := 1) sc_gathered.nd rfl (.inr rfl) pe_dnewT)
  (pss_cons (ps_for PassesOwn.never rfl (p_seq (K := K) (pv 0)) (g_tup (K := K) (n := 2) rfl (pgs_cons (pg_name (i := 2) sc_gathered.nd rfl (.inl rfl)) (pgs_cons (pg_name (i := 3) sc_gathered.nd rfl (.inl rfl)) pgs_nil)))
    (pss_cons (ps_set (i := 4) sc_gathered.nd rfl (.inl rfl) (pe_callTy (c_tup (K := K)) (by rfl) T.tuple (by decide +kernel) (pa_cons (pv 2) pa_nil)))
    (pss_one (ps_dput (u1 hu) (pv 1) (pv 4) (pe_op op_add (pe_dget2 (u1 hu) (pv 1) (pv 4) pe_int ⟨rfl, rfl, rfl, rfl⟩) (pv 3)) rfl))))
  (pss_one (ps_ret (pe_callTy (c_tup (K := K)) (by rfl) T.tuple (by decide +kernel) (pa_cons (pe_lc (own := [("powers", 2)]) (by rfl) sc_gathered.nd (p_list (K := K) (pe_callBK (cr_sortDT rfl) (by rfl) T.sorted (by decide +kernel) (pa_cons (pv 1) pa_nil) (pk_cons pe_bl pk_nil))) (blkOk_by (own := [("powers", 2)]) (N := n_gathered) (sc := defScope s_gathered) (by decide +kernel)) (fun _ _ _ _ _ => (pg_name (i := 2) sc_gathered.nd rfl (.inl rfl))) (fun _ _ _ _ _ => pts_one (pt_cmpR op_ne (pe_dget (u1 hu) (pv 1) (pv 2) (fun _ _ => rfl)) pe_int (nomark _))) (fun _ _ _ _ _ => (pe_tup (pa_cons (pv 2) (pa_cons (pe_dget (u1 hu) (pv 1) (pv 2) (fun _ _ => rfl)) pa_nil))))) pa_nil)))))), ?_⟩
    intro D eD
    have sD := same_upd (o := .dT []) eD
    refine ⟨.ref R, rfl, R, _, bb, rfl, hR.same sD, ?_⟩
    refine for_it (walk_seq (K := K) (b := bb) (a := R) (xs := ts.map V.ref)) (fun i σ H' => ∃ (y2 y3 y4 : Option V) (bk : List Tm), σ = [some (.ref R), some (.ref D), y2, y3, y4] ∧ Same H H' ∧ BkAt H' D bk ∧ NdB bk ∧ Sized n (i * m) bk ∧ (∀ φ, Lf bk φ = Lf (terms.take i) φ) ∧ bk.length ≤ i)
      ⟨none, none, none, [], rfl, sD, upd_same, List.nodup_nil, .nil, fun φ => rfl, Nat.le_refl _⟩ (fun i σ H' _ ⟨_, _, _, _, _, s, _⟩ => hR.same s) ?_ ?_
    · rintro i x σ H1' H1 _ ⟨y2, y3, y4, bk, rfl, s1, eB, nd, sz, lf, hl⟩ ⟨rfl, hx⟩
      obtain ⟨t, et, rfl⟩ := ref_at hx
      obtain ⟨a, ea, b, hb1, hb2⟩ := (hT.same s1).at et
      have hi := (List.getElem?_eq_some_iff.mp ea).1
      have ha := hsz a (List.mem_of_getElem? ea)
      have ek : H1 b = some (.tup ((a.1.map Sum.inl : List Key).map kV)) := by
        rw [kV_ints]
        exact hb2
      have dg : DGet H1 D (.ref b) ((getB bk a.1).map V.int) := by
        rw [← enc_val]
        exact DGet.t eB ek
      refine ⟨t, _, rfl, SqT.of hb1, rfl, _, _, rfl, _, _, rfl, rfl, ?_⟩
      refine ⟨.ref b, rfl, b, _, rfl, .inr ⟨SqT.of hb2, ?_⟩⟩
      refine ⟨.ref D, rfl, D, rfl, .inr ⟨_, .inl eB⟩, .ref b, rfl, _, dg, .int a.2, rfl, (getB bk a.1).getD 0, a.2, ?_, rfl, .ref D, rfl, .ref b, rfl, D, _, rfl, DPut.t eB ek (by rw [List.length_map]; exact small1000 (by omega)), ?_⟩
      · cases getB bk a.1 <;> rfl
      · refine ⟨_, _, _, addB bk a.1 a.2, rfl, Same.updN s1 eD, ?_, putB_keys nd, ?_, fun φ => ?_, ?_⟩
        · show upd _ _ _ _ = _
          rw [upd_same, enc_put]
          rfl
        · have z := sz.add ha.1 ha.2
          rw [← Nat.succ_mul] at z
          exact z
        · rw [Lf_addB nd, lf, List.take_succ, ea, Lf_append]
          show _ = _ + Lf [a] φ
          rw [Lf_cons, Lf_nil]
          omega
        · have := putB_len bk a.1 ((getB bk a.1).getD 0 + a.2)
          show (putB _ _ _).length ≤ _
          omega
    · rintro σ H1 ⟨y2, y3, y4, bk, rfl, s1, eB, nd, sz, lf, hl⟩
      rw [List.length_map] at hl sz lf
      rw [hT.1] at hl sz lf
      rw [List.take_length] at lf
      refine ⟨.ref D, rfl, D, _, bk.map (·.1), rfl, rfl, .inl eB, enc_keys bk, nd_keys nd sz, fun us p3 kt pm pw ep3 => ?_⟩
      have pw : (us.map (keyOf H1)).Pairwise fun x y => HT.lexLt x y = false := by
        rw [List.pairwise_map]
        exact pw
      have sp := same_upd (o := .lst (us.map V.ref)) ep3
      refine ⟨p3, rfl, ⟨_, SqL.of upd_same⟩, fun L eL => ?_⟩
      have e3 : (upd H1 p3 (.lst (us.map V.ref))) p3 = some (.lst (us.map V.ref)) := upd_same
      have lu : us.length = bk.length := by
        have z := pm.length_eq
        rw [List.length_map, List.length_map] at z
        exact z
      generalize (upd H1 p3 (.lst (us.map V.ref))) = H3 at *
      have sH : Same H H3 := s1.trans sp
      have eB3 := sp _ _ eB
      refine lc_list (K := K) (a := p3) (xs := us.map V.ref) (fun j H' => ∃ ts : List Addr, H' L = some (.lst (ts.map V.ref)) ∧ TermsAt H' ts ((fallB bk ((us.map (keyOf H1)).take j)).filter nzB) ∧ Same H3 H') ⟨[], upd_same, .nil, same_upd eL⟩ (fun j H' _ ⟨_, _, _, s⟩ => SqL.of (s _ _ e3)) ?_ ?_
      · rintro j x H4 hx ⟨ts, e4, hT4, s4⟩
        obtain ⟨b, eb, rfl⟩ := ref_at hx
        obtain ⟨q', hq'⟩ := kt b (List.mem_of_getElem? eb)
        have ek : (us.map (keyOf H1))[j]? = some q' := by
          rw [List.getElem?_map, eb]
          show some (keyOf H1 b) = _
          rw [keyOf_at hq']
        have hq4 := s4 _ _ (sp _ _ hq')
        obtain ⟨a, ha, e1⟩ := List.mem_map.mp (pm.mem_iff.mp (List.mem_of_getElem? ek))
        have gb : getB bk q' = some a.2 := getB_mem nd (by rw [← e1]; exact ha)
        have hv : valV (bk.map enc) (q'.map Sum.inl) = some (V.int a.2) := by
          rw [enc_val, gb]
          rfl
        have dg : DGet H4 D (.ref b) (some (.int a.2)) := .inr ⟨_, q'.map Sum.inl, b, .inl (s4 _ _ eB3), rfl, by rw [kV_ints]; exact hq4, hv.symm⟩
        have tk : (fallB bk ((us.map (keyOf H1)).take (j + 1))).filter nzB = (fallB bk ((us.map (keyOf H1)).take j)).filter nzB ++ (if a.2 ≠ 0 then [(q', a.2)] else []) := by
          rw [fallB_take ek, gb, List.filter_append]
          congr 1
          by_cases z : a.2 = 0 <;> simp [nzB, z]
        refine ⟨rfl, .ref D, rfl, .ref b, rfl, D, .int a.2, rfl, dg, rfl, _, rfl, ite2 (fun hz => ?_) (fun hz => ?_)⟩
        · have hz : a.2 ≠ 0 := fun z => by simp [z] at hz
          rw [tk, if_pos hz]
          refine ⟨.ref b, rfl, .ref D, rfl, .ref b, rfl, D, .int a.2, rfl, dg, by show 2 ≤ sizeLine; decide, fun t et => ?_⟩
          have st := same_upd (o := .tup [.ref b, .int a.2]) et
          have lt : ts.length ≤ 1000 := by
            have z := hT4.1
            have z2 := List.length_filter_le nzB (fallB bk ((us.map (keyOf H1)).take j))
            have z3 : (fallB bk ((us.map (keyOf H1)).take j)).length ≤ bk.length := by
              unfold fallB
              rw [List.length_map, List.length_take, List.length_map]
              omega
            omega
          refine ⟨_, st _ _ e4, by rw [List.length_map]; exact small1000 lt, ts ++ [t], ?_, ?_, Same.updN (s4.trans st) eL⟩
          · rw [upd_same, List.map_append]
            rfl
          · exact TermsAt.put (TermsAt.snoc (hT4.same st) ⟨b, upd_same, st _ _ hq4⟩) (st _ _ e4)
        · have hz : a.2 = 0 := Classical.byContradiction fun z => hz (by simp [z])
          rw [tk, if_neg (fun z => z hz), List.append_nil]
          exact ⟨ts, e4, hT4, s4⟩
      · rintro H4 ⟨ts, e4, hT4, s4⟩
        rw [List.length_map, ← List.length_map (f := keyOf H1), List.take_length] at hT4
        refine ⟨L, _, rfl, .inl ⟨SqL.of e4, fun p ep => ?_⟩⟩
        have st := same_upd (o := .tup (ts.map V.ref)) ep
        have pmB := fallB_perm nd pm
        have hle := List.length_filter_le nzB (fallB bk (us.map (keyOf H1)))
        refine q p ts _ _ ((sH.trans s4).trans st) ((sH.trans s4).free ep) upd_same (hT4.same st) (fallB_cnF (n := n) (M := 0) nd lf pm pw) (fun a ha => sz a (pmB.mem_iff.mp (List.mem_filter.mp ha).1)) ?_
        rw [pmB.length_eq] at hle
        omega
end
end Bw
set_option Elab.async false
set_option linter.all false
set_option maxRecDepth 100000
set_option maxHeartbeats 4000000
namespace Bw
open PySem PySem.Spec PyProof.Rows L2
/-! ### the class Sum -/
structure SumC (K : PySem.W.Frag) (mg : Str → Option Value) (C : Addr) : Prop where
  gl : mg "Sum" = some (.ref C)
  cls : Cls K C
  nw : NoAttr K C "width"
  np : NoAttr K C "products"
  ha : PySem.W.findIn K (.ref C) "__class__" = some (some (.builtin "object.__class__"))
  hn : PySem.W.specialIn K (.builtin "object.__class__") "__get__" = some (some (.builtin "getset_descriptor.__get__"))
  htk : PySem.W.takesIn K (.builtin "object.__class__") = some true
  hm : PySem.W.mroIn K C (.type "object") = some true
  self : PySem.W.kitOne K (.ref C) (.ref C) = some true
  kp : PySem.W.keepIn K (.ref C) = true
structure MakS (P : Program) (w : World) (K : PySem.W.Frag) (mg : Str → Option Value) (base : Heap) (k : Nat) (C : Addr) (ps : List Str) (sp : Sp) : Prop where
  ex : ∃ (f : Addr) (fd : FuncData), Mk K C f ∧ FnOk P w K mg base CX0 k f fd ps sp ∧ mg "Sum" = some (.ref C) ∧ Binds K fd ps []
structure MetS (P : Program) (w : World) (K : PySem.W.Frag) (mg : Str → Option Value) (base : Heap) (k : Nat) (C : Addr) (m : Str) (ps : List Str) (sp : Sp) : Prop where
  ex : ∃ (f : Addr) (fd : FuncData), Cls K C ∧ Meth K C m f ∧ FnOk P w K mg base CX0 k f fd ps sp ∧ Binds K fd ps []
section
variable {X : Cx} {ps : List Str} {sp : Sp} {k : Nat} {C : Addr} {m : Str} {o e : Expr} {es : List Expr} {p pos apos : Pos} {t : TA} {ta : TE}
theorem pe_mkS (M : MakS X.prog X.w X.K X.mg X.base k C ps sp) (hr : Room (k + 1) X.A) (hg : Gl X "Sum") (ha : PA X (e :: es) t) (he : starEach (e :: es) X.env = (false, eval e X.env) :: starEach es X.env := by rfl)
    (hpl : (backTo pos (starEach es X.env)).any (·.1) = false := by rfl) : PE X (.Call (.Name "Sum" p) (e :: es) [] pos) (tMake C sp [] E0 t) := by
  obtain ⟨f, fd, mk, F, hm, hb⟩ := M.ex
  exact pe_make mk F hr hg hm hb .nil pass0 ha (by decide) he hpl
theorem pe_mtS {pl : Sem Bool} (M : MetS X.prog X.w X.K X.mg X.base k C m ps sp) (hr : Room k X.A) (ho : PE X o ta) (ha : PA X (e :: es) t) (hst : starEach (e :: es) X.env = (false, eval e X.env) :: starEach es X.env := by rfl)
    (hpl : (backTo pos (starEach es X.env)).any (·.1) = false := by rfl)
    (ht : eval (.Call (.Attribute o m apos) (e :: es) [] pos) X.env = (do
      let ov ← eval o X.env
      standAt apos.atName
      let (f, first) ← holding [ov] (getMethod ov m pl)
      callWith pos f first (backTo pos (starEach (e :: es) X.env)) (backToKw pos (keywordEach [] X.env))) := by rfl) : PE X (.Call (.Attribute o m apos) (e :: es) [] pos) (tMeth C m sp [] E0 ta t) := by
  obtain ⟨f, fd, c, hm, F, hb⟩ := M.ex
  exact pe_meth (pl := pl) ho c hm F hr hb .nil pass0 ha hst hpl ht
theorem pe_mtS0 {pl : Sem Bool} (M : MetS X.prog X.w X.K X.mg X.base k C m ps sp) (hr : Room k X.A) (ho : PE X o ta)
    (ht : eval (.Call (.Attribute o m apos) [] [] pos) X.env = (do
      let ov ← eval o X.env
      standAt apos.atName
      let (f, first) ← holding [ov] (getMethod ov m pl)
      callWith pos f first (backTo pos (starEach [] X.env)) (backToKw pos (keywordEach [] X.env))) := by rfl) : PE X (.Call (.Attribute o m apos) [] [] pos) (tMeth C m sp [] E0 ta tNil) := by
  obtain ⟨f, fd, c, hm, F, hb⟩ := M.ex
  exact pe_meth0 (pl := pl) ho c hm F hr hb .nil pass0 ht
theorem pf {K : PySem.W.Frag} {f : Str} (he : PE X e ta) (hK : X.K = K := by rfl) (hb : attributeBase e f X.env (eval e X.env) = eval e X.env := by rfl) : PE X (.Attribute e f pos) (tFld K ta f) := by
  subst hK
  exact pe_fld he hb
end
def SumAt (C : Addr) (H : Hp) (a : Addr) (n : Nat) (r : List Tm) : Prop := ∃ (dx p : Addr) (us : List Addr), H a = some (.ins C dx [("width", .int n), ("products", .ref p)]) ∧ H p = some (.tup (us.map V.ref)) ∧ TermsAt H us r
theorem SumAt.same {C : Addr} {H H' : Hp} {a : Addr} {n : Nat} {r : List Tm} (s : Same H H') (h : SumAt C H a n r) : SumAt C H' a n r := by
  obtain ⟨dx, p, us, h1, h2, h3⟩ := h
  exact ⟨dx, p, us, s _ _ h1, s _ _ h2, h3.same s⟩
theorem any_rep (n : Nat) : (List.replicate n false).any id = false := by
  rw [List.any_eq_false]
  intro x hx
  rw [List.eq_of_mem_replicate hx]
  decide
theorem FunD.ok0 {P : Program} {w : World} {K : PySem.W.Frag} {mg : Str → Option Value} {base : Heap} {x qual : Str} {params : Arguments} {body : List Stmt} {scope : Scope} {dvs : List V} {kws : List (Str × V)} {f : Addr} {fd : FuncData} {N ps : List Str} {k : Nat} {sp : Sp} (F : FunD K x qual params body scope dvs kws f fd) (S : FnScope N ps scope)
    (len : ∀ vs H Q E, sp vs H Q E → vs.length = ps.length)
    (hbody : ∀ (cdv : Value) (A : Around) (outer : List Env) (s : Shared) (H : Hp) (vs : List V) (Q : VK) (E : XK), Room k (A.deeper (envOfC qual scope s.heap.objs.size f cdv)) → sp vs H Q E →
      ∃ t, PSs (cxOf CX0 P w K mg base N qual scope f cdv A outer s H E).nox body t ∧ t { nx := fun _ H' => Q .non H', rt := Q } (L2.start N vs) H) : FnOk P w K mg base CX0 (k + 1) f fd ps sp := by
  refine F.ok S len fun cdv A outer s H vs Q E hr hsp => ?_
  obtain ⟨t, h, q⟩ := hbody cdv A outer s H vs Q E hr hsp
  exact ⟨t, h.nox, q⟩
section
variable {P : Program} {w : World} {K : PySem.W.Frag} {mg : Str → Option Value} {base : Heap} {C : Addr}
abbrev s_init : Stmt := inClass (topS 66) 0
abbrev n_init : List Str := ["self", "width", "terms", "powers", "count", "products"]
theorem sc_init : FnScope n_init ["self", "width", "terms"] (defScope s_init) := ⟨rfl, rfl, rfl, by decide +kernel, rfl, by decide +kernel, by decide +kernel⟩
def spInit (K : PySem.W.Frag) (C : Addr) : Sp := fun vs H Q _ => ∃ (x dx R : Addr) (ts : List Addr) (terms : List Tm) (n m : Nat) (bb : Bool), vs = [.ref x, .int n, .ref R] ∧ H x = some (.ins C dx []) ∧ SqS K bb H R (ts.map V.ref) ∧ TermsAt H ts terms ∧ terms.length ≤ 400 ∧ Sized n m terms ∧
  ∀ (r : List Tm) (H' : Hp), SameBut x H H' → SumAt C H' x n r → Cn (Lf terms) r → Sized n (terms.length * m) r → r.length ≤ terms.length → Q .non H'
theorem ok_init {f : Addr} {fd : FuncData} {dvs : List V} {kws : List (Str × V)} (F : FunD K "__init__" "Sum.__init__" (defArgs s_init) (defBody s_init) (defScope s_init) dvs kws f fd) (T : Tx mg) (S : SumC K mg C) (c_gathered : Cal P w K mg base CX0 1 "gathered" ["terms"] (spGath K)) : FnOk P w K mg base CX0 2 f fd ["self", "width", "terms"] (spInit K C) := by
  refine FunD.ok0 F sc_init (fun vs H Q E h => ?_) (fun cdv A outer s H vs Q E hr h => ?_)
  · obtain ⟨x, dx, R, ts, terms, n, m, bb, rfl, _⟩ := h
    rfl
  · obtain ⟨x, dx, R, ts, terms, n, m, bb, rfl, hx, hR, hT, hlen, hsz, q⟩ := h
    refine ⟨_, (pss_cons (ps_if (pt_val (pe_callB (c_any (K := K) rfl) (by rfl) T.any (by decide +kernel) (pa_cons (pe_lc (own := [("powers", 3), ("count", 4)]) (by rfl) sc_init.nd (p_seq (K := K) (pv 2)) (blkOk_by (own := [("powers", 3), ("count", 4)]) (N := n_init) (sc := defScope s_init) (by decide +kernel)) (fun _ _ _ _ _ => (g_tup (K := K) (n := 2) rfl (pgs_cons (pg_name (i := 3) sc_init.nd rfl (.inl rfl)) (pgs_cons (pg_name (i := 4) sc_init.nd rfl (.inl rfl)) pgs_nil)))) (fun _ _ _ _ _ => pts_nil) (fun _ _ _ _ _ => (pe_cmpR op_ne (pe_callB (c_len (K := K)) (by rfl) T.len PySem.boot_len (pa_cons (pv 3) pa_nil)) (pv 1) (nomark _)))) pa_nil)))
    pss_never
    pss_nil)
  (pss_cons (ps_set (i := 5) sc_init.nd rfl (.inl rfl) (pe_cal c_gathered hr (by rfl) (pa_cons (pv 2) pa_nil)))
  (pss_cons (ps_if (pt_cmpR op_gt (pe_callB (c_len (K := K)) (by rfl) T.len PySem.boot_len (pa_cons (pv 5) pa_nil)) (pe_gint (by rfl) T.WIDE) (nomark _))
    pss_never
    pss_nil)
  (pss_cons (ps_fld (pv 0) (pv 1) rfl) (pss_one (ps_fld (pv 0) (pv 5) rfl)))))), ?_⟩
    refine ⟨.ref R, rfl, R, _, bb, rfl, hR, fun D eD => ?_⟩
    refine lc_it (walk_seq (K := K) (b := bb) (a := R) (xs := ts.map V.ref)) (fun j H' => H' D = some (.lst ((List.replicate j false).map V.bl)) ∧ Same H H') ⟨upd_same, same_upd eD⟩ (fun j H' _ ⟨_, s⟩ => hR.same s) ?_ ?_
    · rintro j v H1' H1 _ ⟨e1, s1⟩ ⟨rfl, hv⟩
      obtain ⟨t, et, rfl⟩ := ref_at hv
      obtain ⟨a, ea, b, hb1, hb2⟩ := (hT.same s1).at et
      have hi := (List.getElem?_eq_some_iff.mp ea).1
      have za := hsz a (List.mem_of_getElem? ea)
      refine ⟨t, _, rfl, SqT.of hb1, rfl, _, _, rfl, _, _, rfl, rfl, rfl, .ref b, rfl, b, _, rfl, .inr (SqT.of hb2), .int n, rfl, rfl, ?_⟩
      refine ⟨_, e1, by rw [List.length_map, List.length_replicate]; exact small1000 (by omega), ?_, Same.updN s1 eD⟩
      rw [upd_same, List.replicate_succ', List.map_append, List.length_map, za.1, decide_eq_true rfl]
      rfl
    · rintro H1 ⟨e1, s1⟩
      refine ⟨D, _, rfl, SqL.of e1, ?_⟩
      rw [any_rep]
      refine ⟨false, rfl, iteF ?_⟩
      refine ⟨.ref R, rfl, R, ts, terms, n, m, bb, rfl, hR.same s1, hT.same s1, by omega, hsz, fun p us r H2 s2 p0 e2 hT2 cn z2 hl2 => ?_⟩
      refine ⟨.ref p, rfl, p, _, rfl, .inr (SqT.of e2), _, _, rfl, rfl, _, rfl, ite2 (fun hz => ?_) (fun _ => ?_)⟩
      · have z3 := of_decide_eq_true hz
        rw [List.length_map, hT2.1] at z3
        exact absurd z3 (by omega)
      · have hx2 := s2 _ _ (s1 _ _ hx)
        refine ⟨.int n, rfl, .ref x, rfl, x, C, dx, [], rfl, hx2, S.cls, S.nw, by decide, ?_⟩
        refine ⟨.ref p, rfl, .ref x, rfl, x, C, dx, [("width", .int n)], rfl, upd_same, S.cls, S.np, by show 1 < 1000; decide, ?_⟩
        have npx : p ≠ x := ne_of e2 hx2 (by intro z; cases z)
        refine q r _ ((SameBut.upd (SameBut.upd (s1.trans s2).but))) ⟨dx, p, us, ?_, ?_, ?_⟩ cn z2 hl2
        · rw [upd_same]
          rfl
        · rw [upd_ne npx, upd_ne npx]
          exact e2
        · exact TermsAt.updX (TermsAt.updX hT2 hx2 (fun xs z => by cases z)) upd_same (fun xs z => by cases z)
end
end Bw
set_option Elab.async false
set_option linter.all false
set_option maxRecDepth 100000
set_option maxHeartbeats 4000000
namespace Bw
open PySem PySem.Spec PyProof.Rows L2
/-! ### a op b op c op d -/
section
variable {X : Cx} {K : PySem.W.Frag} {a b c d : Expr} {ta tb tc td : TE} {pos : Pos}
def tChain3 (r r' r'' : R2) (ta tb tc td : TE) : TE := fun σ H Q => ta σ H fun x H1 => tb σ H1 fun y H2 => r x y H2 fun z H3 => ∃ k, z = .bl k ∧
  (if k = true then tc σ H3 fun w' H4 => r' y w' H4 fun z H5 => ∃ k, z = .bl k ∧ (if k = true then td σ H5 fun v' H6 => r'' w' v' H6 Q else Q (.bl false) H5) else Q (.bl false) H3)
theorem pe_chain3 {op op' op'' : CmpOp} {r r' r'' : R2} (ho : OpR X (compareOp op) r) (ho' : OpR X (compareOp op') r') (ho'' : OpR X (compareOp op'') r'') (ha : PE X a ta) (hb : PE X b tb) (hc : PE X c tc) (hd : PE X d td)
    (hm : lastMarks [op, op', op''] [b, c, d] = false := by with_unfolding_all rfl) : PE X (.Compare a [op, op', op''] [b, c, d] pos) (tChain3 r r' r'' ta tb tc td) := by
  refine ⟨fun pins s σ H Q I h => ?_⟩
  refine Compare_chain (thn (ha.run pins s σ H _ I h) fun v s1 ⟨x, H1, I1, r1, q1⟩ => chain_link (thn (hb.run pins s1 σ H1 _ I1 q1) fun u s2 ⟨y, H2, I2, r2, q2⟩ =>
    thn (ho pins s2 σ H2 x y v u _ I2 r1 r2 q2) fun d s3 ⟨z, H3, I3, r3, k, e, q3⟩ => ?_)) hm
  subst e
  cases r3
  refine wpAny_truthy_bool ?_
  cases k with
  | false => exact ite_ff ⟨.bl false, H3, I3, rfl, q3⟩
  | true =>
    refine ite_tt (chain_link (thn (hc.run pins s3 σ H3 _ I3 q3) fun w' s4 ⟨z', H4, I4, r4, q4⟩ => thn (ho' pins s4 σ H4 y z' u w' _ I4 r2 r4 q4) fun d s5 ⟨z, H5, I5, r5, k, e, q5⟩ => ?_))
    subst e
    cases r5
    refine wpAny_truthy_bool ?_
    cases k with
    | false => exact ite_ff ⟨.bl false, H5, I5, rfl, q5⟩
    | true => exact ite_tt (chain_last (thn (hd.run pins s5 σ H5 _ I5 q5) fun w2 s6 ⟨z2, H6, I6, r6, q6⟩ => ho'' pins s6 σ H6 z' z2 w' w2 Q I6 r4 r6 q6))
/-! ### x in t, a tuple of data -/
def rInDT (K : PySem.W.Frag) (neg : Bool) : R2 := fun x y H Q => ∃ d ds, Dp K H x d ∧ Dp K H y (.tuple ds) ∧ SeqAt.shaped d = true ∧ SeqAt.shaped (.tuple ds) = true ∧ Q (.bl (if neg then !(ds.any fun z => PyData.eqv z d) else ds.any fun z => PyData.eqv z d)) H
theorem o_inDT (hu : X.A.units + 65 < cLine) (hK : X.K = K := by rfl) : OpR X (compareOp .In) (rInDT K false) := by
  subst hK
  intro pins s σ H x y v u Q I rx ry h
  obtain ⟨d, ds, hd, he, sd, se, q⟩ := h
  obtain ⟨as, r1⟩ := Dp.reads I d x v hd rx
  obtain ⟨bs, r2⟩ := Dp.reads I (.tuple ds) y u he ry
  exact SeqAt.in_tuple_reads r2 r1 (SeqAt.canLay_of_shaped se) (SeqAt.canLay_of_shaped sd) (room_in_shaped sd hu) ⟨.bl _, H, I, rfl, q⟩
theorem o_notInDT (hu : X.A.units + 65 < cLine) (hK : X.K = K := by rfl) : OpR X (compareOp .NotIn) (rInDT K true) := by
  subst hK
  intro pins s σ H x y v u Q I rx ry h
  obtain ⟨d, ds, hd, he, sd, se, q⟩ := h
  obtain ⟨as, r1⟩ := Dp.reads I d x v hd rx
  obtain ⟨bs, r2⟩ := Dp.reads I (.tuple ds) y u he ry
  exact SeqAt.notIn_tuple_reads r2 r1 (SeqAt.canLay_of_shaped se) (SeqAt.canLay_of_shaped sd) (room_in_shaped sd hu) ⟨.bl _, H, I, rfl, q⟩
theorem o_inDL (hu : X.A.units + 65 < cLine) (hK : X.K = K := by rfl) : OpR X (compareOp .In) (rInD K) := by
  subst hK
  exact op_inD hu
theorem o_notInDL (hu : X.A.units + 65 < cLine) (hK : X.K = K := by rfl) : OpR X (compareOp .NotIn) (rNotInD K) := by
  subst hK
  exact op_notInD hu
theorem o_leT (hu : X.A.units < cLine) (hK : X.K = K := by rfl) : OpR X (compareOp .LtE) (rLeT K) := by
  subst hK
  exact op_leT hu
theorem o_ltT (hu : X.A.units < cLine) (hK : X.K = K := by rfl) : OpR X (compareOp .Lt) (rLtT K) := by
  subst hK
  exact op_ltT hu
end
/-! ### t[::-1] of a tuple -/
section
variable {prog : Program} {w : World} {A : Around} {E : Value → Shared → Prop} {s : Shared}
theorem places_rev (n : Nat) : Builtin.Slice.slicePlaces ((n : Int) - 1) (-1) (-1) = n := by
  unfold Builtin.Slice.slicePlaces
  rw [if_neg (by decide)]
  by_cases h : (n : Int) - 1 > -1
  · rw [if_pos h, show (- -1 : Int) = 1 by decide, Int.ediv_one]
    omega
  · rw [if_neg h]
    omega
theorem fm_congr {α β : Type} {f g : α → Option β} : ∀ {l : List α}, (∀ x ∈ l, f x = g x) → l.filterMap f = l.filterMap g
  | [], _ => rfl
  | x :: l, h => by
    rw [List.filterMap_cons, List.filterMap_cons, h x List.mem_cons_self, fm_congr (l := l) fun y hy => h y (List.mem_cons_of_mem _ hy)]
theorem pick_rev (xs : Array Value) : ((List.range xs.size).filterMap fun (k : Nat) => xs[(((xs.size : Int) - 1) + (k : Int) * (-1)).toNat]?).toArray = xs.toList.reverse.toArray := by
  have e : ((List.range xs.size).filterMap fun (k : Nat) => xs[(((xs.size : Int) - 1) + (k : Int) * (-1)).toNat]?) = ((List.range xs.size).map fun k => xs.size - 1 - k).filterMap (xs[·]?) := by
    rw [List.filterMap_map]
    refine fm_congr fun k hk => ?_
    have := List.mem_range.mp hk
    show _ = xs[xs.size - 1 - k]?
    congr 1
    omega
  rw [e, PySem.W.krv_range, List.filterMap_reverse, PySem.W.krv_all]
theorem sliceApplied_rev {sl : Addr} {n : Nat} {u : Tok} {Q : Int × Int × Nat → Shared → Prop} (hs : s.heap.IsSliceOf sl .none .none (.int (-1) u))
    (h : Q ((n : Int) - 1, -1, n) s) :
    wpAny (model prog w) A (Builtin.Slice.sliceApplied (.ref sl) (pure (n : Int))) Q E s := by
  obtain ⟨os, hos, hcs, hds⟩ := id hs
  unfold Builtin.Slice.sliceApplied Builtin.Slice.sliceFields
  refine wpAny_bind (wpAny_bind (wpAny_field hos hds (x := .none) rfl (wpAny_bind (wpAny_field hos hds (x := .none) rfl (wpAny_bind (wpAny_field hos hds (x := .int (-1) u) rfl (wpAny_pure ?_)))))))
  refine wpAny_bind (slicePart_int ?_)
  show wpAny _ _ (if ((-1 : Int) == 0) = true then _ else _) _ _ s
  rw [if_neg (by decide)]
  refine wpAny_bind (slicePart_none (wpAny_bind (slicePart_none (wpAny_bind (wpAny_pure ?_)))))
  show wpAny _ _ (pure ((n : Int) - 1, (-1 : Int), Builtin.Slice.slicePlaces ((n : Int) - 1) (-1) (-1))) _ _ s
  rw [places_rev]
  exact wpAny_pure h
theorem getItem_tuple_rev {t sl : Addr} {items : Array Value} {u : Tok} {Q : Value → Shared → Prop} (ht : IsTup s.heap t items) (hs : s.heap.IsSliceOf sl .none .none (.int (-1) u))
    (h : Q (.ref s.heap.objs.size) { s with heap := s.heap.push { cls := .type "tuple", data := .seq items.toList.reverse.toArray } })
    (hsz : items.size ≤ sizeLine := by size_fits) : wpAny (model prog w) A (getItem (.ref t) (.ref sl)) Q E s := by
  have hdrop : sizeOk (.seq items.toList.reverse.toArray) := by
    show items.toList.reverse.toArray.size ≤ sizeLine
    rw [List.size_toArray, List.length_reverse, Array.length_toList]
    omega
  obtain ⟨os, hos, hcs, hds⟩ := id hs
  have hTs : s.TypeIs (.ref sl) "slice" := ⟨os, hos, hcs⟩
  unfold getItem
  try with_reducible refine wpAny_holding ?_
  first | refine wpAny_bind (wpAny_pure ?_) | skip
  refine wpAny_bind (wpAny_sequenceKey ht.typeIs (by decide) ?_)
  refine wpAny_bind (wpAny_callSpecial?_slot (name := Str.ofString "__getitem__") ht.typeIs slot_tuple_getitem
    (wpAny_call_entry slot_tuple_getitem ht.typeIs entry_tuple_getitem ?_ (args_tuple_getitem _ _)))
  show wpAny _ _ (Builtin.Tuple.tupleItemsOf (.ref t) >>= _) _ _ s
  refine wpAny_bind (tupleItemsOf_ ht ?_)
  refine wpAny_bind (wpAny_typeOf hTs ?_)
  rw [if_pos (by decide)]
  refine wpAny_bind (sliceApplied_rev hs ?_)
  have hno : ¬ ((((items.size : Int) - 1 == 0) && ((-1 : Int) == 1) && (items.size == items.size)) = true) := by
    cases ((items.size : Int) - 1 == 0) <;> simp
  show wpAny _ _ (if (((items.size : Int) - 1 == 0) && ((-1 : Int) == 1) && (items.size == items.size)) = true then _ else _) _ _ s
  rw [if_neg hno, pick_rev items]
  first
    | exact wpAny_bind (m := Builtin.Tuple.tupleExact _) (wpAny_newObj_type (wpAny_pure ⟨_, rfl, wpAny_pure h⟩) hdrop)
    | exact wpAny_bind (m := Builtin.Tuple.tupleExact _) (wpAny_newObj_type (wpAny_bind (wpAny_pure (wpAny_pure ⟨_, rfl, wpAny_pure h⟩))) hdrop)
    | exact wpAny_bind (wpAny_bind (m := Builtin.Tuple.tupleExact _) (wpAny_newObj_type (wpAny_pure (wpAny_pure ⟨_, rfl, wpAny_pure h⟩)) hdrop))
    | exact wpAny_bind (wpAny_bind (m := Builtin.Tuple.tupleExact _) (wpAny_newObj_type (wpAny_pure ⟨_, rfl, wpAny_pure h⟩) hdrop))
end
section
variable {X : Cx} {K : PySem.W.Frag}
def tRevT (K : PySem.W.Frag) (te : TE) : TE := fun σ H Q => te σ H fun x H1 => ∃ a xs, x = .ref a ∧ SqT K H1 a xs ∧ ∀ p, H1 p = none → Q (.ref p) (upd H1 p (.tup xs.reverse))
theorem pe_revT {e : Expr} {te : TE} {k : Nat} {p1 p2 p3 pos : Pos} (he : PE X e te) (hK : X.K = K := by rfl) : PE X (.Subscript e (.Slice none none (some (.UnaryOp .USub (.Constant (.int 1) k p1) p2)) p3) pos) (tRevT K te) := by
  subst hK
  refine ⟨fun pins s σ H Q I h => ?_⟩
  refine Subscript_ (thn (he.run pins s σ H _ I h) fun v s1 ⟨x, H1, I1, r1, q1⟩ => ?_)
  obtain ⟨a, xs, ex, hx, q⟩ := q1
  subst ex
  cases r1
  have hst : PO X (some (.UnaryOp .USub (.Constant (.int 1) k p1) p2)) (tPart (tUn (rU fun i => .int (-i)) (tC (.int 1)))) := po_some (pe_un un_neg pe_int)
  refine wpAny_Slice (thn (po_none.run pins s1 σ H1 (fun o H2 => o = none ∧ H2 = H1) I1 ⟨rfl, rfl⟩) fun vl s2 ⟨l, H2, I2, pl, el, e2⟩ => ?_)
  subst el e2
  refine thn (po_none.run pins s2 σ H2 (fun o H3 => o = none ∧ H3 = H2) I2 ⟨rfl, rfl⟩) fun vu s3 ⟨u, H3, I3, pu, eu, e3⟩ => ?_
  subst eu e3
  refine thn (hst.run pins s3 σ H3 (fun o H4 => o = some (-1) ∧ H4 = H3) I3 ⟨1, rfl, -1, rfl, rfl, rfl⟩) fun vs s4 ⟨o, H4, I4, ps, eo, e4⟩ => ?_
  subst eo e4
  have I5 : L2.Inv X pins σ H4 { s4 with heap := s4.heap.push { cls := .type "slice", data := .fields #[vl, vu, vs] } } := I4.kept (t' := s4.toks) fun b ob q => Heap.get?_push_of_some _ q
  obtain ⟨its, r, ht, hz⟩ := I5.tuple hx
  have hlen := r.length
  cases pl
  cases pu
  obtain ⟨u, es⟩ : ∃ u, vs = .int (-1) u := by
    cases ps
    exact ⟨_, rfl⟩
  subst es
  show wpAny (model X.prog X.w) X.A (subscriptTail e (.Slice none none (some (.UnaryOp .USub (.Constant (.int 1) k p1) p2)) p3) (.ref a) (.ref s4.heap.objs.size)) (EP X pins σ Q) X.xe _
  refine tail_any (ops := [.ref a, .ref s4.heap.objs.size]) ht.typeIs (slot_tuple_getitem.lookup) ?_ (by with_unfolding_all rfl)
  refine getItem_tuple_rev ht (Heap.IsSliceOf.new _ _ _ _) ?_ (by rw [List.size_toArray]; omega)
  refine ⟨.ref _, _, I5.laid (t' := s4.toks) (o := .tup xs.reverse) (fun b ob q => Heap.get?_push_of_some _ q) (Nat.le_refl _) ?_, rfl, q _ (I5.hok.fresh (Nat.le_refl _))⟩
  exact ⟨by rw [List.length_reverse]; exact hz, _, r.reverse, IsTup.new _ _⟩
end
end Bw
set_option Elab.async false
set_option linter.all false
set_option maxRecDepth 100000
set_option maxHeartbeats 4000000
/-! ### enumerate(t) of a tuple -/
namespace PySem
set_option maxHeartbeats 1000000 in
theorem meets_enumerate_newTu (l : Addr) (items : Array Value) (n : Nat) (dct : Option Addr) (sl : Array (Option Value)) :
    Meets (Builtin.«enumerate.__new__» ⟨[.type "enumerate", .ref l], []⟩) (fun _ R s => s.heap.get? l = some { cls := .type "tuple", dict := dct, data := .seq items n, slots := sl } ∧
      R (.ok (.ret (.ref (s.heap.push { cls := .type "tuple_iterator", data := .fields #[.ref l, .int 0 0] }).objs.size)))
        { s with heap := (s.heap.push { cls := .type "tuple_iterator", data := .fields #[.ref l, .int 0 0] }).push { cls := .type "enumerate", data := .fields #[.none, .bool false, .ref s.heap.objs.size, rawInt 0, .none, .none] } }) :=
  .of_wp fun prog w A R s h => by
    obtain ⟨hp, g, d, tk, os⟩ := s; obtain ⟨hl, h⟩ := h
    have hsub := sub_enumerate
    have hL : Heap.IsTuple (Shared.heap ⟨hp, g, d, tk, os⟩) l items := ⟨_, hl, rfl, n, rfl⟩
    wp_walk using wpAny_loadPart' hl
    refine wpAny_stack_any fun st => wpAny_pure ?_
    split
    · rename_i c _ _ _ _ _
      cases (c == Value.type "enumerate")
      · wp_walk using wpAny_loadPart' hl, wpAny_pyIter_tuple hL
        exact ⟨_, rfl, h⟩
      · wp_walk using wpAny_loadPart' hl, wpAny_pyIter_tuple hL
        exact ⟨_, rfl, h⟩
    · wp_walk using wpAny_loadPart' hl, wpAny_pyIter_tuple hL
      exact ⟨_, rfl, h⟩
theorem call_enumerate_tu {prog : Program} {w : World} {A : Around} {E : Value → Shared → Prop} {s : Shared} {l : Addr} {items : Array Value} {Q : Value → Shared → Prop} (hL : s.heap.IsTuple l items)
    (h : ∀ h', IsEnum h' (s.heap.objs.size + 1) s.heap.objs.size 0 .none → h'.IsTupleIter s.heap.objs.size l 0 → h'.objs.size = s.heap.objs.size + 2 →
      (∀ b o, s.heap.get? b = some o → h'.get? b = some o) → Q (.ref (s.heap.objs.size + 1)) { s with heap := h' }) :
    wpAny (model prog w) A (call (.type "enumerate") [.ref l]) Q E s := by
  obtain ⟨⟨c, dct, dt, sl⟩, hl, hc, n, hd⟩ := hL
  replace hc : c = .type "tuple" := hc
  replace hd : dt = .seq items n := hd
  subst hc hd
  refine callType_new F.called_enumerate (by decide) (F.typeCall_enumerate_1 _) (F.newCall_enumerate_1 _) (fun obj => F.args_object_init_2 obj _) F.entry_enumerate_new
    (meets_enumerate_newTu l items n dct sl) ⟨hl, ?_⟩
  have hz : (s.heap.push { cls := .type "tuple_iterator", data := .fields #[.ref l, .int 0 0] }).objs.size = s.heap.objs.size + 1 := Heap.size_push ..
  show _ ∧ _
  rw [hz]
  have he : IsEnum ((s.heap.push { cls := .type "tuple_iterator", data := .fields #[.ref l, .int 0 0] }).push
      { cls := .type "enumerate", data := .fields #[.none, .bool false, .ref s.heap.objs.size, rawInt 0, .none, .none] }) (s.heap.objs.size + 1) s.heap.objs.size 0 .none := by
    have := Heap.get?_push_size (s.heap.push { cls := .type "tuple_iterator", data := .fields #[.ref l, .int 0 0] })
      (o := { cls := .type "enumerate", data := .fields #[.none, .bool false, .ref s.heap.objs.size, rawInt 0, .none, .none] }) rfl
    rw [hz] at this; exact this
  refine ⟨⟨_, he, rfl⟩, h _ he ⟨_, Heap.get?_push_of_some _ (Heap.get?_push_size _ rfl), rfl, rfl⟩ (by rw [Heap.size_push, hz]) fun b o x => Heap.get?_push_of_some _ (Heap.get?_push_of_some _ x)⟩
end PySem
namespace Bw
open PySem PySem.Spec PyProof.Rows L2
def IteT (K : PySem.W.Frag) (a : Addr) : It :=
  ⟨fun i H => ∃ (xs : List V) (x : V), SqT K H a xs ∧ xs[i]? = some x, fun i H v H' => ∃ T x, v = .ref T ∧ H T = none ∧ H' = upd H T (.tup [.int (i : Nat), x]) ∧ ∀ xs, SqT K H a xs → xs[i]? = some x, fun i H => ∃ xs : List V, SqT K H a xs ∧ xs.length ≤ i⟩
theorem turn_enumT {P : Program} {w : World} {K : PySem.W.Frag} {elts : List Expr} {kk : Nat} {tpos : Pos} (a e it : Addr) (hait : a ≠ it) (hea : e ≠ a) :
    Turn P w K (.Tuple elts kk tpos) (IteT K a) [e, it] e (fun i h => (∃ old, IsEnum h e it ((i : Nat) : Int) old) ∧ h.IsTupleIter it a i ∧ e ≠ it) where
  mem := by simp
  obj := fun i h st b hb => by
    obtain ⟨⟨old, he⟩, ⟨o, ho, hc, hd⟩, _⟩ := st
    have e' : b = e ∨ b = it := by simpa using hb
    rcases e' with z | z
    · rw [z]; exact ⟨_, he, fun v q => nomatch q⟩
    · rw [z]; exact ⟨o, ho, fun v q => by rw [hd] at q; cases q⟩
  keep := fun i h h' st k => let ⟨⟨old, he⟩, hi, hne⟩ := st; ⟨⟨old, k e (by simp) _ he⟩, hi.at fun o q => k it (by simp) o q, hne⟩
  item := by
    intro X hP hw hK hc i pins s σ H E I hf st hg
    subst hP hw hK
    obtain ⟨⟨old, he⟩, hit, hne⟩ := st
    obtain ⟨xs, x, hq, hx⟩ := hg
    obtain ⟨its, rv, p, hz⟩ := I.tuple hq
    obtain ⟨u, hu, ru⟩ := rv.get hx
    have hel : e < s.heap.objs.size := Heap.lt_size he
    have hil : it < s.heap.objs.size := by obtain ⟨_, q, _⟩ := hit; exact Heap.lt_size q
    have hiu : its.toArray[i]? = some u := by simpa using hu
    have hlt : i < its.toArray.size := (Array.getElem?_eq_some_iff.mp hiu).1
    refine wpAny_pyNext_enum_itemD (Draws.tuple (A := X.A.in1) (I.ok.hd hc) it a hait its.toArray) he ⟨hit, p⟩ hlt hne (by simp [hne, hea]) fun u' h' tk hP ho st' hT hsz hk => ?_
    have eu : u' = u := Option.some.inj (hP.symm.trans hiu)
    subst eu
    obtain ⟨hit', _⟩ := st'
    refine ⟨_, rfl, wpAny_letOwnedTupleGo_enum (s := { s with heap := h', toks := tk + 1 }) ho fun h'' he' sb => ?_⟩
    have hT2 : h''.get? s.heap.objs.size = some { cls := .type "tuple", data := .seq #[.int i tk, u'] } := (sb.2 _ (Nat.ne_of_gt hel)).trans hT
    have new : ObjOk X.prog X.w (upd H s.heap.objs.size (.tup [.int (i : Nat), x])) h'' s.heap.objs.size (.tup [.int (i : Nat), x]) :=
      ⟨by show 2 ≤ sizeLine; decide, [.int i tk, u'], .cons ⟨_, rfl⟩ (.cons ru .nil), ⟨_, hT2, rfl, _, rfl⟩⟩
    have I1 : L2.Inv X pins σ (upd H s.heap.objs.size (.tup [.int (i : Nat), x])) { s with heap := h'', toks := tk + 1 } :=
      I.turnedNew (ch := [e, it]) (fun b ob hb q => (sb.2 b (fun z => hb (by simp [z]))).trans (hk b ob (fun z => hb (by simp [z])) (fun z => hb (by simp [z])) q)) hf (Nat.le_refl _) new
    refine ⟨.ref s.heap.objs.size, _, I1, rfl, ⟨_, x, rfl, I.hok.fresh (Nat.le_refl _), rfl, fun ys hy => by rw [I.tuple_inj hy hq]; exact hx⟩, ⟨⟨u', ?_⟩, hit'.at fun o q => (sb.2 it (Ne.symm hne)).trans q, hne⟩, fun b hb => ?_⟩
    · have e1 : ((i + 1 : Nat) : Int) = (i : Int) + 1 := by omega
      rw [e1]; exact he'
    · have hb' : b < s.heap.objs.size := by
        have e' : b = e ∨ b = it := by simpa using hb
        rcases e' with z | z
        · rw [z]; exact hel
        · rw [z]; exact hil
      rw [upd_ne (Nat.ne_of_lt hb')]
      exact (hf b hb).1
  done := by
    intro X hP hw hK hc i pins s σ H E I hf st hg
    subst hP hw hK
    obtain ⟨⟨old, he⟩, hit, hne⟩ := st
    obtain ⟨xs, hq, hx⟩ := hg
    obtain ⟨its, rv, p, hz⟩ := I.tuple hq
    obtain ⟨f0, f1, f2, f3, f4, f5⟩ := hf it (by simp)
    have hl := rv.length
    have hT : s.TypeIs (.ref e) "enumerate" := ⟨_, he, rfl⟩
    unfold pyNext
    refine wpAny_bind (wpAny_attempt (wpAny_callSpecial?_slot (name := Str.ofString "__next__") hT F.slot_enumerate_next
      (wpAny_call_entry F.slot_enumerate_next hT F.entry_enumerate_next ?_ (F.args_enumerate_next_1 _))))
    show wpAny _ _ (field (.ref e) 2 >>= _) _ _ _
    refine wpAny_bind (wpAny_field he rfl (x := .ref it) rfl ?_)
    refine wpAny_bind (wpAny_nextOf_tuple_end (A := X.A.in1) (I.ok.hd hc) hit p (by simp; omega) fun h' x he' hx' => ?_)
    obtain ⟨o, ho, hc'⟩ := hx'
    refine wpAny_bind (wpAny_isInstance (T := "StopIteration") (b := true) ⟨o, ho, hc'⟩ isSubtype_stop ?_)
    exact wpAny_pure ⟨rfl, I.turned (t' := s.toks) (fun b o hb q => he' b o hb q) f0 f1 f3 f4 f5⟩
  self := fun A i s Q E st h => let ⟨⟨_, he⟩, _⟩ := st; wpAny_pyIter_enum he h
def iEnumT (K : PySem.W.Frag) (ta : TA) : TI := fun σ H R => ta σ H fun vs H1 => ∃ a xs, vs = [.ref a] ∧ SqT K H1 a xs ∧ R (IteT K a) H1
theorem p_enumT {X : Cx} {K : PySem.W.Frag} {e : Expr} {ta : TA} {p pos tpos : Pos} {elts : List Expr} {kk : Nat} (hg : Gl X "enumerate") (hm : X.mg "enumerate" = none) (ha : PA X [e] ta) (hK : X.K = K := by rfl) (hs : starEach [e] X.env = [(false, eval e X.env)] := by rfl) :
    PI X (.Tuple elts kk tpos) (.Call (.Name "enumerate" p) [e] [] pos) (iEnumT K ta) := by
  subst hK
  refine ⟨fun pins s σ H R I h => ?_⟩
  refine Call_ (ld_blt I hg hm boot_enumerate (PyProof.Rows.callWith_type1 (thn (ha.run pos pins s σ H _ I h) fun us s1 ⟨vs, H1, I1, r1, q1⟩ => ?_) hs rfl))
  obtain ⟨a, xs, ex, hq, q⟩ := q1
  subst ex
  cases r1 with
  | cons r rr =>
    cases rr
    cases r
    obtain ⟨its, rv, p', hz⟩ := I1.tuple hq
    have hal : a < s1.heap.objs.size := by obtain ⟨_, e, _⟩ := p'; exact Heap.lt_size e
    refine call_enumerate_tu p' fun h' he hit hsz hk => wpAny_pyIter_enum he ?_
    have I2 : L2.Inv X pins σ H1 { s1 with heap := h' } := I1.kept (t' := s1.toks) hk
    refine ⟨s1.heap.objs.size + 1, [s1.heap.objs.size + 1, s1.heap.objs.size], _, _, H1, rfl, I2, turn_enumT a (s1.heap.objs.size + 1) s1.heap.objs.size (Nat.ne_of_lt hal) (Nat.ne_of_gt (Nat.lt_succ_of_lt hal)), ⟨⟨.none, he⟩, hit, Nat.succ_ne_self _⟩, fun b hb => ?_, q⟩
    have e' : b = s1.heap.objs.size + 1 ∨ b = s1.heap.objs.size := by simpa using hb
    have hle : s1.heap.objs.size ≤ b := by
      rcases e' with z | z
      · rw [z]; exact Nat.le_add_right _ _
      · rw [z]; exact Nat.le_refl _
    exact I1.fpOk hle (I1.hok.fresh hle)
theorem walk_enumT {K : PySem.W.Frag} {a : Addr} {xs : List V} : Walk (IteT K a) xs.length (fun H => SqT K H a xs) (YPair (fun i => some (.int (i : Nat))) (fun i => xs[i]?)) := by
  refine ⟨fun i _ hi q => ⟨xs, xs[i], q, by simp [hi]⟩, fun _ q => ⟨xs, q, Nat.le_refl _⟩, fun i H v H' _ q y => ?_⟩
  obtain ⟨T, x, h1, h2, h3, h4⟩ := y
  exact ⟨T, .int (i : Nat), x, h1, h2, h3, rfl, h4 xs q⟩
end Bw
set_option Elab.async false
set_option linter.all false
set_option maxRecDepth 100000
set_option maxHeartbeats 4000000
namespace Bw
open PySem PySem.Spec PyProof.Rows L2 LamX
/-! ### try: .. except x as n: .. and more clauses, where the first one takes whatever is raised -/
def wAs1 (K : PySem.W.Frag) (c : Value) (i : Nat) (ts : Addr → Value → Option Addr → TS) (D : Ends) : WX := fun cls d σ H =>
  PySem.W.exmOne K cls c = some true ∧ ∀ a, H a = none → ts a cls d { nx := fun σ' H' => D.nx (σ'.set i none) H', rt := D.rt, bk := fun σ' H' => D.bk (σ'.set i none) H', ct := fun σ' H' => D.ct (σ'.set i none) H' } (σ.set i (some (.ref a))) H
theorem ps_try_as1 {X : Cx} {x n : Str} {c : Value} {i : Nat} {body suite : List Stmt} {b₀ : Stmt} {np pos pos' : Pos} {tb : WX → TS} {ts : Addr → Value → Option Addr → TS} {hds : List ExceptHandler} (hs : X.stack = X.env :: X.outer) (hf : X.env.frame = some X.env.locals) (hN : X.N.Nodup) (hi : X.N[i]? = some n) (hln : X.env.kindOf n = some .local) (hc : Names X x c)
    (hb : ∀ (W : WX) (pn : List (Addr × Obj)) (xe : Value → Shared → Prop), Takes (X.tr pn xe) W → PassesOwn (model X.prog X.w) X.A X.env xe → PSs (X.tr pn xe) body (tb W))
    (hsu : ∀ (a : Addr) (oe : Obj) (cls : Value) (d : Option Addr) (pn : List (Addr × Obj)), Zc cls d oe → (∃ vs, oe.data = .fields vs) → PSs (X.suite a ((a, oe) :: pn)) (b₀ :: suite) (ts a cls d)) :
    PS X (.Try body (.ExceptHandler (some (.Name x np)) (some n) (b₀ :: suite) pos' :: hds) [] [] pos) (fun D σ H => tb (wAs1 X.K c i ts D) D σ H) := by
  refine ⟨fun pins s σ H D I h => ?_⟩
  have ok := I.ok
  have hfr : X.A.frames = some (X.env :: X.outer) := by rw [ok.frames, hs]
  have hloc : Loc X.env.scope n := .inl hln
  refine wpAny_Try_except ?_
  refine wpAny_mono ((hb (wAs1 X.K c i ts D) (X.pn ++ pins) (fun e s₁ => wpAny (model X.prog X.w) X.A (noteFrame e X.env) (fun _ s₂ => wpAny (model X.prog X.w) X.A (setFlight e none) (fun _ s₃ => wpAny (model X.prog X.w) X.A (handleBy e X.env (.ExceptHandler (some (.Name x np)) (some n) (b₀ :: suite) pos' :: hds)) (SP X pins D) X.xe s₃) X.xe s₂) X.xe s₁) (fun u s' xx => ?_) PassesOwn.looking).run [] s σ H D (I.toTry _) h) (fun f s1 hsp => ?_) (fun e s1 he => he)
  · obtain ⟨a, B, sI, pins', σ', H', cls, d, rfl, J', nb, up, sky, na, os, ag, hb1, hyes⟩ := xx
    have J : L2.Inv X pins σ' H' sI := J'.ofTry ok
    have sky' : Sky B (X.env :: X.outer) a (Zc cls d) X.env.locals s'.heap := by rw [← hs]; exact sky
    show wpAny (model X.prog X.w) X.A (noteFrame (.ref a) X.env) _ _ _
    refine Sky.land Zc.steady hfr hf sky' fun h3 fl3 up3 => ?_
    have J3 : L2.Inv X pins σ' H' { s' with heap := h3 } := J.landed nb fl3.1 (up.trans up3) os ag
    obtain ⟨oe3, vs3, he3, hz3, hd3⟩ := fl3.there
    have nfr : a ∉ frs (X.env :: X.outer) := fun hm => by
      obtain ⟨_, o', e', hnf⟩ := fl3.2.2.1.mem hm
      rw [he3] at e'; cases e'
      exact hnf _ hd3
    have nL : a ≠ X.env.locals := fun z => nfr (List.mem_filterMap.mpr ⟨X.env, List.mem_cons_self, by rw [hf, z]⟩)
    have nF : a ∉ X.fs := fun hm => by
      obtain ⟨e, he, q⟩ := List.mem_filterMap.mp hm
      exact nfr (List.mem_filterMap.mpr ⟨e, List.mem_cons_of_mem _ he, q⟩)
    have S3 := J3.suite he3 hd3 na nL nF
    refine wpAny_handleBy_cons (codeAny_handlers_test ?_) (by intro q; cases q)
    have LT : PySem.W.Looks (model X.prog X.w) h3 (typeOf (.ref a)) cls := fun A Q E s k q => wpAny_typeOf_ref (k _ _ he3) (by rw [hz3.1]; exact q)
    have LM := PySem.W.exm_one (M := model X.prog X.w) (J3.kIn) LT hb1
    have test : ∀ {Q : Value → Shared → Prop} {E : Value → Shared → Prop}, Q c { s' with heap := h3 } → wpAny (model X.prog X.w) (X.A.mark (some (.ref a))) (eval (.Name x np) X.env) Q E { s' with heap := h3 } := fun {Q E} q => by
      obtain ⟨hg, hdbg, hm | ⟨hm, hv, hnn⟩⟩ := hc
      · exact ld_glob (X := X.suite a ((a, oe3) :: (X.pn ++ pins))) S3 hg hm q hdbg
      · exact ld_blt (X := X.suite a ((a, oe3) :: (X.pn ++ pins))) S3 hg hm hv q hnn hdbg
    refine test (LM.here ?_)
    refine codeAny_handlers_suite_as ?_
    refine HandSPX.lands_againZ fl3 fun h4 fl4 up4 => ?_
    have J4 : L2.Inv X pins σ' H' { s' with heap := h4 } := J.landed nb fl4.1 ((up.trans up3).trans up4) os ag
    obtain ⟨oe4, vs4, he4, hz4, hd4⟩ := fl4.there
    have S4 := J4.suite he4 hd4 na nL nF
    refine store_ok (X := X.suite a ((a, oe4) :: (X.pn ++ pins))) (v := .ref a) S4 hN hi hloc rfl (fun s5 S5 => ?_) (.inr hln)
    refine wpAny_mono ((hsu a oe4 cls d (X.pn ++ pins) hz4 ⟨_, hd4⟩).run [] s5 _ H' _ S5 (hyes a na)) (fun f s6 hsp => ?_) (fun _ _ z => False.elim z)
    have end_ : ∀ {σ6 : L2.St} {H6 : Hp} {Q : Shared → Prop}, L2.Inv (X.suite a ((a, oe4) :: (X.pn ++ pins))) [] σ6 H6 s6 → (∀ s7, L2.Inv X pins (σ6.set i none) H6 s7 → Q s7) → wpAny (model X.prog X.w) X.A (do bindName X.env n .none; unbindBehindTheSuite X.env n pos') (fun _ s7 => Q s7) X.xe s6 := fun {σ6 H6 Q} S6 hq => gone_ok (S6.unsuite ok) hN hi hln hq
    cases f with
    | next => exact let ⟨σ6, H6, S6, q6⟩ := hsp; end_ S6 fun s7 J7 => ⟨_, _, J7, q6⟩
    | brk => exact let ⟨σ6, H6, S6, q6⟩ := hsp; end_ S6 fun s7 J7 => ⟨_, _, J7, q6⟩
    | cont => exact let ⟨σ6, H6, S6, q6⟩ := hsp; end_ S6 fun s7 J7 => ⟨_, _, J7, q6⟩
    | ret u => exact let ⟨v6, σ6, H6, S6, r6, q6⟩ := hsp; end_ S6 fun s7 J7 => ⟨_, _, _, J7, r6, q6⟩
  · cases f with
    | next => exact let ⟨σ', H', J', q⟩ := hsp; wpAny_execs_nil ⟨σ', H', J'.ofTry ok, q⟩
    | brk => exact let ⟨σ', H', J', q⟩ := hsp; ⟨σ', H', J'.ofTry ok, q⟩
    | cont => exact let ⟨σ', H', J', q⟩ := hsp; ⟨σ', H', J'.ofTry ok, q⟩
    | ret u => exact let ⟨v, σ', H', J', r, q⟩ := hsp; ⟨v, σ', H', J'.ofTry ok, r, q⟩
/-! ### e.n of a caught error whose class is known only then -/
def tXfD (K : PySem.W.Frag) (a : Addr) (cls : Value) (d : Option Addr) (n : Str) (i : Nat) : TE := fun σ H Q => σ[i]? = some (some (.ref a)) ∧ ∃ (C dd : Addr) (fs : List (Str × V)) (v : V), cls = .ref C ∧ XfC K C ∧ PySem.W.findIn K (.ref C) n = some none ∧ d = some dd ∧ H dd = some (.xd fs) ∧ fs.lookup n = some v ∧ Q v H
theorem pe_xfD {X : Cx} {a : Addr} {oe : Obj} {cls : Value} {d : Option Addr} {pn : List (Addr × Obj)} {e : Expr} {i : Nat} {pos : Pos} {n : Str} (hz : Zc cls d oe) (hf : ∃ vs, oe.data = .fields vs) (he : PE (X.suite a ((a, oe) :: pn)) e (tVar i)) (hb : attributeBase e n X.env (eval e X.env) = eval e X.env := by rfl) :
    PE (X.suite a ((a, oe) :: pn)) (.Attribute e n pos) (tXfD X.K a cls d n i) := by
  refine ⟨fun pins s σ H Q I h => ?_⟩
  obtain ⟨h1, C, dd, fs, v, rfl, T, hno, rfl, h2, h3, q⟩ := h
  exact (pe_xf T hno hz hf he hb).run pins s σ H Q I ⟨.ref a, h1, rfl, rfl, dd, fs, v, rfl, h2, h3, q⟩
/-! ### the word of a refusal, or none -/
/-- an error that a call may let out, with its word -/
def ErrAt (K : PySem.W.Frag) (CB : Addr) (cls : Value) (d : Option Addr) (H : Hp) (v : V) : Prop := ∃ (C dd : Addr) (fs : List (Str × V)), cls = .ref C ∧ d = some dd ∧ PySem.W.exmOne K (.ref C) (.ref CB) = some true ∧ XfC K C ∧ PySem.W.findIn K (.ref C) "word" = some none ∧ H dd = some (.xd fs) ∧ fs.lookup ("word" : Str) = some v
def TWord (K : PySem.W.Frag) (CB : Addr) : (XK → Hp → VK → Prop) → Hp → VK → Prop := fun tl H Q => tl (fun cls d H' => ∃ v, ErrAt K CB cls d H' v ∧ Q v H') H (fun _ H' => Q (.str "") H')
theorem takes_len {X : Cx} {W : WX} (tk : Takes X W) : Takes X (fun cls d σ H => σ.length = X.N.length → W cls d σ H) := fun u s' xx => by
  obtain ⟨a, B, sI, pins', σ', H', cls, d, rfl, J', nb, up, sky, na, os, ag, hw⟩ := xx
  exact tk _ _ ⟨a, B, sI, pins', σ', H', cls, d, rfl, J', nb, up, sky, na, os, ag, hw J'.len⟩
theorem word_gives {X : Cx} {Ng : List Str} {x a q : Str} {sg : Scope} {g CB : Addr} {cdg : Value} {j : Nat} {h2 : ExceptHandler} {p1 p2 p3 p4 p5 p6 p7 p8 p9 p10 p11 : Pos} (hge : sg.names.lookup ("BudError" : Str) = some .globalImplicit) (hme : X.mg "BudError" = some (.ref CB)) (hNd : Ng.Nodup) (hN1 : Ng[1]? = some ("e" : Str)) (hk : sg.names.lookup ("e" : Str) = some .local)
    (h0 : ∀ f : Addr, (L2.start Ng [V.ref f])[0]? = some (some (V.ref f))) :
    GivesTo X Ng x sg g cdg [.Try [.Expr (.Call (.Name a p1) [] [] p2) p3] [.ExceptHandler (some (.Name "BudError" p4)) (some "e") [.Return (some (.Attribute (.Name "e" p5) "word" p6)) p7] p8, h2] [] [] p9, .Return (some (.Constant (.str "") j p10)) p11] a q (TWord X.K CB) := by
  intro f c' s H Q tl act hc h
  have hgl : Gl (cxOf C8.CX0 X.prog X.w X.K X.mg X.base Ng x sg g cdg X.A X.stack s H C8.E0).nox "BudError" := hge
  refine ⟨_, pss_cons (ps_try_as1 (X := (cxOf C8.CX0 X.prog X.w X.K X.mg X.base Ng x sg g cdg X.A X.stack s H C8.E0).nox) (c := .ref CB) (i := 1)
      (tb := fun W D σ H => ∃ Ech : XK, (∀ cls d σ' H', Ech cls d H' → σ'.length = Ng.length → W cls d σ' H') ∧ σ[0]? = some (some (.ref f)) ∧ H c' = some (CodeO c' q) ∧ tl Ech H fun _ H' => D.nx σ H')
      (ts := fun a cls d => tRet (tXfD X.K a cls d "word" 1)) rfl rfl hNd hN1 hk ⟨hgl, by decide, .inl hme⟩ (fun W pn xe tk _ => ?_) (fun b oe cls d pn hz hf => pss_one (ps_ret (pe_xfD hz hf (pe_var hN1 (.inl hk)))))) (pss_one (ps_ret pe_str)), ?_⟩
  · refine ⟨fun pins s' σ H' D I h' => ?_⟩
    obtain ⟨Ech, hW, h1, h2, h3⟩ := h'
    have hp := act _ pn xe Ech p1 p2 (takes_len tk) hW
    have hq := pss_one (ps_expr (pos := p3) hp)
    exact hq.run pins s' σ H' D I ⟨h1, h2, h3⟩
  · refine ⟨fun cls d H' => ∃ v, ErrAt X.K CB cls d H' v ∧ Q v H', fun cls d σ' H' hE hl => ?_, h0 f, hc, h⟩
    obtain ⟨v, ⟨C, dd, fs, rfl, rfl, e1, e2, e3, e4, e5⟩, hQ⟩ := hE
    refine ⟨e1, fun b _ => ⟨?_, C, dd, fs, v, rfl, e2, e3, rfl, e4, e5, hQ⟩⟩
    have : 1 < σ'.length := by
      rw [hl]
      exact (List.getElem?_eq_some_iff.mp hN1).1
    rw [List.getElem?_set_self this]
end Bw
set_option Elab.async false
set_option linter.all false
set_option maxRecDepth 100000
set_option maxHeartbeats 4000000
namespace Bw
open PySem PySem.Spec PyProof.Rows L2
theorem made_same {H : Hp} {C x dx : Addr} (x0 : H x = none) (dx0 : H dx = none) (n : dx ≠ x) : Same H (upd (upd H dx (.own x)) x (.ins C dx [])) := (same_upd dx0).trans (same_upd (by rw [upd_ne (Ne.symm n)]; exact x0))
theorem seqIx {u : Int} {n : Nat} (h0 : 0 ≤ u) (h1 : u < n) : seqIndex? u n = some u.toNat := by
  unfold seqIndex?
  simp only [show ¬ u < 0 by omega, if_false]
  rw [if_pos]
  simp only [Bool.and_eq_true, decide_eq_true_eq]
  exact ⟨h0, h1⟩
theorem erase_perm {α : Type} : ∀ {l : List α} {k : Nat} (h : k < l.length), (l[k] :: l.eraseIdx k).Perm l
  | a :: l, 0, _ => List.Perm.refl _
  | a :: l, k + 1, h => by
    have hk : k < l.length := Nat.lt_of_succ_lt_succ h
    have ih := erase_perm (l := l) (k := k) hk
    show (l[k] :: a :: l.eraseIdx k).Perm (a :: l)
    exact (List.Perm.swap a _ _).trans (ih.cons a)
def vref : V → Addr
  | .ref a => a
  | _ => 0
theorem refs_perm {ys : List V} {ts : List Addr} (p : ys.Perm (ts.map V.ref)) : ∃ zs : List Addr, ys = zs.map V.ref ∧ ts.Perm zs := by
  refine ⟨ys.map vref, ?_, ?_⟩
  · rw [List.map_map]
    have : ∀ y ∈ ys, (V.ref ∘ vref) y = y := fun y hy => by
      obtain ⟨t, _, rfl⟩ := List.mem_map.mp (p.mem_iff.mp hy)
      rfl
    exact ((List.map_congr_left this).trans (List.map_id' ys)).symm
  · have := (p.map vref).symm
    rw [List.map_map] at this
    have e : ts.map (vref ∘ V.ref) = ts := List.map_id'' (fun _ => rfl) ts
    rw [e] at this
    exact this
structure CalD (P : Program) (w : World) (K : PySem.W.Frag) (mg : Str → Option Value) (base : Heap) (k : Nat) (x : Str) (ps : List Str) (d : V) (sp : Sp) : Prop where
  ex : ∃ (f : Addr) (fd : FuncData) (ds : List Value), FnOk P w K mg base CX0 k f fd ps sp ∧ mg x = some (.ref f) ∧ PySem.W.keepIn K (.ref f) = true ∧ Vals [d] ds ∧ Binds K fd ps ds
theorem pe_calD {X : Cx} {x : Str} {ps : List Str} {sp : Sp} {k : Nat} {d : V} {e : Expr} {es : List Expr} {p pos : Pos} {t : TA} (C : CalD X.prog X.w X.K X.mg X.base k x ps d sp) (hr : Room k X.A) (hg : Gl X x) (ha : PA X (e :: es) t) (hdb : (x == ("__debug__" : Str)) = false := by decide) (he : starEach (e :: es) X.env = (false, eval e X.env) :: starEach es X.env := by rfl)
    (hpl : (backTo pos (starEach es X.env)).any (·.1) = false := by rfl) : PE X (.Call (.Name x p) (e :: es) [] pos) (tCall sp [d] E0 t) := by
  obtain ⟨f, fd, ds, F, hm, hk, vd, hb⟩ := C.ex
  exact pe_call F hr hg hm hk hb vd pass0 ha hdb he hpl
section
variable {P : Program} {w : World} {K : PySem.W.Frag} {mg : Str → Option Value} {base : Heap} {C : Addr}
/-! ### a letter's powers -/
def byL (n : Nat) (k y : Int) : List Int := (List.range n).map fun (i : Nat) => if (i : Int) = k then y else 0
theorem byL_len (n : Nat) (k y : Int) : (byL n k y).length = n := by
  unfold byL
  rw [List.length_map, List.length_range]
theorem byL_succ (n : Nat) (k y : Int) : byL (n + 1) k y = byL n k y ++ [if (n : Int) = k then y else 0] := by
  unfold byL
  rw [List.range_succ, List.map_append]
  rfl
theorem lt_one {H : Hp} {t q : Addr} {p : List Int} {c : Int} (h1 : H t = some (.tup [.ref q, .int c])) (h2 : H q = some (.tup (p.map V.int))) : TermsAt H [t] [(p, c)] := by
  refine ⟨rfl, fun i a e => ?_⟩
  match i, e with
  | 0, e =>
    cases (Option.some.inj e)
    exact ⟨t, rfl, q, h1, h2⟩
  | i + 1, e => simp at e
abbrev s_letter : Stmt := topS 68
abbrev n_letter : List Str := ["width", "number", "by", "powers", "at"]
theorem sc_letter : FnScope n_letter ["width", "number", "by"] (defScope s_letter) := ⟨rfl, rfl, rfl, by decide +kernel, rfl, by decide +kernel, by decide +kernel⟩
def spLetter (C : Addr) : Sp := fun vs H Q _ => ∃ (n : Nat) (k y : Int), vs = [.int n, .int k, .int y] ∧ n ≤ 8 ∧ ∀ (c : Addr) (r : List Tm) (H' : Hp), Same H H' → SumAt C H' c n r → Cn (Lf [(byL n k y, 1)]) r → Q (.ref c) H'
theorem ok_letter {f : Addr} {fd : FuncData} {kws : List (Str × V)} (F : FunD K "letter" "letter" (defArgs s_letter) (defBody s_letter) (defScope s_letter) [] kws f fd) (T : Tx mg) (S : SumC K mg C) (M : MakS P w K mg base 2 C ["self", "width", "terms"] (spInit K C)) : FnOk P w K mg base CX0 4 f fd ["width", "number", "by"] (spLetter C) := by
  refine FunD.ok0 F sc_letter (fun vs H Q E h => ?_) (fun cdv A outer s H vs Q E hr h => ?_)
  · obtain ⟨n, k, y, rfl, _⟩ := h
    rfl
  · obtain ⟨n, k, y, rfl, hn, q⟩ := h
    refine ⟨_, (pss_cons (ps_set (i := 3) sc_letter.nd rfl (.inl rfl) (pe_callTy (c_tup (K := K)) (by rfl) T.tuple (by decide +kernel) (pa_cons (pe_lc (own := [("at", 4)]) (by rfl) sc_letter.nd (pi_range1 (by rfl) T.range (pa_cons (pv 0) pa_nil)) (blkOk_by (own := [("at", 4)]) (N := n_letter) (sc := defScope s_letter) (by decide +kernel)) (fun _ _ _ _ _ => (pg_name (i := 4) sc_letter.nd rfl (.inl rfl))) (fun _ _ _ _ _ => pts_nil) (fun _ _ _ _ _ => (pe_ifExp (pt_cmpR op_eq (pv 4) (pv 1) (nomark _)) (pv 2) pe_int))) pa_nil)))
  (pss_one (ps_ret (pe_mkS M hr (by rfl) (pa_cons (pv 0) (pa_cons (pe_lst (pa_cons (pe_tup (pa_cons (pv 3) (pa_cons pe_int pa_nil))) pa_nil)) pa_nil)))))), ?_⟩
    refine ⟨.int n, rfl, n, rfl, by omega, by omega, fun D eD => ?_⟩
    refine lc_range (fun j H' => H' D = some (.lst ((byL j k y).map V.int)) ∧ Same H H') ⟨upd_same, same_upd eD⟩ ?_ ?_
    · rintro j H1 hj ⟨e1, s1⟩
      have hj : j < n := hj
      refine ⟨rfl, .int (0 + j), rfl, .int k, rfl, rfl, _, rfl, ite2 (fun z => ?_) (fun z => ?_)⟩
      · have z : (j : Int) = k := by
          have := of_decide_eq_true z
          injection this with e
          omega
        refine ⟨.int y, rfl, _, e1, by rw [List.length_map, byL_len]; exact small1000 (by omega), ?_, Same.updN s1 eD⟩
        rw [upd_same, byL_succ, List.map_append, if_pos z]
        rfl
      · have z : ¬ (j : Int) = k := fun e => z (decide_eq_true (by rw [Int.zero_add, e]))
        refine ⟨_, e1, by rw [List.length_map, byL_len]; exact small1000 (by omega), ?_, Same.updN s1 eD⟩
        rw [upd_same, byL_succ, List.map_append, if_neg z]
        rfl
    · rintro H1 ⟨e1, s1⟩
      refine ⟨D, _, rfl, .inl ⟨SqL.of e1, fun p ep => ?_⟩⟩
      have sp := same_upd (o := .tup ((byL n k y).map V.int)) ep
      refine ⟨.int n, rfl, .ref p, rfl, by show 2 ≤ sizeLine; decide, fun t et => ⟨by show 1 ≤ sizeLine; decide, fun L eL => ?_⟩⟩
      have st := same_upd (o := .tup [.ref p, .int 1]) et
      have sL := same_upd (o := .lst [.ref t]) eL
      intro x dx x0 dx0 nxd
      have s2 := made_same (C := C) x0 dx0 nxd
      refine ⟨x, dx, L, [t], [(byL n k y, 1)], n, 1, true, rfl, upd_same, SqS.of (s2 _ _ upd_same), ((lt_one upd_same (st _ _ upd_same)).same sL).same s2, by show 1 ≤ 400; decide, fun a ha => ?_, fun r H2 sb hS cn z hl => ⟨rfl, ?_⟩⟩
      · rw [List.mem_singleton.mp ha]
        exact ⟨byL_len n k y, Nat.le_refl _⟩
      · exact q x r H2 ((((s1.trans sp).trans st).trans sL).trans (sb.same x0 s2)) hS cn
end
end Bw
set_option Elab.async false
set_option linter.all false
set_option maxRecDepth 100000
set_option maxHeartbeats 4000000
namespace Bw
open PySem PySem.Spec PyProof.Rows L2
section
variable {P : Program} {w : World} {K : PySem.W.Frag} {mg : Str → Option Value} {base : Heap}
abbrev s_unit_rows : Stmt := topS 49
abbrev n_unit_rows : List Str := ["many", "i", "j"]
theorem sc_unit_rows : FnScope n_unit_rows ["many"] (defScope s_unit_rows) := ⟨rfl, rfl, rfl, by decide +kernel, rfl, by decide +kernel, by decide +kernel⟩
def spURows : Sp := fun vs H Q _ => ∃ n : Nat, vs = [.int n] ∧ n ≤ 8 ∧ ∀ (b : Addr) (ts : List Addr) (H' : Hp), Same H H' → H' b = some (.tup (ts.map V.ref)) → RefsAt H' ts (uRows n) → ts.length = n → Q (.ref b) H'
theorem ok_urows {f : Addr} {fd : FuncData} {lv : Nat} (F : Fun K "unit_rows" "unit_rows" s_unit_rows f fd) (T : Tx mg) : FnOk P w K mg base CX0 (lv + 1) f fd ["many"] spURows := by
  refine F.ok sc_unit_rows (fun vs H Q E h => ?_) (fun cdv A outer s H2 vs Q E hr h => ?_)
  · obtain ⟨n, rfl, _⟩ := h
    rfl
  · obtain ⟨n, rfl, h4, q⟩ := h
    refine ⟨_, (pss_one (ps_ret (pe_callTy (c_tup (K := K)) (by rfl) T.tuple (by decide +kernel) (pa_cons (pe_lc (own := [("i", 1)]) (by rfl) sc_unit_rows.nd (pi_range1 (by rfl) T.range (pa_cons (pv 0) pa_nil)) (blkOk_by (own := [("i", 1)]) (N := n_unit_rows) (sc := defScope s_unit_rows) (by decide +kernel)) (fun _ _ _ _ _ => (pg_name (i := 1) sc_unit_rows.nd rfl (.inr rfl))) (fun _ _ _ _ _ => pts_nil) (fun _ _ _ _ _ => (pe_callTy (c_tup (K := K)) (by rfl) T.tuple (by decide +kernel) (pa_cons (pe_lc (own := [("j", 2)]) (by rfl) sc_unit_rows.nd (pi_range1 (by rfl) T.range (pa_cons (pv 0) pa_nil)) (blkOk_by (own := [("j", 2)]) (N := n_unit_rows) (sc := { kind := .function, names := [(".0", .local), ("i", .cell), ("tuple", .globalImplicit), ("range", .globalImplicit), ("many", .cell)], isGenerator := false, isCoroutine := false }) (by decide +kernel)) (fun _ _ _ _ _ => (pg_name (i := 2) sc_unit_rows.nd rfl (.inl rfl))) (fun _ _ _ _ _ => pts_nil) (fun _ _ _ _ _ => (pe_ifExp (pt_cmpR op_eq (pv 1) (pv 2) (nomark _)) pe_int pe_int))) pa_nil)))) pa_nil)))), ?_⟩
    refine ⟨.int n, rfl, n, rfl, by omega, by omega, fun D eD => ?_⟩
    refine lc_range (fun i H' => Acc H2 H' D (fun k => uRow n k) i) Acc.zero ?_ ?_
    · rintro i H3 hi hA
      have e0 : (0 : Int) + (i : Int) = (i : Int) := by omega
      rw [e0]
      refine ⟨rfl, .int n, rfl, n, rfl, by omega, by omega, fun D2 eD2 => ?_⟩
      refine lc_range (fun j H' => AccI H3 H' D2 (fun j => if i = j then 1 else 0) j) AccI.zero ?_ ?_
      · rintro j H4 hj hI
        have e1 : (0 : Int) + (j : Int) = (j : Int) := by omega
        rw [e1]
        refine ⟨rfl, .int i, rfl, .int j, rfl, rfl, _, rfl, ?_⟩
        by_cases e : i = j
        · subst e
          rw [decide_eq_true rfl]
          exact iteT (hI.next (.refl _) (by rw [if_pos rfl]) (by omega))
        · have d : decide (V.int (i : Int) = V.int (j : Int)) = false := decide_eq_false (fun z => e (by have := V.int.inj z; omega))
          rw [d]
          exact iteF (hI.next (.refl _) (by rw [if_neg e]) (by omega))
      · rintro H4 hI
        refine ⟨D2, _, rfl, .inl ⟨SqL.of hI.1, fun p hp => ?_⟩⟩
        exact hA.next (fun b o e => same_upd hp _ _ (hI.stay eD2 e)) (by rw [upd_same]; rfl) (by omega)
    · rintro H3 hA
      obtain ⟨ts, eD2, hR2⟩ := hA.get
      refine ⟨D, _, rfl, .inl ⟨SqL.of eD2, fun p hp => ?_⟩⟩
      have sp := same_upd (o := .tup (ts.map V.ref)) hp
      have lts : ts.length = n := by
        rw [hR2.1, List.length_map, List.length_range]
        exact Int.toNat_natCast n
      exact q p ts _ (fun b o e => sp _ _ (hA.stay eD e)) upd_same (hR2.same sp) lts
end
end Bw
set_option Elab.async false
set_option linter.all false
set_option maxRecDepth 100000
set_option maxHeartbeats 4000000
namespace Bw
open PySem PySem.Spec PyProof.Rows L2
/-! ### turning: even tables stay even, twice is none -/
theorem sgn_pair {c d x y : Int} (hc : 0 < c) (hd : 0 < d) (e : c * x = -(d * y)) : (0 < x ↔ y < 0) ∧ (x < 0 ↔ 0 < y) := by
  rcases pair_math hc hd e with ⟨rfl, rfl⟩ | h
  · exact ⟨⟨fun h => by omega, fun h => by omega⟩, ⟨fun h => by omega, fun h => by omega⟩⟩
  · have n1 : 0 < x → y < 0 := fun hx => by
      rcases Int.lt_or_le y 0 with g | g
      · exact g
      · have := Int.mul_nonneg (Int.le_of_lt hx) g
        omega
    have n2 : x < 0 → 0 < y := fun hx => by
      rcases Int.lt_or_le 0 y with g | g
      · exact g
      · have := Int.mul_nonneg_of_nonpos_of_nonpos (Int.le_of_lt hx) g
        omega
    have x0 : x ≠ 0 := fun z => by
      rw [z, Int.zero_mul] at h
      omega
    refine ⟨⟨n1, fun hy => ?_⟩, ⟨n2, fun hy => ?_⟩⟩
    · rcases Int.lt_trichotomy x 0 with g | g | g
      · have := n2 g
        omega
      · exact absurd g x0
      · exact g
    · rcases Int.lt_trichotomy x 0 with g | g | g
      · exact g
      · exact absurd g x0
      · have := n1 g
        omega
theorem turn_even {di dj dk x x' y y' z z' : Int} (hi : 0 < di) (hj : 0 < dj) (hk : 0 < dk) (e1 : di * x = -(dk * x')) (e2 : dk * y = -(dj * y')) (e3 : di * z = -(dj * z')) :
    di * (if 0 < x ∧ 0 < y then z + x * y else if x < 0 ∧ y < 0 then z - x * y else z) = -(dj * (if 0 < y' ∧ 0 < x' then z' + y' * x' else if y' < 0 ∧ x' < 0 then z' - y' * x' else z')) := by
  obtain ⟨a1, a2⟩ := sgn_pair hi hk e1
  obtain ⟨b1, b2⟩ := sgn_pair hk hj e2
  have key : di * (x * y) = dj * (y' * x') := by
    have h1 : di * (x * y) = (di * x) * y := (Int.mul_assoc ..).symm
    rw [h1, e1, Int.neg_mul, Int.mul_comm dk x', Int.mul_assoc, e2, Int.mul_neg, Int.neg_neg]
    rw [Int.mul_left_comm, Int.mul_comm x' y']
  by_cases h1 : 0 < x ∧ 0 < y
  · have g1 : ¬ (0 < y' ∧ 0 < x') := fun g => by
      have := a1.mp h1.1
      omega
    have g2 : y' < 0 ∧ x' < 0 := ⟨b1.mp h1.2, a1.mp h1.1⟩
    rw [if_pos h1, if_neg g1, if_pos g2, Int.mul_add, Int.mul_sub, e3, key]
    omega
  · rw [if_neg h1]
    by_cases h2 : x < 0 ∧ y < 0
    · have g1 : 0 < y' ∧ 0 < x' := ⟨b2.mp h2.2, a2.mp h2.1⟩
      rw [if_pos h2, if_pos g1, Int.mul_sub, Int.mul_add, e3, key]
      omega
    · have g1 : ¬ (0 < y' ∧ 0 < x') := fun g => h2 ⟨a2.mpr g.2, b2.mpr g.1⟩
      have g2 : ¬ (y' < 0 ∧ x' < 0) := fun g => h1 ⟨a1.mpr g.2, b1.mpr g.1⟩
      rw [if_neg h2, if_neg g1, if_neg g2]
      exact e3
theorem turnE_even {B : Nat → Nat → Int} {d : Nat → Int} {n k : Nat} (d0 : ∀ i, i < n → 0 < d i) (dv : ∀ i j, i < n → j < n → d i * B i j = -(d j * B j i)) (hk : k < n) {i j : Nat} (hi : i < n) (hj : j < n) :
    d i * turnE B k i j = -(d j * turnE B k j i) := by
  unfold turnE
  by_cases h : i = k ∨ j = k
  · rw [if_pos h, if_pos (show j = k ∨ i = k from h.symm), Int.mul_neg, Int.mul_neg, dv i j hi hj]
  · rw [if_neg h, if_neg (show ¬ (j = k ∨ i = k) from fun g => h g.symm)]
    exact turn_even (d0 i hi) (d0 j hj) (d0 k hk) (dv i k hi hk) (dv k j hk hj) (dv i j hi hj)
theorem TabOk.wd {rows : List (List Int)} {n : Nat} (O : TabOk rows n) : WdOk rows n := ⟨O.n1, O.n4, O.len, by have := O.len4; have := O.n4; omega, O.wide, O.tie⟩
theorem TabOk.turn {rows : List (List Int)} {n k : Nat} (O : TabOk rows n) (hk : k < n) (hf : fits rows n k) : TabOk (turnT rows n k) n := by
  have W := O.wd.turn hf
  obtain ⟨d, d0, dv⟩ := O.even
  have hl := O.len
  refine ⟨O.n1, O.n4, W.len, by rw [turnT_len]; exact O.len4, W.wide, W.tie, d, d0, fun i j hi hj => ?_⟩
  rw [turnT_ent (by omega) hj, turnT_ent (by omega) hi]
  exact turnE_even d0 dv hk hi hj
theorem rows_mat {rows : List (List Int)} {n : Nat} (w : ∀ r ∈ rows, r.length = n) : rows = (List.range rows.length).map fun i => matRow n (ent rows i) := by
  apply List.ext_getElem?
  intro i
  by_cases hi : i < rows.length
  · rw [List.getElem?_map, List.getElem?_range hi, List.getElem?_eq_getElem hi]
    have hw := w _ (List.getElem_mem hi)
    show some rows[i] = some (matRow n (ent rows i))
    congr 1
    apply List.ext_getElem?
    intro j
    by_cases hj : j < n
    · rw [matRow_get hj]
      unfold ent
      rw [List.getD_eq_getElem?_getD (i := i), List.getElem?_eq_getElem hi]
      show rows[i][j]? = some (rows[i].getD j 0)
      rw [List.getD_eq_getElem?_getD, List.getElem?_eq_getElem (by rw [hw]; exact hj)]
      rfl
    · rw [List.getElem?_eq_none (by rw [hw]; omega), List.getElem?_eq_none (by rw [matRow_len]; omega)]
  · rw [List.getElem?_eq_none (by omega), List.getElem?_eq_none (by rw [List.length_map, List.length_range]; omega)]
theorem turnE_twice {B B' : Nat → Nat → Int} {k i j : Nat} (h1 : B' i j = turnE B k i j) (h2 : B' i k = -(B i k)) (h3 : B' k j = -(B k j)) : turnE B' k i j = B i j := by
  unfold turnE
  by_cases h : i = k ∨ j = k
  · rw [if_pos h, h1]
    unfold turnE
    rw [if_pos h, Int.neg_neg]
  · rw [if_neg h, h1, h2, h3]
    unfold turnE
    rw [if_neg h, Int.neg_mul_neg]
    generalize B i k = x
    generalize B k j = y
    by_cases g1 : 0 < x ∧ 0 < y
    · rw [if_pos g1, if_neg (by omega), if_pos (by omega)]
      omega
    · rw [if_neg g1]
      by_cases g2 : x < 0 ∧ y < 0
      · rw [if_pos g2, if_pos (by omega)]
        omega
      · rw [if_neg g2, if_neg (by omega), if_neg (by omega)]
theorem turnT_twice {rows : List (List Int)} {n k : Nat} (w : ∀ r ∈ rows, r.length = n) (hk : k < n) (hl : n ≤ rows.length) : turnT (turnT rows n k) n k = rows := by
  refine Eq.trans ?_ (rows_mat w).symm
  unfold turnT
  rw [List.length_map, List.length_range]
  refine List.map_congr_left fun i hi => ?_
  have hi := List.mem_range.mp hi
  unfold matRow
  refine List.map_congr_left fun j hj => ?_
  have hj := List.mem_range.mp hj
  have e := @turnT_ent rows n k
  unfold turnT matRow at e
  refine turnE_twice (e hi hj) ?_ ?_
  · rw [e hi hk]
    unfold turnE
    rw [if_pos (.inr rfl)]
  · rw [e (by omega) hj]
    unfold turnE
    rw [if_pos (.inl rfl)]
end Bw
set_option Elab.async false
set_option linter.all false
set_option maxRecDepth 100000
set_option maxHeartbeats 4000000
/-! ### own errors right over a built-in error other than ValueError -/
namespace Bw
open PySem PySem.Spec PyProof.Rows L2
section
open PySem.W PySem.Calls PySem.HandSPX Builtin Builtin.ObjectAttr
variable {prog : Program} {w : World} {A : Around} {R : Result → Shared → Prop} {hp : Heap} {g : Array GenState} {d : Drawn} {t : Nat} {os : OsState}
theorem osaB {K : W.Frag} {B : String} {tl : List Value} {name : Str} {tk : Tok} {v : Value} {x C : Addr} {ox : Obj} {od : Option Obj} {cd : ClassData} (SB : StoreFacts B tl "object.__setattr__" "object") (ob : tl.contains (.type "object") = true)
    (X : K.In hp) (I : W.InstAt hp x ox C od) (hcd : W.clsIn K C = some cd) (hm : cd.mro = .ref C :: tl) (ha : W.findIn K (.ref C) name = some none)
    (hq : wpAny (model prog w) A.in1 (storeInOwnDict (.ref x) (.ref C) (.str name tk) name v false) (fun fin s' => match fin with | .done f => R (.ok f) s' | .again c' => c'.quiet = true ∧ codeAny (model prog w) A c' R s') (fun e s' => R (.error e) s') ⟨hp, g, d, t, os⟩) : codeAny (model prog w) A (.call (.builtin "object.__setattr__") ⟨[.ref x, .str name tk, v], []⟩) R ⟨hp, g, d, t, os⟩ := by
  have has : (Value.ref C :: tl).contains (.type "object") = true := by rw [List.contains_cons, ob, Bool.or_true]
  have mi : W.mroIn K C (.type "object") = some true := by unfold W.mroIn; rw [hcd, Option.bind_some, hm, if_neg (show ¬ (List.isEmpty (Value.ref C :: tl) = true) from Bool.false_ne_true), has]
  refine codeAny_call_builtin PySem.F.store_object.slot.plain PySem.F.store_object.entry (@W.check_slot (model prog w) _ _ ⟨hp, g, d, t, os⟩ "object.__setattr__" "object" "__setattr__" (.ref x) [.str name tk, v] [] _ PySem.F.store_object.kind PySem.F.store_object.split (I.type.andThen (W.looks_mroIn X mi)) (PySem.F.store_object.args (.ref x) (.str name tk) v) ?_)
  have mr : W.Looks (model prog w) hp (mroOf (.ref C)) cd.mro := (W.looks_clsIn X hcd).andThen .now
  have noT : W.Looks (model prog w) hp (storeTaker? none) none := .now
  rw [W.osa_eq, refuse_eq]; refine wpAny_bind (wpAny_bind (I.type.at (wpAny_bind (mr.at ?_)))); rw [hm, refuseLoop_ref, SB.passes]
  exact wpAny_pure (wpAny_bind (I.type.at (wpAny_bind ((W.looks_findIn X ha).at (wpAny_bind (noT.at hq))))))
theorem osaB_new {K : W.Frag} {B : String} {tl : List Value} {name : Str} {tk : Tok} {v : Value} {x C : Addr} {fv : Array Value} {cd : ClassData} (SB : StoreFacts B tl "object.__setattr__" "object") (ob : tl.contains (.type "object") = true) (X : K.In hp) (hx : hp.get? x = some { cls := .ref C, data := .fields fv }) (hcd : W.clsIn K C = some cd) (hm : cd.mro = .ref C :: tl) (hh : cd.hasDict = true) (ha : W.findIn K (.ref C) name = some none)
    (hq : ∀ h' tk' dx, (∀ b o, b ≠ x → hp.get? b = some o → h'.get? b = some o) → hp.objs.size ≤ dx → dx ≠ x → h'.get? x = some { cls := .ref C, dict := some dx, data := .fields fv } → h'.Ns1 dx (fun y => if y = name then some v else none) → R (.ok (.ret .none)) ⟨h', g, d, tk', os⟩) : codeAny (model prog w) A (.call (.builtin "object.__setattr__") ⟨[.ref x, .str name tk, v], []⟩) R ⟨hp, g, d, t, os⟩ := by
  have xs : x ≠ hp.objs.size := Nat.ne_of_lt (Heap.lt_size hx)
  refine osaB SB ob X (ox := { cls := .ref C, data := .fields fv }) (od := none) ⟨hx, rfl, rfl, trivial⟩ hcd hm ha ?_
  have kl : W.Looks (model prog w) hp (classData C) cd := W.looks_clsIn X hcd
  obtain ⟨_, _, _, _, _, hd, _, _, _, _, _⟩ := cd; dsimp only at hh; subst hh; unfold storeInOwnDict ownDictForStores
  repeat (first | with_reducible refine HandSPX.store_in_new ?_ ?_ | with_reducible refine wpAny_loadPart_at hx ?_ | with_reducible refine kl.at ?_ | wp_step)
  · exact ⟨_, #[], _, (Heap.get?_update_ne _ _ _ _ xs.symm).trans (Heap.get?_push_at rfl rfl), rfl, fun e he => absurd he (by simp), fun _ => rfl⟩
  · intro h' tk' hn' hs
    have hx1 : (hp.push { cls := .type "dict", data := .dict #[] }).get? x = some { cls := .ref C, data := .fields fv } := Heap.get?_push_of_some _ hx
    exact hq h' tk' hp.objs.size (fun b o hb ho => (hs.2 b (Nat.ne_of_lt (Heap.lt_size ho))).trans ((Heap.get?_update_ne _ _ _ _ hb).trans (Heap.get?_push_of_some _ ho))) (Nat.le_refl _) xs.symm ((hs.2 x xs).trans (Heap.get?_update_self _ hx1 rfl)) hn'
theorem osaB_old {K : W.Frag} {B : String} {tl : List Value} {name : Str} {tk : Tok} {v : Value} {x C dx : Addr} {fv : Array Value} {cd : ClassData} {m0 : Str → Option Value} {nl : List Str} (SB : StoreFacts B tl "object.__setattr__" "object") (ob : tl.contains (.type "object") = true)
    (X : K.In hp) (hx : hp.get? x = some { cls := .ref C, dict := some dx, data := .fields fv }) (hns : hp.Ns1 dx m0) (hw : Within m0 nl) (hz : nl.length ≤ 1000) (hcd : W.clsIn K C = some cd) (hm : cd.mro = .ref C :: tl) (hh : cd.hasDict = true) (ha : W.findIn K (.ref C) name = some none)
    (hq : ∀ h' tk', (∀ b o, b ≠ dx → hp.get? b = some o → h'.get? b = some o) → h'.Ns1 dx (fun y => if y = name then some v else m0 y) → R (.ok (.ret .none)) ⟨h', g, d, tk', os⟩) : codeAny (model prog w) A (.call (.builtin "object.__setattr__") ⟨[.ref x, .str name tk, v], []⟩) R ⟨hp, g, d, t, os⟩ := by
  obtain ⟨oD, _, _, hoD, _, _⟩ := hns.count hw
  refine osaB SB ob X (ox := { cls := .ref C, dict := some dx, data := .fields fv }) (od := some oD) ⟨hx, rfl, rfl, hoD⟩ hcd hm ha ?_
  have kl : W.Looks (model prog w) hp (classData C) cd := W.looks_clsIn X hcd
  obtain ⟨_, _, _, _, _, hd, _, _, _, _, _⟩ := cd; dsimp only at hh; subst hh; unfold storeInOwnDict ownDictForStores
  repeat (first | with_reducible refine PySem.OEX.store_in_old hns hw hz ?_ | with_reducible refine wpAny_loadPart_at hx ?_ | with_reducible refine kl.at ?_ | wp_step)
  exact fun h' tk' hn' hs => hq h' tk' (fun b o hb ho => (hs.2 b hb).trans ho) hn'
end
/-- what the written part says of such a class -/
structure OexB (K : PySem.W.Frag) (C : Addr) (B nw ini : String) (tl : List Value) : Prop where
  cls : ∃ nm q N bs sn sub ab col dd k0 k1 k2 k3 k5, K.lookup C = some (excClassObj nm q C N bs tl true sn sub ab col dd k0 k1 k2 k3 k5 nw)
  fb : ExcBaseFacts B nw ini tl
  st : PySem.StoreFacts B tl "object.__setattr__" "object"
  ob : tl.contains (.type "object") = true
  sa : PySem.W.findIn K (.ref C) "__setattr__" = some (some (.builtin "object.__setattr__"))
  exC : PySem.W.subIn K (.ref C) (.type "BaseException") = some true
  tyC : PySem.W.typeIn K (.ref C) = some (.type "type")
  kC : PySem.W.keepIn K (.ref C) = true
section
variable {X : Cx} {pins : List (Addr × Obj)} {σ : L2.St} {H : Hp} {s : Shared} {a C dx : Addr} {f : Str} {y : V} {u : Value} {fs : List (Str × V)} {Q : Unit → Shared → Prop} {E : Value → Shared → Prop} {A : Around} {B nw ini : String} {tl : List Value}
theorem ostB_new (T : OexB X.K C B nw ini tl) (I : L2.Inv X pins σ H s) (e : H a = some (exo a C none)) (hno : PySem.W.findIn X.K (.ref C) f = some none) (ry : RelV y u) (h : ∀ dx s', H dx = none → dx ≠ a → L2.Inv X pins σ (upd (upd H dx (exd dx [(f, y)])) a (exo a C (some dx))) s' → Q () s') : wpAny (model X.prog X.w) A (setAttr (.ref a) f u) Q E s := by
  obtain ⟨nm, q, N, bs, sn, sub, ab, col, dd, k0, k1, k2, k3, k5, hC⟩ := T.cls
  have hcl : PySem.W.clsIn X.K C = some { name := nm, bases := bs, mro := .ref C :: tl, ns := N, qualname := q, hasDict := true, slotNames := sn, subclasses := sub, abstract := ab, collection := col, hasDel := false } := by unfold PySem.W.clsIn; rw [hC] <;> rfl
  obtain ⟨t1, ho⟩ := exo_at I.hok e; obtain ⟨hp, g, d, t, os⟩ := s
  refine PySem.W.set_plain I.kIn (ox := { cls := .ref C, dict := none, data := .fields #[.ref t1, .none, .none, .none, .bool false, .none] }) (od := none) ⟨ho, rfl, rfl, trivial⟩ T.sa (osaB_new T.st T.ob I.kIn ho hcl rfl rfl hno fun h' tk' dx k dn dne hx hn => ?_)
  have n0 : H dx = none := I.hok.fresh dn
  have nd : ∀ {b : Addr} {o : Obj}, hp.get? b = some o → b ≠ dx := fun {b o} q => Nat.ne_of_lt (Nat.lt_of_lt_of_le (Heap.lt_size q) dn)
  have na : ∀ {b : Addr}, H b = none → b ≠ a := fun {b} n z => by rw [z, e] at n; cases n
  have U : Un X.fs [] H (upd (upd H dx (exd dx [(f, y)])) a (exo a C (some dx))) hp h' := ⟨fun b o q n _ _ => k b o (na n) q, fun b o q n _ _ => ⟨o.slots, k b o (na n) q⟩, fun b o q n _ => by rw [upd_ne (na n), upd_ne (nd q)]; exact n,
    fun b o q _ => (Classical.em (b = a)).elim (fun hb => ⟨_, hb ▸ hx⟩) (fun hb => ⟨o, k b o hb q⟩), fun b xs q => by rw [upd_ne (at_ne e q exo_tup), upd_ne (ne_of_none q n0)]; exact q, fun b o v q => by rw [upd_ne (at_ne e q exo_frz), upd_ne (ne_of_none q n0)]; exact q, fun b ps q => ⟨#[], by rw [upd_ne (at_ne e q exo_tbl), upd_ne (ne_of_none q n0), q]; simp⟩⟩
  refine h dx _ n0 dne (I.un (t' := tk') U fun b o q => ?_)
  by_cases hb : b = a
  · subst hb; rw [upd_same] at q; cases q; exact exo_ok hx
  · rw [upd_ne hb] at q
    by_cases hd : b = dx
    · subst hd; rw [upd_same] at q; cases q; exact exd_ok hn (relO_put (fs := []) ry fun g => True.intro)
    · rw [upd_ne hd] at q
      exact (I.hok b o q).stay (fun c v hc z => k c v (hc.elim (fun hc => hc ▸ hb) (fun hc => at_ne e hc exo_own)) z) (fun c hc => by rw [upd_ne (at_ne e hc exo_own), upd_ne (ne_of_none hc n0)]; exact hc) (fun c xs hc => by rw [upd_ne (at_ne e hc exo_tup), upd_ne (ne_of_none hc n0)]; exact hc)
theorem ostB_old (T : OexB X.K C B nw ini tl) (I : L2.Inv X pins σ H s) (e : H a = some (exo a C (some dx))) (ed : H dx = some (exd dx fs)) (hl : fs.length ≤ 900) (hno : PySem.W.findIn X.K (.ref C) f = some none) (ry : RelV y u) (h : ∀ s', L2.Inv X pins σ (upd H dx (exd dx ((f, y) :: fs))) s' → Q () s') : wpAny (model X.prog X.w) A (setAttr (.ref a) f u) Q E s := by
  obtain ⟨nm, q, N, bs, sn, sub, ab, col, dd, k0, k1, k2, k3, k5, hC⟩ := T.cls
  have hcl : PySem.W.clsIn X.K C = some { name := nm, bases := bs, mro := .ref C :: tl, ns := N, qualname := q, hasDict := true, slotNames := sn, subclasses := sub, abstract := ab, collection := col, hasDel := false } := by unfold PySem.W.clsIn; rw [hC] <;> rfl
  obtain ⟨t1, ho⟩ := exo_at I.hok e; obtain ⟨mA, hns, rel⟩ := exd_at I.hok ed; have hw := within_of rel; obtain ⟨hp, g, d, t, os⟩ := s; obtain ⟨oD, _, _, hoD, _, _⟩ := hns.count hw
  refine PySem.W.set_plain I.kIn (ox := { cls := .ref C, dict := some dx, data := .fields #[.ref t1, .none, .none, .none, .bool false, .none] }) (od := some oD) ⟨ho, rfl, rfl, hoD⟩ T.sa (osaB_old T.st T.ob I.kIn ho hns hw (by rw [List.length_map]; omega) hcl rfl rfl hno fun h' tk' k hn => ?_)
  exact h _ (I.write (t' := tk') (x := dx) (e := dx) (o := exd dx ((f, y) :: fs)) (by rw [ed]; exact True.intro) (.inl rfl) k (by obtain ⟨o, _, _, e', _⟩ := hn; exact ⟨o, e'⟩) (exd_ok hn (relO_put ry rel)))
theorem oinitB {us : List Value} {Q : Value → Shared → Prop} (T : OexB X.K C B nw ini tl) (I : L2.Inv X pins σ H s) (e : H a = some (exo a C none)) (hl : us.length ≤ sizeLine) (h : ∀ s', L2.Inv X pins σ H s' → Q .none s') : wpAny (model X.prog X.w) A (call (.builtin ini) (.ref a :: us)) Q E s := by
  obtain ⟨nm, q, N, bs, sn, sub, ab, col, dd, k0, k1, k2, k3, k5, hC⟩ := T.cls
  obtain ⟨t1, ho⟩ := exo_at I.hok e; obtain ⟨hp, g, d, t, os⟩ := s
  refine wpAny_call (PySem.HandSPX.init_base T.fb (fun _ => rfl) (I.kIn _ _ hC) ho hl fun h' t2 k hx => ?_)
  have J := I.write (t' := t) (x := a) (e := a) (o := exo a C none) (by rw [e]; exact True.intro) (.inl rfl) k ⟨_, hx⟩ (exo_ok hx)
  have eu : upd H a (exo a C none) = H := funext fun b => if hb : b = a then by rw [hb, upd_same, e] else by rw [upd_ne hb]
  rw [eu] at J; exact h _ J
end
def tBeI (K : PySem.W.Frag) (B nw ini : String) (tl : List Value) (ta : TA) : TE := fun σ H Q => ta σ H fun vs H1 => ∃ (a C : Addr) (ws : List V), vs = .ref a :: ws ∧ ws.length ≤ 1000 ∧ OexB K C B nw ini tl ∧ H1 a = some (exo a C none) ∧ Q .non H1
def tOsB (K : PySem.W.Frag) (B nw ini : String) (tl : List Value) (f : Str) (to te : TE) : TS := fun D σ H => te σ H fun y H1 => to σ H1 fun x H2 => ∃ a C : Addr, x = .ref a ∧ OexB K C B nw ini tl ∧ PySem.W.findIn K (.ref C) f = some none ∧
  ((H2 a = some (exo a C none) ∧ ∀ dx, H2 dx = none → dx ≠ a → D.nx σ (upd (upd H2 dx (exd dx [(f, y)])) a (exo a C (some dx)))) ∨ ∃ (dx : Addr) (fs : List (Str × V)), H2 a = some (exo a C (some dx)) ∧ H2 dx = some (exd dx fs) ∧ fs.length ≤ 900 ∧ D.nx σ (upd H2 dx (exd dx ((f, y) :: fs))))
section
variable {X : Cx} {o e : Expr} {es : List Expr} {to te : TE} {ta : TA} {f : Str} {p p' p1 p2 pos : Pos} {B nw ini : String} {tl : List Value}
theorem pe_beinit {x : Str} {pl : Sem Bool} (hg : Gl X x) (hm : X.mg x = none) (hB : bootBuiltins x = some (.type B)) (ht : typeOf (.type B) = pure (.type "type")) (hs : Manifest.isStub B = false) (vV : PySem.W.findCls X.K (.type B) (.type "type") "__init__" = some (.val (.builtin ini))) (hh : PySem.W.handedIn (.builtin ini) = true) (ha : PA X (e :: es) ta) (hnn : x ≠ "__name__" := by decide) (hdb : (x == ("__debug__" : Str)) = false := by decide)
    (hc : eval (.Call (.Attribute (.Name x p1) "__init__" p2) (e :: es) [] pos) X.env = (do let ov ← eval (.Name x p1) X.env; standAt p2.atName; let (f, first) ← holding [ov] (getMethod ov "__init__" pl); callWith pos f first (backTo pos (starEach (e :: es) X.env)) (backToKw pos (keywordEach [] X.env))) := by rfl)
    (he : starEach (e :: es) X.env = (false, eval e X.env) :: starEach es X.env := by rfl) (hpl : (backTo pos (starEach es X.env)).any (·.1) = false := by rfl) : PE X (.Call (.Attribute (.Name x p1) "__init__" p2) (e :: es) [] pos) (tBeI X.K B nw ini tl ta) := by
  refine ⟨fun pins s σ H Q I h => PySem.W.methodCall_KW (ld_blt I hg hm hB ?_ hnn hdb) hc⟩
  obtain ⟨m, fr⟩ := I.fr
  refine PySem.W.method_type fr I.ok.mod.kin ht hs vV hh ?_
  show wpAny _ _ (callWith pos (Value.builtin ini) [] (backTo pos (starEach (e :: es) X.env)) []) _ _ _
  refine PyProof.Rows.callWith_method1 (thn (ha.run pos pins _ σ H _ (I.tok _) h) fun us s1 ⟨vs, H1, I1, r1, a, C, ws, ev, hl, T, ea, q⟩ => ?_) he hpl
  subst ev
  cases r1 with
  | @cons _ u0 _ ur ra rw' =>
    have eu : u0 = Value.ref a := ra
    subst eu
    exact oinitB T I1 ea (by rw [← Paired.length rw', sizeLine_eq]; omega) fun s' J => ⟨.non, H1, J, rfl, q⟩
theorem ps_osB (ho : PE X o to) (he : PE X e te) (hs : swapsWith e (some (.Attribute o f p')) pos.line X.env = pure false := by rfl) : PS X (.Assign [.Attribute o f p'] e pos) (tOsB X.K B nw ini tl f to te) := by
  refine ⟨fun pins s σ H D I h => plainObj_wpAny_Assign_Attribute (thn (he.run pins s σ H _ I h) fun v s1 ⟨y, H1, I1, r1, q1⟩ => thn (ho.run pins s1 σ H1 _ I1 q1) fun u s2 ⟨x, H2, I2, r2, a, C, ex, T, hno, q⟩ => ?_) hs⟩
  subst ex
  have eu : u = Value.ref a := r2
  subst eu
  rcases q with ⟨ea, q⟩ | ⟨dx, fs, ea, ed, hl, q⟩
  · exact ostB_new T I2 ea hno r1 fun dx s' n ne J => ⟨σ, _, J, q dx n ne⟩
  · exact ostB_old T I2 ea ed hl hno r1 fun s' J => ⟨σ, _, J, q⟩
/-- C(e, ..), C's own __init__ keeping sp -/
theorem pmkB {CX : CXT} {x : Str} {C fI : Addr} {k : Nat} {fd : FuncData} {ps : List Str} {sp : Sp} (T : OexB X.K C B nw ini tl) (iC : PySem.W.findIn X.K (.ref C) "__init__" = some (some (.ref fI))) (tI : PySem.W.typeIn X.K (.ref fI) = some (.type "function")) (F1 : FnOk X.prog X.w X.K X.mg X.base CX k fI fd ps sp) (hr : Room (k + 1) X.A) (hb : Binds X.K fd ps []) (hx : Passes CX X (fun _ _ _ => False)) (hg : Gl X x) (hm : X.mg x = some (.ref C)) (ha : PA X (e :: es) ta)
    (hdb : (x == ("__debug__" : Str)) = false := by decide) (he : starEach (e :: es) X.env = (false, eval e X.env) :: starEach es X.env := by rfl) (hpl : (backTo pos (starEach es X.env)).any (·.1) = false := by rfl) : PMk X (.Call (.Name x p) (e :: es) [] pos) (tMkO C sp [] ta) := by
  intro pins s σ H Q I h
  obtain ⟨nm, q, N, bs, sn, sub, ab, col, dd, k0, k1, k2, k3, k5, hC⟩ := T.cls
  refine wpAny_Call_Name_kw (ld_glob I hg hm (PySem.W.callWith_K (h₀ := X.base) I.ok.mod.kin T.kC (thn (ha.run pos pins s σ H _ I h) fun us s1 ⟨vs, H1, I1, r1, hz, q1⟩ => ⟨I1.kIn, ?_⟩) he hpl) hdb)
  show wpAny _ _ (call (.ref C) us) _ _ _
  obtain ⟨hp, g, dr, tk, os⟩ := s1
  have z : hp.objs.size ≤ hp.objs.size + 1 := Nat.le_succ _
  have hq := q1 (hp.objs.size + 1) (I1.hok.fresh z)
  have kk : ∀ b o, hp.get? b = some o → ((hp.push (PySem.W.kdv_tup us)).push (PySem.HandSPX.excO C hp.objs.size)).get? b = some o := fun b o e1 => Heap.get?_push_of_some _ (Heap.get?_push_of_some _ e1)
  have I2 : L2.Inv X pins σ (upd H1 (hp.objs.size + 1) (exo (hp.objs.size + 1) C none)) ⟨(hp.push (PySem.W.kdv_tup us)).push (PySem.HandSPX.excO C hp.objs.size), g, dr, tk, os⟩ := I1.laid (t' := tk) (a := hp.objs.size + 1) (o := exo (hp.objs.size + 1) C none) (h' := (hp.push (PySem.W.kdv_tup us)).push (PySem.HandSPX.excO C hp.objs.size)) kk z (exo_ok (by heap_get))
  have r2 : Vals (V.ref (hp.objs.size + 1) :: (vs ++ [])) (Value.ref (hp.objs.size + 1) :: (us ++ [])) := .cons rfl (r1.append .nil)
  have hl : (Value.ref (hp.objs.size + 1) :: us ++ []).length = ps.length := by have e1 := r2.length; rw [F1.len _ _ _ _ hq] at e1; exact e1.symm
  have bt := hb _ (Value.ref (hp.objs.size + 1) :: us) I2.kIn hl
  rw [List.cons_append] at bt
  refine wpAny_call (PySem.HandSPX.call_own T.fb (fun _ => rfl) (I1.kIn _ _ hC) (PySem.W.looks_findIn I1.kIn iC) (fun self => PySem.W.bind_fn I1.kIn self tI) (by rw [← Paired.length r1, sizeLine_eq]; omega) (codeAny_mono (F1.run _ X.stack _ _ ⟨Value.ref (hp.objs.size + 1) :: us, []⟩ (Value.ref (hp.objs.size + 1) :: (us ++ [])) _ _ (fun _ _ _ => False) (hr.make C us []) (I2.env0.make C us []) bt r2 hq) fun r s' hq' => ?_))
  cases r with
  | error er => exact hx pins σ _ _ er s' I2 hq'
  | ok fl =>
    cases fl with
    | ret u => obtain ⟨v, H2, os2, bare2, un2, hok2, rv, ev, d, fs, ea, ed, hd1, q2⟩ := hq'; subst ev; obtain ⟨h2, g2, d2, t2, os'⟩ := s'; exact ⟨rv, mk_end (raises_own T.exC T.tyC) I1 z kk un2 hok2 os2 bare2 ea ed hd1 q2⟩
    | next => exact hq'.elim
    | brk => exact hq'.elim
    | cont => exact hq'.elim
/-- C() -/
theorem pmkB0 {CX : CXT} {x : Str} {C fI : Addr} {k : Nat} {fd : FuncData} {ps : List Str} {sp : Sp} (T : OexB X.K C B nw ini tl) (iC : PySem.W.findIn X.K (.ref C) "__init__" = some (some (.ref fI))) (tI : PySem.W.typeIn X.K (.ref fI) = some (.type "function")) (F1 : FnOk X.prog X.w X.K X.mg X.base CX k fI fd ps sp) (hr : Room (k + 1) X.A) (hb : Binds X.K fd ps []) (hx : Passes CX X (fun _ _ _ => False)) (hg : Gl X x) (hm : X.mg x = some (.ref C)) (hdb : (x == ("__debug__" : Str)) = false := by decide) : PMk X (.Call (.Name x p) [] [] pos) (tMkO C sp [] tNil) := by
  intro pins s1 σ H1 Q I1 h
  obtain ⟨hz, q1⟩ := h
  obtain ⟨nm, q, N, bs, sn, sub, ab, col, dd, k0, k1, k2, k3, k5, hC⟩ := T.cls
  refine wpAny_Call_Name_kw (ld_glob I1 hg hm (PySem.W.callWith_K0 I1.kIn T.kC ?_) hdb)
  show wpAny _ _ (call (.ref C) []) _ _ _
  obtain ⟨hp, g, dr, tk, os⟩ := s1
  have z : hp.objs.size ≤ hp.objs.size + 1 := Nat.le_succ _
  have hq := q1 (hp.objs.size + 1) (I1.hok.fresh z)
  have rv0 : Vals [V.ref (hp.objs.size + 1)] [Value.ref (hp.objs.size + 1)] := .cons rfl .nil
  have kk : ∀ b o, hp.get? b = some o → ((hp.push (PySem.W.kdv_tup [])).push (PySem.HandSPX.excO C hp.objs.size)).get? b = some o := fun b o e1 => Heap.get?_push_of_some _ (Heap.get?_push_of_some _ e1)
  have I2 : L2.Inv X pins σ (upd H1 (hp.objs.size + 1) (exo (hp.objs.size + 1) C none)) ⟨(hp.push (PySem.W.kdv_tup [])).push (PySem.HandSPX.excO C hp.objs.size), g, dr, tk, os⟩ := I1.laid (t' := tk) (a := hp.objs.size + 1) (o := exo (hp.objs.size + 1) C none) (h' := (hp.push (PySem.W.kdv_tup [])).push (PySem.HandSPX.excO C hp.objs.size)) kk z (exo_ok (by heap_get))
  refine wpAny_call (PySem.HandSPX.call_own T.fb (fun _ => rfl) (I1.kIn _ _ hC) (PySem.W.looks_findIn I1.kIn iC) (fun self => PySem.W.bind_fn I1.kIn self tI) (Nat.zero_le _) (codeAny_mono (F1.run _ X.stack _ _ ⟨[Value.ref (hp.objs.size + 1)], []⟩ [Value.ref (hp.objs.size + 1)] _ _ (fun _ _ _ => False) (hr.make C [] []) (I2.env0.make C [] []) (hb _ [Value.ref (hp.objs.size + 1)] I2.kIn (F1.len _ _ _ _ hq)) rv0 hq) fun r s' hq' => ?_))
  cases r with
  | error er => exact hx pins σ _ _ er s' I2 hq'
  | ok fl =>
    cases fl with
    | ret u => obtain ⟨v, H2, os2, bare2, un2, hok2, rv, ev, d, fs, ea, ed, hd1, q2⟩ := hq'; subst ev; obtain ⟨h2, g2, d2, t2, os'⟩ := s'; exact ⟨rv, mk_end (raises_own T.exC T.tyC) I1 z kk un2 hok2 os2 bare2 ea ed hd1 q2⟩
    | next => exact hq'.elim
    | brk => exact hq'.elim
    | cont => exact hq'.elim
end
end Bw
set_option Elab.async false
set_option linter.all false
set_option maxRecDepth 100000
set_option maxHeartbeats 4000000
namespace Bw
open PySem PySem.Spec PyProof.Rows L2 LamX
/-! ### try: .. except x as n: .. except (x1, x2, x3, x4) as n: .. -/
abbrev endsAs (i : Nat) (D : Ends) : Ends := { nx := fun σ' H' => D.nx (σ'.set i none) H', rt := D.rt, bk := fun σ' H' => D.bk (σ'.set i none) H', ct := fun σ' H' => D.ct (σ'.set i none) H' }
def wAs2 (K : PySem.W.Frag) (c : Value) (cs : List Value) (i : Nat) (t1 t2 : Addr → Value → Option Addr → TS) (D : Ends) : WX := fun cls d σ H =>
  (PySem.W.exmOne K cls c = some true ∧ ∀ a, H a = none → t1 a cls d (endsAs i D) (σ.set i (some (.ref a))) H) ∨ (PySem.W.exmOne K cls c = some false ∧ PySem.W.exmAny K cls cs = some true ∧ ∀ a, H a = none → t2 a cls d (endsAs i D) (σ.set i (some (.ref a))) H)
theorem fly_push {B : Heap} {l : List Env} {a : Addr} {Z : Obj → Prop} {h h' : Heap} (k : ∀ b o, h.get? b = some o → h'.get? b = some o) (f : HandSPX.FlyingZ B l a Z h) : HandSPX.FlyingZ B l a Z h' := by
  obtain ⟨f1, f2, f3, oe, vs, T, oT, ts, e1, e2, e3, e4, e5, e6, e7, e8⟩ := f
  exact ⟨fun b o e => k _ _ (f1 b o e), f2, Heap.FunFrames.of_keeps (fun b o e _ => ⟨o, k _ _ e, rfl⟩) f3, oe, vs, T, oT, ts, k _ _ e1, e2, e3, e4, e5, e6, k _ _ e7, e8⟩
theorem ps_try_as2 {X : Cx} {x x1 x2 x3 x4 n : Str} {c c1 c2 c3 c4 : Value} {i : Nat} {body suite suite2 : List Stmt} {b₀ b2₀ : Stmt} {np q1 q2 q3 q4 qt pos pos' pos2 : Pos} {tup} {tb : WX → TS} {ts ts2 : Addr → Value → Option Addr → TS} (hs : X.stack = X.env :: X.outer) (hf : X.env.frame = some X.env.locals) (hN : X.N.Nodup) (hi : X.N[i]? = some n) (hln : X.env.kindOf n = some .local)
    (hc : Names X x c) (h1 : Names X x1 c1) (h2 : Names X x2 c2) (h3 : Names X x3 c3) (h4 : Names X x4 c4)
    (hb : ∀ (W : WX) (pn : List (Addr × Obj)) (xe : Value → Shared → Prop), Takes (X.tr pn xe) W → PassesOwn (model X.prog X.w) X.A X.env xe → PSs (X.tr pn xe) body (tb W))
    (hsu : ∀ (a : Addr) (oe : Obj) (cls : Value) (d : Option Addr) (pn : List (Addr × Obj)), Zc cls d oe → (∃ vs, oe.data = .fields vs) → PSs (X.suite a ((a, oe) :: pn)) (b₀ :: suite) (ts a cls d))
    (hs2 : ∀ (a : Addr) (oe : Obj) (cls : Value) (d : Option Addr) (pn : List (Addr × Obj)), Zc cls d oe → (∃ vs, oe.data = .fields vs) → PSs (X.suite a ((a, oe) :: pn)) (b2₀ :: suite2) (ts2 a cls d)) :
    PS X (.Try body [.ExceptHandler (some (.Name x np)) (some n) (b₀ :: suite) pos', .ExceptHandler (some (.Tuple [.Name x1 q1, .Name x2 q2, .Name x3 q3, .Name x4 q4] tup qt)) (some n) (b2₀ :: suite2) pos2] [] [] pos) (fun D σ H => tb (wAs2 X.K c [c1, c2, c3, c4] i ts ts2 D) D σ H) := by
  refine ⟨fun pins s σ H D I h => ?_⟩
  have ok := I.ok
  have hfr : X.A.frames = some (X.env :: X.outer) := by rw [ok.frames, hs]
  have hloc : Loc X.env.scope n := .inl hln
  refine wpAny_Try_except (wpAny_mono ((hb (wAs2 X.K c [c1, c2, c3, c4] i ts ts2 D) (X.pn ++ pins) (fun e s₁ => wpAny (model X.prog X.w) X.A (noteFrame e X.env) (fun _ s₂ => wpAny (model X.prog X.w) X.A (setFlight e none) (fun _ s₃ => wpAny (model X.prog X.w) X.A (handleBy e X.env [.ExceptHandler (some (.Name x np)) (some n) (b₀ :: suite) pos', .ExceptHandler (some (.Tuple [.Name x1 q1, .Name x2 q2, .Name x3 q3, .Name x4 q4] tup qt)) (some n) (b2₀ :: suite2) pos2]) (SP X pins D) X.xe s₃) X.xe s₂) X.xe s₁) (fun u s' xx => ?_) PassesOwn.looking).run [] s σ H D (I.toTry _) h) (fun f s1 hsp => ?_) (fun e s1 he => he))
  · obtain ⟨a, B, sI, pins', σ', H', cls, d, rfl, J', nb, up, sky, na, os, ag, hw⟩ := xx
    have J : L2.Inv X pins σ' H' sI := J'.ofTry ok
    have sky' : Sky B (X.env :: X.outer) a (Zc cls d) X.env.locals s'.heap := by rw [← hs]; exact sky
    show wpAny (model X.prog X.w) X.A (noteFrame (.ref a) X.env) _ _ _
    refine Sky.land Zc.steady hfr hf sky' fun g3 fl3 up3 => ?_
    have J3 : L2.Inv X pins σ' H' { s' with heap := g3 } := J.landed nb fl3.1 (up.trans up3) os ag
    obtain ⟨oe3, vs3, he3, hz3, hd3⟩ := fl3.there
    have nfr : a ∉ frs (X.env :: X.outer) := fun hm => by obtain ⟨_, o', e', hnf⟩ := fl3.2.2.1.mem hm; rw [he3] at e'; cases e'; exact hnf _ hd3
    have nL : a ≠ X.env.locals := fun z => nfr (List.mem_filterMap.mpr ⟨X.env, List.mem_cons_self, by rw [hf, z]⟩)
    have nF : a ∉ X.fs := fun hm => by obtain ⟨e, he, q⟩ := List.mem_filterMap.mp hm; exact nfr (List.mem_filterMap.mpr ⟨e, List.mem_cons_of_mem _ he, q⟩)
    have S3 := J3.suite he3 hd3 na nL nF
    have rd : ∀ {y : Str} {k : Value} {pp : Pos} {Q : Value → Shared → Prop} {E : Value → Shared → Prop}, Names X y k → Q k { s' with heap := g3 } → wpAny (model X.prog X.w) (X.A.mark (some (.ref a))) (eval (.Name y pp) X.env) Q E { s' with heap := g3 } := fun {y k pp Q E} hy q => by
      obtain ⟨hg, hdbg, hm | ⟨hm, hv, hnn⟩⟩ := hy
      · exact ld_glob (X := X.suite a ((a, oe3) :: (X.pn ++ pins))) S3 hg hm q hdbg
      · exact ld_blt (X := X.suite a ((a, oe3) :: (X.pn ++ pins))) S3 hg hm hv q hnn hdbg
    have LT : PySem.W.Looks (model X.prog X.w) g3 (typeOf (.ref a)) cls := fun A Q E s k q => wpAny_typeOf_ref (k _ _ he3) (by rw [hz3.1]; exact q)
    refine wpAny_handleBy_cons (codeAny_handlers_test ?_) (by intro q; cases q)
    rcases hw with ⟨hb1, hyes⟩ | ⟨hb1, hb2, hyes⟩
    · refine rd hc ((PySem.W.exm_one (M := model X.prog X.w) J3.kIn LT hb1).here (codeAny_handlers_suite_as ?_))
      refine HandSPX.lands_againZ fl3 fun g4 fl4 up4 => ?_
      have J4 : L2.Inv X pins σ' H' { s' with heap := g4 } := J.landed nb fl4.1 ((up.trans up3).trans up4) os ag
      obtain ⟨oe4, vs4, he4, hz4, hd4⟩ := fl4.there
      refine store_ok (X := X.suite a ((a, oe4) :: (X.pn ++ pins))) (v := .ref a) (J4.suite he4 hd4 na nL nF) hN hi hloc rfl (fun s5 S5 => ?_) (.inr hln)
      refine wpAny_mono ((hsu a oe4 cls d (X.pn ++ pins) hz4 ⟨_, hd4⟩).run [] s5 _ H' _ S5 (hyes a na)) (fun f s6 hsp => ?_) (fun _ _ z => z.elim)
      have en : ∀ {σ6 : L2.St} {H6 : Hp} {Q : Shared → Prop}, L2.Inv (X.suite a ((a, oe4) :: (X.pn ++ pins))) [] σ6 H6 s6 → (∀ s7, L2.Inv X pins (σ6.set i none) H6 s7 → Q s7) → wpAny (model X.prog X.w) X.A (do bindName X.env n .none; unbindBehindTheSuite X.env n pos') (fun _ s7 => Q s7) X.xe s6 := fun {σ6 H6 Q} S6 hq => gone_ok (S6.unsuite ok) hN hi hln hq
      cases f with
      | next => obtain ⟨σ6, H6, S6, q6⟩ := hsp; exact en S6 fun s7 J7 => ⟨_, _, J7, q6⟩
      | brk => obtain ⟨σ6, H6, S6, q6⟩ := hsp; exact en S6 fun s7 J7 => ⟨_, _, J7, q6⟩
      | cont => obtain ⟨σ6, H6, S6, q6⟩ := hsp; exact en S6 fun s7 J7 => ⟨_, _, J7, q6⟩
      | ret u => obtain ⟨v6, σ6, H6, S6, r6, q6⟩ := hsp; exact en S6 fun s7 J7 => ⟨_, _, _, J7, r6, q6⟩
    · refine rd hc ((PySem.W.exm_one (M := model X.prog X.w) J3.kIn LT hb1).here ?_)
      show wpAny _ X.A (handleBy (.ref a) X.env [.ExceptHandler (some (.Tuple [.Name x1 q1, .Name x2 q2, .Name x3 q3, .Name x4 q4] tup qt)) (some n) (b2₀ :: suite2) pos2]) _ _ _
      refine wpAny_handleBy_cons (codeAny_handlers_test ?_) (by intro q; cases q)
      refine wpAny_Tuple_spliced ?_
      show wpAny _ _ (spliced [(false, eval (.Name x1 q1) X.env), (false, eval (.Name x2 q2) X.env), (false, eval (.Name x3 q3) X.env), (false, eval (.Name x4 q4) X.env)]) _ _ _
      refine Calls.spliced_cons (rd h1 (Calls.spliced_cons (rd h2 (Calls.spliced_cons (rd h3 (Calls.spliced_cons (rd h4 (Calls.spliced_nil ⟨(show 4 ≤ sizeLine by decide), ?_⟩))))))))
      have kp : ∀ b o, g3.get? b = some o → (g3.push { cls := .type "tuple", data := .seq [c1, c2, c3, c4].toArray }).get? b = some o := fun b o e => Heap.get?_push_of_some _ e
      refine (PySem.W.exm_tup4 (M := model X.prog X.w) (tp := g3.objs.size) (fun b o e => kp _ _ (J3.kIn b o e)) (LT.keeps kp) (Heap.get?_push_size _ rfl) hb2).here (codeAny_handlers_suite_as ?_)
      refine HandSPX.lands_againZ (fly_push kp fl3) fun g4 fl4 up4 => ?_
      have J4 : L2.Inv X pins σ' H' { s' with heap := g4 } := J.landed nb fl4.1 (((up.trans up3).trans (Heap.UpToSlots.of_keeps kp)).trans up4) os ag
      obtain ⟨oe4, vs4, he4, hz4, hd4⟩ := fl4.there
      refine store_ok (X := X.suite a ((a, oe4) :: (X.pn ++ pins))) (v := .ref a) (J4.suite he4 hd4 na nL nF) hN hi hloc rfl (fun s5 S5 => ?_) (.inr hln)
      refine wpAny_mono ((hs2 a oe4 cls d (X.pn ++ pins) hz4 ⟨_, hd4⟩).run [] s5 _ H' _ S5 (hyes a na)) (fun f s6 hsp => ?_) (fun _ _ z => z.elim)
      have en : ∀ {σ6 : L2.St} {H6 : Hp} {Q : Shared → Prop}, L2.Inv (X.suite a ((a, oe4) :: (X.pn ++ pins))) [] σ6 H6 s6 → (∀ s7, L2.Inv X pins (σ6.set i none) H6 s7 → Q s7) → wpAny (model X.prog X.w) X.A (do bindName X.env n .none; unbindBehindTheSuite X.env n pos2) (fun _ s7 => Q s7) X.xe s6 := fun {σ6 H6 Q} S6 hq => gone_ok (S6.unsuite ok) hN hi hln hq
      cases f with
      | next => obtain ⟨σ6, H6, S6, q6⟩ := hsp; exact en S6 fun s7 J7 => ⟨_, _, J7, q6⟩
      | brk => obtain ⟨σ6, H6, S6, q6⟩ := hsp; exact en S6 fun s7 J7 => ⟨_, _, J7, q6⟩
      | cont => obtain ⟨σ6, H6, S6, q6⟩ := hsp; exact en S6 fun s7 J7 => ⟨_, _, J7, q6⟩
      | ret u => obtain ⟨v6, σ6, H6, S6, r6, q6⟩ := hsp; exact en S6 fun s7 J7 => ⟨_, _, _, J7, r6, q6⟩
  · cases f with
    | next => exact let ⟨σ', H', J', q⟩ := hsp; wpAny_execs_nil ⟨σ', H', J'.ofTry ok, q⟩
    | brk => exact let ⟨σ', H', J', q⟩ := hsp; ⟨σ', H', J'.ofTry ok, q⟩
    | cont => exact let ⟨σ', H', J', q⟩ := hsp; ⟨σ', H', J'.ofTry ok, q⟩
    | ret u => exact let ⟨v, σ', H', J', r, q⟩ := hsp; ⟨v, σ', H', J'.ofTry ok, r, q⟩
/-! ### the word of a refusal of any kind, or none -/
def ErrAtW (K : PySem.W.Frag) (CB : Addr) (cs : List Value) (cls : Value) (d : Option Addr) (H : Hp) (v : V) : Prop := ∃ (C dd : Addr) (fs : List (Str × V)), cls = .ref C ∧ d = some dd ∧ (PySem.W.exmOne K (.ref C) (.ref CB) = some true ∨ (PySem.W.exmOne K (.ref C) (.ref CB) = some false ∧ PySem.W.exmAny K (.ref C) cs = some true)) ∧ XfC K C ∧ PySem.W.findIn K (.ref C) "word" = some none ∧ H dd = some (.xd fs) ∧ fs.lookup ("word" : Str) = some v
theorem ErrAt.wide {K : PySem.W.Frag} {CB : Addr} {cs : List Value} {cls : Value} {d : Option Addr} {H : Hp} {v : V} (h : ErrAt K CB cls d H v) : ErrAtW K CB cs cls d H v := by
  obtain ⟨C, dd, fs, h1, h2, h3, h4⟩ := h
  exact ⟨C, dd, fs, h1, h2, .inl h3, h4⟩
def TWordW (K : PySem.W.Frag) (CB : Addr) (cs : List Value) : (XK → Hp → VK → Prop) → Hp → VK → Prop := fun tl H Q => tl (fun cls d H' => ∃ v, ErrAtW K CB cs cls d H' v ∧ Q v H') H (fun _ H' => Q (.str "") H')
theorem word_givesW {X : Cx} {Ng : List Str} {x a q : Str} {sg : Scope} {g CB c1 c2 c3 c4 : Addr} {cdg : Value} {j : Nat} {tup} {p1 p2 p3 p4 p5 p6 p7 p8 p9 p10 p11 r1 r2 r3 r4 r5 r6 r7 r8 r9 : Pos} (hge : sg.names.lookup ("BudError" : Str) = some .globalImplicit) (hme : X.mg "BudError" = some (.ref CB))
    (g1 : sg.names.lookup ("NoPart" : Str) = some .globalImplicit) (m1 : X.mg "NoPart" = some (.ref c1)) (g2 : sg.names.lookup ("NoPlace" : Str) = some .globalImplicit) (m2 : X.mg "NoPlace" = some (.ref c2)) (g3 : sg.names.lookup ("Lacking" : Str) = some .globalImplicit) (m3 : X.mg "Lacking" = some (.ref c3)) (g4 : sg.names.lookup ("NothingLeft" : Str) = some .globalImplicit) (m4 : X.mg "NothingLeft" = some (.ref c4))
    (hNd : Ng.Nodup) (hN1 : Ng[1]? = some ("e" : Str)) (hk : sg.names.lookup ("e" : Str) = some .local) (h0 : ∀ f : Addr, (L2.start Ng [V.ref f])[0]? = some (some (V.ref f))) :
    GivesTo X Ng x sg g cdg [.Try [.Expr (.Call (.Name a p1) [] [] p2) p3] [.ExceptHandler (some (.Name "BudError" p4)) (some "e") [.Return (some (.Attribute (.Name "e" p5) "word" p6)) p7] p8, .ExceptHandler (some (.Tuple [.Name "NoPart" r1, .Name "NoPlace" r2, .Name "Lacking" r3, .Name "NothingLeft" r4] tup r5)) (some "e") [.Return (some (.Attribute (.Name "e" r6) "word" r7)) r8] r9] [] [] p9, .Return (some (.Constant (.str "") j p10)) p11] a q (TWordW X.K CB [.ref c1, .ref c2, .ref c3, .ref c4]) := by
  intro f c' s H Q tl act hc h
  have nm : ∀ {y : Str} {k : Addr}, sg.names.lookup y = some .globalImplicit → X.mg y = some (.ref k) → (y == ("__debug__" : Str)) = false → Names (cxOf C8.CX0 X.prog X.w X.K X.mg X.base Ng x sg g cdg X.A X.stack s H C8.E0).nox y (.ref k) := fun hy hm hd => ⟨hy, hd, .inl hm⟩
  refine ⟨_, pss_cons (ps_try_as2 (X := (cxOf C8.CX0 X.prog X.w X.K X.mg X.base Ng x sg g cdg X.A X.stack s H C8.E0).nox) (c := .ref CB) (i := 1)
      (tb := fun W D σ H => ∃ Ech : XK, (∀ cls d σ' H', Ech cls d H' → σ'.length = Ng.length → W cls d σ' H') ∧ σ[0]? = some (some (.ref f)) ∧ H c' = some (CodeO c' q) ∧ tl Ech H fun _ H' => D.nx σ H')
      (ts := fun a cls d => tRet (tXfD X.K a cls d "word" 1)) (ts2 := fun a cls d => tRet (tXfD X.K a cls d "word" 1)) rfl rfl hNd hN1 hk (nm hge hme (by decide)) (nm g1 m1 (by decide)) (nm g2 m2 (by decide)) (nm g3 m3 (by decide)) (nm g4 m4 (by decide)) (fun W pn xe tk _ => ?_) (fun b oe cls d pn hz hf => pss_one (ps_ret (pe_xfD hz hf (pe_var hN1 (.inl hk))))) (fun b oe cls d pn hz hf => pss_one (ps_ret (pe_xfD hz hf (pe_var hN1 (.inl hk)))))) (pss_one (ps_ret pe_str)), ?_⟩
  · refine ⟨fun pins s' σ H' D I h' => ?_⟩
    obtain ⟨Ech, hW, k1, k2, k3⟩ := h'
    exact (pss_one (ps_expr (pos := p3) (act _ pn xe Ech p1 p2 (takes_len tk) hW))).run pins s' σ H' D I ⟨k1, k2, k3⟩
  · refine ⟨fun cls d H' => ∃ v, ErrAtW X.K CB [.ref c1, .ref c2, .ref c3, .ref c4] cls d H' v ∧ Q v H', fun cls d σ' H' hE hl => ?_, h0 f, hc, h⟩
    obtain ⟨v, ⟨C, dd, fs, rfl, rfl, e1, e2, e3, e4, e5⟩, hQ⟩ := hE
    have lt : 1 < σ'.length := by rw [hl]; exact (List.getElem?_eq_some_iff.mp hN1).1
    have sd : ∀ b, H' b = none → tRet (tXfD X.K b (.ref C) (some dd) "word" 1) (endsAs 1 { nx := tRet (tC (.str "")) { nx := fun _ H' => Q .non H', rt := Q }, rt := Q }) (σ'.set 1 (some (.ref b))) H' := fun b _ => ⟨by rw [List.getElem?_set_self lt], C, dd, fs, v, rfl, e2, e3, rfl, e4, e5, hQ⟩
    rcases e1 with e1 | ⟨e1, e1'⟩
    · exact .inl ⟨e1, fun b hb => sd b hb⟩
    · exact .inr ⟨e1, e1', fun b hb => sd b hb⟩
end Bw
set_option Elab.async false
set_option linter.all false
set_option maxRecDepth 100000
set_option maxHeartbeats 4000000
namespace Bw
open PySem PySem.Spec PyProof.Rows L2
/-- what the written part says of an error's class that stands under BudError -/
structure ErrC (K : PySem.W.Frag) (mg : Str → Option Value) (x : Str) (C f CB : Addr) : Prop where
  g : mg x = some (.ref C)
  oex : OexC K C
  iC : PySem.W.findIn K (.ref C) "__init__" = some (some (.ref f))
  tI : PySem.W.typeIn K (.ref f) = some (.type "function")
  nw : PySem.W.findIn K (.ref C) "word" = some none
  xf : XfC K C
  te : PySem.W.exmOne K (.ref C) (.ref CB) = some true
def wordFs (x : Str) : List (Str × V) := [("word", .str x)]
theorem ErrC.at {K : PySem.W.Frag} {mg : Str → Option Value} {x wd : Str} {C f CB d : Addr} {H : Hp} (T : ErrC K mg x C f CB) (h : H d = some (.xd (wordFs wd))) : ErrAt K CB (.ref C) (some d) H (.str wd) := ⟨C, d, _, rfl, rfl, T.te, T.xf, T.nw, h, rfl⟩
/-- an error's own __init__ that wants nothing -/
def spErrInit (K : PySem.W.Frag) (wd : Str) : Sp := fun vs H Q _ => ∃ (a C : Addr), vs = [.ref a] ∧ OexC K C ∧ PySem.W.findIn K (.ref C) "word" = some none ∧ H a = some (exo a C none) ∧
  ∀ (dx : Addr) (H' : Hp), H dx = none → dx ≠ a → H' a = some (exo a C (some dx)) → H' dx = some (exd dx (wordFs wd)) → (∀ b, b ≠ a → b ≠ dx → H' b = H b) → Q .non H'
/-- raise x(): its reading, where what was stays -/
theorem raise_done {K : PySem.W.Frag} {mg : Str → Option Value} {x wd : Str} {C f CB : Addr} {σ : L2.St} {H : Hp} {E : XK} (T : ErrC K mg x C f CB) (q : ∀ (d : Addr) (H' : Hp), Same H H' → H' d = some (.xd (wordFs wd)) → E (.ref C) (some d) H') : tMkO C (spErrInit K wd) [] tNil σ H E := by
  refine ⟨by show 0 ≤ 1000; decide, fun x ex => ?_⟩
  refine ⟨x, C, rfl, T.oex, T.nw, upd_same, fun dx H6 ed nd hx hd hk => ?_⟩
  have ed2 : H dx = none := by
    rw [upd_ne nd] at ed
    exact ed
  refine ⟨rfl, dx, _, hx, hd, ed2, q dx _ (fun c o e2 => ?_) upd_same⟩
  have n1 : c ≠ x := ne_of_none e2 ex
  have n2 : c ≠ dx := ne_of_none e2 ed2
  rw [upd_ne n2, del_ne n1, hk c n1 n2, upd_ne n1]
  exact e2
structure CalX (P : Program) (w : World) (K : PySem.W.Frag) (mg : Str → Option Value) (base : Heap) (k : Nat) (x : Str) (ps : List Str) (sp : Sp) : Prop where
  ex : ∃ (f : Addr) (fd : FuncData), FnOk P w K mg base (L2.CX P w) k f fd ps sp ∧ mg x = some (.ref f) ∧ PySem.W.keepIn K (.ref f) = true ∧ Binds K fd ps []
theorem pe_calX {X : Cx} {x : Str} {ps : List Str} {sp : Sp} {k : Nat} {e : Expr} {es : List Expr} {p pos : Pos} {t : TA} {E : XK} (C : CalX X.prog X.w X.K X.mg X.base k x ps sp) (hr : Room k X.A) (hg : Gl X x) (hx : Passes (L2.CX X.prog X.w) X E) (ha : PA X (e :: es) t) (hdb : (x == ("__debug__" : Str)) = false := by decide) (he : starEach (e :: es) X.env = (false, eval e X.env) :: starEach es X.env := by rfl)
    (hpl : (backTo pos (starEach es X.env)).any (·.1) = false := by rfl) : PE X (.Call (.Name x p) (e :: es) [] pos) (tCall sp [] E t) := by
  obtain ⟨f, fd, F, hm, hk, hb⟩ := C.ex
  exact pe_call F hr hg hm hk hb .nil hx ha hdb he hpl
/-- what of a callee may be let out is let out -/
theorem passE {X : Cx} {E : XK} {E₁ : Value → Shared → Prop} (hs : X.stack = X.env :: X.outer) (hf : X.env.frame = some X.env.locals) (hex : X.ex = []) (hx : X.xe = fun e s' => wpAny (model X.prog X.w) X.A (leaving X.env e) (fun _ s'' => L2.CX X.prog X.w X.outer X.H_0 X.s_0 E e s'') E₁ s') : Passes (L2.CX X.prog X.w) X E := passes_call (takes_of hs hf hex hx) fun _ _ _ _ h => h
def fldFs (fld wd : Str) (x : V) : List (Str × V) := [(fld, x), ("word", .str wd)]
def spErrInit1 (K : PySem.W.Frag) (wd fld : Str) : Sp := fun vs H Q _ => ∃ (a C : Addr) (x : V), vs = [.ref a, x] ∧ OexC K C ∧ PySem.W.findIn K (.ref C) "word" = some none ∧ PySem.W.findIn K (.ref C) fld = some none ∧ H a = some (exo a C none) ∧
  ∀ (dx : Addr) (H' : Hp), H dx = none → dx ≠ a → H' a = some (exo a C (some dx)) → H' dx = some (exd dx (fldFs fld wd x)) → (∀ b, b ≠ a → b ≠ dx → H' b = H b) → Q .non H'
theorem ErrC.at1 {K : PySem.W.Frag} {mg : Str → Option Value} {x wd fld : Str} {C f CB d : Addr} {H : Hp} {v : V} (T : ErrC K mg x C f CB) (hn : (("word" : Str) == fld) = false) (h : H d = some (.xd (fldFs fld wd v))) : ErrAt K CB (.ref C) (some d) H (.str wd) := ⟨C, d, _, rfl, rfl, T.te, T.xf, T.nw, h, by
  unfold fldFs
  rw [List.lookup_cons, hn]
  rfl⟩
theorem mk_done1 {K : PySem.W.Frag} {mg : Str → Option Value} {y wd fld : Str} {C f CB : Addr} {H : Hp} {E : XK} {x : V} (T : ErrC K mg y C f CB) (nf : PySem.W.findIn K (.ref C) fld = some none) (q : ∀ (d : Addr) (H' : Hp), Same H H' → H' d = some (.xd (fldFs fld wd x)) → E (.ref C) (some d) H') :
    [x].length ≤ 1000 ∧ ∀ a, H a = none → spErrInit1 K wd fld (.ref a :: ([x] ++ [])) (upd H a (exo a C none)) (fun v H2 => v = .non ∧ ∃ (d : Addr) (fs : List (Str × V)), H2 a = some (exo a C (some d)) ∧ H2 d = some (exd d fs) ∧ H d = none ∧ E (.ref C) (some d) (upd (del H2 a) d (.xd fs))) (fun _ _ _ => False) := by
  refine ⟨by show 1 ≤ 1000; decide, fun a ea => ?_⟩
  refine ⟨a, C, x, rfl, T.oex, T.nw, nf, upd_same, fun dx H6 ed nd hx hd hk => ?_⟩
  have ed2 : H dx = none := by
    rw [upd_ne nd] at ed
    exact ed
  refine ⟨rfl, dx, _, hx, hd, ed2, q dx _ (fun c o e2 => ?_) upd_same⟩
  have n1 : c ≠ a := ne_of_none e2 ea
  have n2 : c ≠ dx := ne_of_none e2 ed2
  rw [upd_ne n2, del_ne n1, hk c n1 n2, upd_ne n1]
  exact e2
/-! ### errors over other built-in errors -/
structure ErrB (K : PySem.W.Frag) (mg : Str → Option Value) (x : Str) (C f CB : Addr) (cs : List Value) (B nw ini : String) (tl : List Value) : Prop where
  g : mg x = some (.ref C)
  oex : OexB K C B nw ini tl
  iC : PySem.W.findIn K (.ref C) "__init__" = some (some (.ref f))
  tI : PySem.W.typeIn K (.ref f) = some (.type "function")
  nw : PySem.W.findIn K (.ref C) "word" = some none
  xf : XfC K C
  t0 : PySem.W.exmOne K (.ref C) (.ref CB) = some false
  te : PySem.W.exmAny K (.ref C) cs = some true
def spErrInitB1 (K : PySem.W.Frag) (B nw ini : String) (tl : List Value) (wd fld : Str) : Sp := fun vs H Q _ => ∃ (a C : Addr) (x : V), vs = [.ref a, x] ∧ OexB K C B nw ini tl ∧ PySem.W.findIn K (.ref C) "word" = some none ∧ PySem.W.findIn K (.ref C) fld = some none ∧ H a = some (exo a C none) ∧
  ∀ (dx : Addr) (H' : Hp), H dx = none → dx ≠ a → H' a = some (exo a C (some dx)) → H' dx = some (exd dx (fldFs fld wd x)) → (∀ b, b ≠ a → b ≠ dx → H' b = H b) → Q .non H'
def spErrInitB0 (K : PySem.W.Frag) (B nw ini : String) (tl : List Value) (wd : Str) : Sp := fun vs H Q _ => ∃ (a C : Addr), vs = [.ref a] ∧ OexB K C B nw ini tl ∧ PySem.W.findIn K (.ref C) "word" = some none ∧ H a = some (exo a C none) ∧
  ∀ (dx : Addr) (H' : Hp), H dx = none → dx ≠ a → H' a = some (exo a C (some dx)) → H' dx = some (exd dx (wordFs wd)) → (∀ b, b ≠ a → b ≠ dx → H' b = H b) → Q .non H'
section
variable {K : PySem.W.Frag} {mg : Str → Option Value} {y wd fld : Str} {C f CB d : Addr} {cs : List Value} {B nw ini : String} {tl : List Value} {H : Hp} {E : XK} {x v : V} {σ : L2.St}
theorem ErrB.at1 (T : ErrB K mg y C f CB cs B nw ini tl) (hn : (("word" : Str) == fld) = false) (h : H d = some (.xd (fldFs fld wd v))) : ErrAtW K CB cs (.ref C) (some d) H (.str wd) := ⟨C, d, _, rfl, rfl, .inr ⟨T.t0, T.te⟩, T.xf, T.nw, h, by
  unfold fldFs
  rw [List.lookup_cons, hn]
  rfl⟩
theorem ErrB.at (T : ErrB K mg y C f CB cs B nw ini tl) (h : H d = some (.xd (wordFs wd))) : ErrAtW K CB cs (.ref C) (some d) H (.str wd) := ⟨C, d, _, rfl, rfl, .inr ⟨T.t0, T.te⟩, T.xf, T.nw, h, rfl⟩
theorem mk_doneB1 (T : ErrB K mg y C f CB cs B nw ini tl) (nf : PySem.W.findIn K (.ref C) fld = some none) (q : ∀ (d : Addr) (H' : Hp), Same H H' → H' d = some (.xd (fldFs fld wd x)) → E (.ref C) (some d) H') :
    [x].length ≤ 1000 ∧ ∀ a, H a = none → spErrInitB1 K B nw ini tl wd fld (.ref a :: ([x] ++ [])) (upd H a (exo a C none)) (fun v H2 => v = .non ∧ ∃ (d : Addr) (fs : List (Str × V)), H2 a = some (exo a C (some d)) ∧ H2 d = some (exd d fs) ∧ H d = none ∧ E (.ref C) (some d) (upd (del H2 a) d (.xd fs))) (fun _ _ _ => False) := by
  refine ⟨by show 1 ≤ 1000; decide, fun a ea => ?_⟩
  refine ⟨a, C, x, rfl, T.oex, T.nw, nf, upd_same, fun dx H6 ed nd hx hd hk => ?_⟩
  have ed2 : H dx = none := by
    rw [upd_ne nd] at ed
    exact ed
  refine ⟨rfl, dx, _, hx, hd, ed2, q dx _ (fun c o e2 => ?_) upd_same⟩
  have n1 : c ≠ a := ne_of_none e2 ea
  have n2 : c ≠ dx := ne_of_none e2 ed2
  rw [upd_ne n2, del_ne n1, hk c n1 n2, upd_ne n1]
  exact e2
theorem raise_doneB (T : ErrB K mg y C f CB cs B nw ini tl) (q : ∀ (d : Addr) (H' : Hp), Same H H' → H' d = some (.xd (wordFs wd)) → E (.ref C) (some d) H') : tMkO C (spErrInitB0 K B nw ini tl wd) [] tNil σ H E := by
  refine ⟨by show 0 ≤ 1000; decide, fun a ea => ?_⟩
  refine ⟨a, C, rfl, T.oex, T.nw, upd_same, fun dx H6 ed nd hx hd hk => ?_⟩
  have ed2 : H dx = none := by
    rw [upd_ne nd] at ed
    exact ed
  refine ⟨rfl, dx, _, hx, hd, ed2, q dx _ (fun c o e2 => ?_) upd_same⟩
  have n1 : c ≠ a := ne_of_none e2 ea
  have n2 : c ≠ dx := ne_of_none e2 ed2
  rw [upd_ne n2, del_ne n1, hk c n1 n2, upd_ne n1]
  exact e2
end
/-! ### methods that may raise -/
structure MetX (P : Program) (w : World) (K : PySem.W.Frag) (mg : Str → Option Value) (base : Heap) (k : Nat) (C : Addr) (m : Str) (ps : List Str) (sp : Sp) : Prop where
  ex : ∃ (f : Addr) (fd : FuncData), Cls K C ∧ Meth K C m f ∧ FnOk P w K mg base (L2.CX P w) k f fd ps sp ∧ Binds K fd ps []
theorem pe_mtX {X : Cx} {C : Addr} {m : Str} {ps : List Str} {sp : Sp} {k : Nat} {o e : Expr} {es : List Expr} {pos apos : Pos} {t : TA} {ta : TE} {E : XK} {pl : Sem Bool} (M : MetX X.prog X.w X.K X.mg X.base k C m ps sp) (hr : Room k X.A) (hx : Passes (L2.CX X.prog X.w) X E) (ho : PE X o ta) (ha : PA X (e :: es) t) (hst : starEach (e :: es) X.env = (false, eval e X.env) :: starEach es X.env := by rfl)
    (hpl : (backTo pos (starEach es X.env)).any (·.1) = false := by rfl)
    (ht : eval (.Call (.Attribute o m apos) (e :: es) [] pos) X.env = (do
      let ov ← eval o X.env
      standAt apos.atName
      let (f, first) ← holding [ov] (getMethod ov m pl)
      callWith pos f first (backTo pos (starEach (e :: es) X.env)) (backToKw pos (keywordEach [] X.env))) := by rfl) : PE X (.Call (.Attribute o m apos) (e :: es) [] pos) (tMeth C m sp [] E ta t) := by
  obtain ⟨f, fd, c, hm, F, hb⟩ := M.ex
  exact pe_meth (pl := pl) ho c hm F hr hb .nil hx ha hst hpl ht
end Bw
set_option Elab.async false
set_option linter.all false
set_option maxRecDepth 100000
set_option maxHeartbeats 4000000
namespace Bw
open PySem PySem.Spec PyProof.Rows L2 Srt SrtO
/-! ### sorted(t), a tuple of ints -/
section
variable {prog : Program} {w : World} {A : Around} {E : Value → Shared → Prop} {s : Shared}
theorem collect_tupS {l : Addr} {vs : List Value} {o : Obj} {n : Nat} {Q : List Value → Shared → Prop} (ho : s.heap.get? l = some o) (hc : o.cls = .type "tuple") (hd : o.data = .seq vs.toArray n) (hz : vs.length ≤ sizeLine) (h : Q vs { s with heap := (s.heap.push (seqObj "list" #[] 0)).update s.heap.objs.size (Obj.mapSeq (· ++ vs.toArray)) }) : wpAny (model prog w) A (collect (.ref l)) Q E s := by
  unfold collect; refine wpAny_bind (wpAny_runValue (codeAny_builtin entry_proto_collect' ?_))
  show wpAny _ _ (do again (.builtin "list.__iadd__" ⟨[← newList [], .ref l], []⟩)) _ _ s; refine wpAny_bind (wpAny_newList (wpAny_pure ⟨Code.quiet_builtin _ (by decide +kernel), codeAny_builtin entry_list_iadd' ?_⟩))
  show wpAny _ _ (Builtin.List.listExtendWith (.ref s.heap.objs.size) (.ref l) (.ref s.heap.objs.size)) _ _ { s with heap := s.heap.push (seqObj "list" #[] 0) }; unfold Builtin.List.listExtendWith
  have h1 : (s.heap.push (seqObj "list" #[] 0)).get? l = some o := Heap.get?_push_of_some _ ho
  refine wpAny_bind (wpAny_typeOf (T := "tuple") ⟨o, h1, hc⟩ ?_); rw [if_pos (by rw [show (Value.type "tuple" == Value.type "tuple") = true by decide]; simp)]
  refine wpAny_bind (listItems_at h1 hd (wpAny_bind (listItems_at (xs := #[]) (n := 0) (Heap.get?_push_size _ rfl) rfl ?_))); rw [if_neg (by simp)]
  refine wpAny_bind (listUpdate_at (xs := #[]) (n := 0) (Heap.get?_push_size _ rfl) rfl (wpAny_pure ?_) (Nat.zero_le _) (by show (#[] ++ vs.toArray).size ≤ sizeLine + 1; simp only [Array.size_append, List.size_toArray, List.length_nil]; omega))
  show wpAny (model prog w) A (do let o ← load s.heap.objs.size; match o.data with | .seq xs _ => pure xs.toList | _ => unsupported "internal:collect") Q E { s with heap := (s.heap.push (seqObj "list" #[] 0)).update s.heap.objs.size (Obj.mapSeq (· ++ vs.toArray)) }
  refine wpAny_bind (wpAny_load (get?_update_seq (Heap.get?_push_size _ rfl) _) ?_); show wpAny _ _ (pure ((#[] : Array Value) ++ vs.toArray).toList) Q E _
  rw [show ((#[] : Array Value) ++ vs.toArray).toList = vs by simp]; exact wpAny_pure h
theorem sorted_tupO {l : Addr} {vs : List Value} {o : Obj} {n : Nat} {ltv : Value → Value → Bool} {Q : Value → Shared → Prop} (O : Swo ltv) (ho : s.heap.get? l = some o) (hc : o.cls = .type "tuple") (hd : o.data = .seq vs.toArray n) (hz : vs.length ≤ sizeLine)
    (hS : 2 ≤ vs.length → ∀ (h₁ : Heap) (a : Addr), h₁.get? a = some (seqObj "list" vs.toArray 0) → (∀ b o, s.heap.get? b = some o → b ≠ a ∧ h₁.get? b = some o) → SortableO prog w A.in1.in1 { s with heap := h₁ } a vs ltv) (h : ∀ out : List Value, Srtd ltv out → Stb ltv out vs → Q (.ref (s.heap.objs.size + 1)) { s with heap := sortedAll s.heap vs out.toArray }) : wpAny (model prog w) A (call (.builtin "sorted") [.ref l]) Q E s := by
  refine Calls.call_function_entry kind_sorted plain_sorted entry_sorted (args_sorted1 _) ?_; unfold Builtin.«sorted»
  refine wpAny_bind (m := checkCount "sorted" 1 1 _) (wpAny_pure (wpAny_bind (collect_tupS ho hc hd hz (wpAny_bind (wpAny_newList ?_ hz)))))
  have sz : ((s.heap.push (seqObj "list" #[] 0)).update s.heap.objs.size (Obj.mapSeq (· ++ vs.toArray))).objs.size = s.heap.objs.size + 1 := by rw [Heap.size_update, size_push']
  have oL : (((s.heap.push (seqObj "list" #[] 0)).update s.heap.objs.size (Obj.mapSeq (· ++ vs.toArray))).push (seqObj "list" vs.toArray 0)).get? (s.heap.objs.size + 1) = some (seqObj "list" vs.toArray 0) := by rw [← sz]; exact Heap.get?_push_size _ rfl
  have kp : ∀ b o, s.heap.get? b = some o → b ≠ s.heap.objs.size + 1 ∧ (((s.heap.push (seqObj "list" #[] 0)).update s.heap.objs.size (Obj.mapSeq (· ++ vs.toArray))).push (seqObj "list" vs.toArray 0)).get? b = some o := fun b o q => ⟨Nat.ne_of_lt (Nat.lt_succ_of_lt (Heap.lt_size q)), Heap.get?_push_of_some _ (by rw [Heap.get?_update_ne _ _ _ _ (Nat.ne_of_lt (Heap.lt_size q))]; exact Heap.get?_push_of_some _ q)⟩
  show wpAny _ _ _ _ _ { s with heap := ((s.heap.push (seqObj "list" #[] 0)).update s.heap.objs.size (Obj.mapSeq (· ++ vs.toArray))).push (seqObj "list" vs.toArray 0) }; rw [sz]
  exact wpAny_bind (wpAny_holding (wpAny_call_entry slot_list_sort ⟨_, oL, rfl⟩ entry_list_sort (list_sort_ord O oL hz (fun h2 => hS h2 _ _ oL kp) fun out hs hb => ⟨_, rfl, wpAny_pure ⟨_, rfl, h out hs hb⟩⟩) (args_list_sort _)))
end
def rSortTup (K : PySem.W.Frag) : List V → Hp → VK → Prop := fun vs H Q => ∃ (a : Addr) (ns : List Int), vs = [V.ref a] ∧ SqT K H a (ns.map V.int) ∧ ∀ (ns' : List Int) (p : Addr), ns'.Perm ns → ns'.Pairwise (· ≤ ·) → H p = none → Q (.ref p) (upd H p (.lst (ns'.map V.int)))
theorem c_sortT {X : Cx} {K : PySem.W.Frag} (hK : X.K = K := by rfl) : CallR X (.builtin "sorted") (rSortTup K) := by
  subst hK
  intro pins s σ H vs us Q I r h
  obtain ⟨a, ns, rfl, hs, q⟩ := h
  obtain ⟨its, rv, ⟨o, ho, hc, n, hd⟩, hz⟩ := I.tuple hs
  rw [Vals.ref1 r]
  have hi := rv.ints
  refine sorted_tupO SrtO.swo_int ho hc hd (by rw [← rv.length]; exact hz) (fun h2 h₁ a' _ _ => SrtO.ints_sortable hi h2) fun out h1 h2 => ?_
  obtain ⟨k1, k2, k3⟩ := SrtO.ints_out hi h1 h2
  obtain ⟨ep, he'⟩ := PyProof.Rows.sortedAll_at s.heap its out.toArray
  have hl : ((out.map SrtO.iv).map V.int).length ≤ sizeLine := by rw [List.length_map, k2.length_eq]; rw [List.length_map] at hz; exact hz
  exact ⟨.ref _, upd H (s.heap.objs.size + 1) (.lst ((out.map SrtO.iv).map V.int)), I.laid (t' := s.toks) (fun _ _ => PyProof.Rows.sortedAll_old) (Nat.le_succ _) ⟨hl, out, ep, vals_of_ints k1, he'⟩, rfl, q _ _ k2 k3 (I.hok.fresh (Nat.le_succ _))⟩
end Bw
set_option Elab.async false
set_option linter.all false
set_option maxRecDepth 100000
set_option maxHeartbeats 4000000
namespace Bw
open PySem PySem.Spec PyProof.Rows L2
abbrev ixB : String := "IndexError"
abbrev ixN : String := "IndexError.__new__"
abbrev ixI : String := "IndexError.__init__"
abbrev ixL : List Value := [.type "IndexError", .type "LookupError", .type "Exception", .type "BaseException", .type "object"]
theorem pe_nev {X : Cx} {e : Expr} : PE X e (fun _ _ _ => False) := ⟨fun _ _ _ _ _ _ h => h.elim⟩
theorem pa_nev {X : Cx} {es : List Expr} : PA X es (fun _ _ _ => False) := ⟨fun _ _ _ _ _ _ _ h => h.elim⟩
section
variable {P : Program} {w : World} {K : PySem.W.Frag} {mg : Str → Option Value} {base : Heap} {CB CP fP CG fG : Addr} {cs : List Value}
/-! ### a bud's number -/
/-! ### turned -/
/-! ### first seeds, first sums -/
abbrev s_first_seed : Stmt := topS 51
abbrev n_first_seed : List Str := ["table", "units"]
theorem sc_first_seed : FnScope n_first_seed ["table"] (defScope s_first_seed) := ⟨rfl, rfl, rfl, by decide +kernel, rfl, by decide +kernel, by decide +kernel⟩
def spSeed0 : Sp := fun vs H Q _ => ∃ (a : Addr) (rows : List (List Int)) (n : Nat), vs = [.ref a] ∧ TabAt H a rows ∧ TabOk rows n ∧ ∀ (t u : Addr) (H' : Hp), Same H H' → H' t = some (.tup [.ref a, .ref u, .ref u]) → TabAt H' u (uRows n) → Q (.ref t) H'
theorem ok_seed0 {f : Addr} {fd : FuncData} (F : Fun K "first_seed" "first_seed" s_first_seed f fd) (T : Tx mg) (c_unit_rows : Cal P w K mg base CX0 1 "unit_rows" ["many"] spURows) (c_bud_count : Cal P w K mg base CX0 1 "bud_count" ["table"] spBuds) : FnOk P w K mg base CX0 2 f fd ["table"] spSeed0 := by
  refine F.ok sc_first_seed (fun vs H Q E h => ?_) (fun cdv A outer s H vs Q E hr h => ?_)
  · obtain ⟨a, rows, n, rfl, _⟩ := h
    rfl
  · obtain ⟨a, rows, n, rfl, hT, O, q⟩ := h
    refine ⟨_, (pss_cons (ps_set (i := 1) sc_first_seed.nd rfl (.inl rfl) (pe_cal c_unit_rows hr (by rfl) (pa_cons (pe_cal c_bud_count hr (by rfl) (pa_cons (pv 0) pa_nil)) pa_nil)))
  (pss_one (ps_ret (pe_tup (pa_cons (pv 0) (pa_cons (pv 1) (pa_cons (pv 1) pa_nil))))))), ?_⟩
    have l1 := O.n1
    have l2 := O.len
    have l4 := O.n4
    refine ⟨.ref a, rfl, a, rows, n, rfl, hT, by omega, O.wide, n, rfl, by omega, fun b ts H1 s1 hb hR hl => ?_⟩
    refine ⟨.ref a, rfl, .ref b, rfl, .ref b, rfl, by show 3 ≤ sizeLine; decide, fun t et => ?_⟩
    exact q t b _ (s1.trans (same_upd et)) upd_same (((hR.tab hb)).same (same_upd et))
abbrev s_first_sums : Stmt := topS 72
abbrev n_first_sums : List Str := ["many", "number"]
theorem sc_first_sums : FnScope n_first_sums ["many"] (defScope s_first_sums) := ⟨rfl, rfl, rfl, by decide +kernel, rfl, by decide +kernel, by decide +kernel⟩
def spSums0 (C : Addr) : Sp := fun vs H Q _ => ∃ n : Nat, vs = [.int n] ∧ n ≤ 8 ∧ ∀ (t : Addr) (xs : List V) (H' : Hp), Same H H' → H' t = some (.tup xs) → xs.length = n → Q (.ref t) H'
theorem ok_sums0 {f C : Addr} {fd : FuncData} (F : Fun K "first_sums" "first_sums" s_first_sums f fd) (T : Tx mg) (c_letter : CalD P w K mg base 4 "letter" ["width", "number", "by"] (.int 1) (spLetter C)) : FnOk P w K mg base CX0 5 f fd ["many"] (spSums0 C) := by
  refine F.ok sc_first_sums (fun vs H Q E h => ?_) (fun cdv A outer s H vs Q E hr h => ?_)
  · obtain ⟨n, rfl, _⟩ := h
    rfl
  · obtain ⟨n, rfl, n8, q⟩ := h
    refine ⟨_, (pss_one (ps_ret (pe_callTy (c_tup (K := K)) (by rfl) T.tuple (by decide +kernel) (pa_cons (pe_lc (own := [("number", 1)]) (by rfl) sc_first_sums.nd (pi_range1 (by rfl) T.range (pa_cons (pv 0) pa_nil)) (blkOk_by (own := [("number", 1)]) (N := n_first_sums) (sc := defScope s_first_sums) (by decide +kernel)) (fun _ _ _ _ _ => (pg_name (i := 1) sc_first_sums.nd rfl (.inl rfl))) (fun _ _ _ _ _ => pts_nil) (fun _ _ _ _ _ => (pe_calD c_letter hr (by rfl) (pa_cons (pv 0) (pa_cons (pv 1) pa_nil))))) pa_nil)))), ?_⟩
    refine ⟨.int n, rfl, n, rfl, by omega, by omega, fun D eD => ?_⟩
    refine lc_range (fun j H' => ∃ xs : List V, xs.length = j ∧ H' D = some (.lst xs) ∧ Same H H') ⟨[], rfl, upd_same, same_upd eD⟩ ?_ ?_
    · rintro j H1 hj ⟨xs, lx, e1, s1⟩
      have hj : j < n := hj
      refine ⟨rfl, .int n, rfl, .int (0 + j), rfl, n, 0 + j, 1, rfl, n8, fun c r H2 s2 _ _ => ?_⟩
      exact ⟨xs, s2 _ _ e1, small1000 (by omega), xs ++ [.ref c], by rw [List.length_append, lx]; rfl, upd_same, Same.updN (s1.trans s2) eD⟩
    · rintro H1 ⟨xs, lx, e1, s1⟩
      refine ⟨D, _, rfl, .inl ⟨SqL.of e1, fun p ep => ?_⟩⟩
      exact q p xs _ (s1.trans (same_upd ep)) upd_same lx
end
end Bw
set_option Elab.async false
set_option linter.all false
set_option maxRecDepth 100000
set_option maxHeartbeats 4000000
namespace Bw
open PySem PySem.Spec PyProof.Rows L2
/-! ### the class Web -/
structure WebC (K : PySem.W.Frag) (mg : Str → Option Value) (C : Addr) : Prop where
  gl : mg "Web" = some (.ref C)
  cls : Cls K C
  n1 : NoAttr K C "seed"
  n2 : NoAttr K C "standing"
  n3 : NoAttr K C "made"
  n4 : NoAttr K C "kept"
def webFs (s t m k : Addr) : List (Str × V) := [("seed", .ref s), ("standing", .ref t), ("made", .ref m), ("kept", .ref k)]
def WebAt (C : Addr) (H : Hp) (x a : Addr) (rows : List (List Int)) (kept : List Int) : Prop := ∃ dx s t m k u v, H x = some (.ins C dx (webFs s t m k)) ∧ H s = some (.tup [.ref a, .ref u, .ref v]) ∧ H m = some (.tup []) ∧ H k = some (.tup (kept.map V.int)) ∧ TabAt H a rows
theorem WebAt.same {C : Addr} {H H' : Hp} {x a : Addr} {rows : List (List Int)} {kept : List Int} (s : Same H H') (h : WebAt C H x a rows kept) : WebAt C H' x a rows kept := by
  obtain ⟨dx, s0, t, m, k, u, v, h1, h2, h3, h4, h5⟩ := h
  exact ⟨dx, s0, t, m, k, u, v, s _ _ h1, s _ _ h2, s _ _ h3, s _ _ h4, h5.same s⟩
theorem TabAt.put {H : Hp} {L a : Addr} {u o : HO} {rows : List (List Int)} (e : H L = some u) (n : ∀ xs, u ≠ .tup xs) (h : TabAt H a rows) : TabAt (upd H L o) a rows := by
  obtain ⟨as, h1, h2, h3⟩ := h
  refine ⟨as, ?_, h2, fun i r e' => ?_⟩
  · rw [upd_ne (ne_of h1 e (fun z => n _ z.symm))]
    exact h1
  · obtain ⟨b, e1, e2⟩ := h3 i r e'
    refine ⟨b, e1, ?_⟩
    rw [upd_ne (ne_of e2 e (fun z => n _ z.symm))]
    exact e2
section
variable {P : Program} {w : World} {K : PySem.W.Frag} {mg : Str → Option Value} {base : Heap} {C CS CP CG CH fH CB : Addr} {cs : List Value}
abbrev s_winit : Stmt := inClass (topS 76) 0
abbrev n_winit : List Str := ["self", "table"]
theorem sc_winit : FnScope n_winit ["self", "table"] (defScope s_winit) := ⟨rfl, rfl, rfl, by decide +kernel, rfl, by decide +kernel, by decide +kernel⟩
def spWInit (C : Addr) : Sp := fun vs H Q _ => ∃ (x dx a : Addr) (rows : List (List Int)) (n : Nat), vs = [.ref x, .ref a] ∧ H x = some (.ins C dx []) ∧ TabAt H a rows ∧ TabOk rows n ∧ ∀ H', SameBut x H H' → WebAt C H' x a rows [] → Q .non H'
theorem ok_winit {f : Addr} {fd : FuncData} (F : Fun K "__init__" "Web.__init__" s_winit f fd) (T : Tx mg) (W : WebC K mg C) (c_check_table : Cal P w K mg base CX0 5 "check_table" ["table"] spGood) (c_first_seed : Cal P w K mg base CX0 2 "first_seed" ["table"] spSeed0) (c_first_sums : Cal P w K mg base CX0 5 "first_sums" ["many"] (spSums0 CS)) : FnOk P w K mg base CX0 6 f fd ["self", "table"] (spWInit C) := by
  refine F.ok sc_winit (fun vs H Q E h => ?_) (fun cdv A outer s H vs Q E hr h => ?_)
  · obtain ⟨x, dx, a, rows, n, rfl, _⟩ := h
    rfl
  · obtain ⟨x, dx, a, rows, n, rfl, hx, hT, O, q⟩ := h
    have hr2 := hr.mono (show 2 ≤ 5 by decide)
    refine ⟨_, (pss_cons (ps_expr (pe_cal c_check_table hr (by rfl) (pa_cons (pv 1) pa_nil)))
  (pss_cons (ps_fld (pv 0) (pe_cal c_first_seed hr2 (by rfl) (pa_cons (pv 1) pa_nil)) rfl)
  (pss_cons (ps_fld (pv 0) (pe_cal c_first_sums hr (by rfl) (pa_cons (pe_callB (c_len (K := K)) (by rfl) T.len PySem.boot_len (pa_cons (pv 1) pa_nil)) pa_nil)) rfl)
  (pss_cons (ps_fld (pv 0) (pe_tup pa_nil) rfl)
  (pss_one (ps_fld (pv 0) (pe_tup pa_nil) rfl)))))), ?_⟩
    have l4 := O.n4
    have l8 := O.len4
    have nt : ∀ {fs : List (Str × V)} (xs : List V), HO.ins C dx fs ≠ .tup xs := fun xs z => by cases z
    refine ⟨.ref a, rfl, a, rows, n, rfl, hT, O, fun H1 s1 => ?_⟩
    refine ⟨.ref a, rfl, a, rows, n, rfl, hT.same s1, O, fun sd u H2 s2 hs hu => ?_⟩
    have hx2 := s2 _ _ (s1 _ _ hx)
    have hT2 := (hT.same s1).same s2
    refine ⟨.ref x, rfl, x, C, dx, [], rfl, hx2, W.cls, W.n1, by decide, ?_⟩
    have hx3 := upd_same (H := H2) (a := x) (o := .ins C dx [("seed", .ref sd)])
    have hs3 : (upd H2 x (.ins C dx [("seed", .ref sd)])) sd = some (.tup [.ref a, .ref u, .ref u]) := by
      rw [upd_ne (ne_of hs hx2 (by intro z; cases z))]
      exact hs
    have hT3 : TabAt (upd H2 x (.ins C dx [("seed", .ref sd)])) a rows := hT2.put hx2 nt
    have sb3 : SameBut x H (upd H2 x (.ins C dx [("seed", .ref sd)])) := SameBut.upd (s1.trans s2).but
    show tSeq _ _ _ _ (upd H2 x (.ins C dx [("seed", .ref sd)]))
    generalize upd H2 x (.ins C dx [("seed", .ref sd)]) = H3 at hx3 hs3 hT3 sb3
    clear hs hu hx2 hT2 s1 s2
    obtain ⟨as, ha, hal, _⟩ := id hT3
    refine ⟨.ref a, rfl, a, _, rfl, .inr (SqT.of ha), rows.length, by rw [List.length_map, hal]; rfl, by omega, fun t xs H4 s4 ht lx => ?_⟩
    have hx4 := s4 _ _ hx3
    refine ⟨.ref x, rfl, x, C, dx, _, rfl, hx4, W.cls, W.n2, by show 1 < 1000; decide, ?_⟩
    have hx5 := upd_same (H := H4) (a := x) (o := .ins C dx [("seed", .ref sd), ("standing", .ref t)])
    have hs5 : (upd H4 x (.ins C dx [("seed", .ref sd), ("standing", .ref t)])) sd = some (.tup [.ref a, .ref u, .ref u]) := by
      rw [upd_ne (ne_of (s4 _ _ hs3) hx4 (by intro z; cases z))]
      exact s4 _ _ hs3
    have hT5 : TabAt (upd H4 x (.ins C dx [("seed", .ref sd), ("standing", .ref t)])) a rows := (hT3.same s4).put hx4 nt
    have sb5 : SameBut x H (upd H4 x (.ins C dx [("seed", .ref sd), ("standing", .ref t)])) := SameBut.upd (sb3.trans s4.but)
    show tSeq _ _ _ _ (upd H4 x (.ins C dx [("seed", .ref sd), ("standing", .ref t)]))
    generalize upd H4 x (.ins C dx [("seed", .ref sd), ("standing", .ref t)]) = H5 at hx5 hs5 hT5 sb5
    clear hx4 hx3 hs3 hT3 ht s4 ha hal
    refine ⟨Nat.zero_le _, fun m em => ⟨.ref x, rfl, x, C, dx, _, rfl, same_upd em _ _ hx5, W.cls, W.n3, by show 2 < 1000; decide, ?_⟩⟩
    have s6 := same_upd (o := .tup []) em
    have hx6 := s6 _ _ hx5
    have hx7 := upd_same (H := upd H5 m (.tup [])) (a := x) (o := .ins C dx [("seed", .ref sd), ("standing", .ref t), ("made", .ref m)])
    have hm7 : (upd (upd H5 m (.tup [])) x (.ins C dx [("seed", .ref sd), ("standing", .ref t), ("made", .ref m)])) m = some (.tup []) := by
      rw [upd_ne (Ne.symm (ne_of_none hx5 em)), upd_same]
    have hs7 : (upd (upd H5 m (.tup [])) x (.ins C dx [("seed", .ref sd), ("standing", .ref t), ("made", .ref m)])) sd = some (.tup [.ref a, .ref u, .ref u]) := by
      rw [upd_ne (ne_of (s6 _ _ hs5) hx6 (by intro z; cases z))]
      exact s6 _ _ hs5
    have hT7 : TabAt (upd (upd H5 m (.tup [])) x (.ins C dx [("seed", .ref sd), ("standing", .ref t), ("made", .ref m)])) a rows := (hT5.same s6).put hx6 nt
    have sb7 : SameBut x H (upd (upd H5 m (.tup [])) x (.ins C dx [("seed", .ref sd), ("standing", .ref t), ("made", .ref m)])) := SameBut.upd (sb5.trans s6.but)
    show sFld K (tVar 0) (tTup tNil) "kept" { nx := fun x H' => Q V.non H', rt := Q } (L2.start n_winit [V.ref x, V.ref a]) (upd (upd H5 m (.tup [])) x (.ins C dx [("seed", .ref sd), ("standing", .ref t), ("made", .ref m)]))
    generalize upd (upd H5 m (.tup [])) x (.ins C dx [("seed", .ref sd), ("standing", .ref t), ("made", .ref m)]) = H7 at hx7 hm7 hs7 hT7 sb7
    refine ⟨Nat.zero_le _, fun k ek => ⟨.ref x, rfl, x, C, dx, _, rfl, same_upd ek _ _ hx7, W.cls, W.n4, by show 3 < 1000; decide, ?_⟩⟩
    have s8 := same_upd (o := .tup []) ek
    have hx8 := s8 _ _ hx7
    refine q _ (SameBut.upd (sb7.trans s8.but)) ⟨dx, sd, t, m, k, u, u, upd_same, ?_, ?_, ?_, (hT7.same s8).put hx8 nt⟩
    · rw [upd_ne (ne_of (s8 _ _ hs7) hx8 (by intro z; cases z))]
      exact s8 _ _ hs7
    · rw [upd_ne (ne_of (s8 _ _ hm7) hx8 (by intro z; cases z))]
      exact s8 _ _ hm7
    · rw [upd_ne (Ne.symm (ne_of_none hx7 ek)), upd_same]
      rfl
end
end Bw
set_option Elab.async false
set_option linter.all false
set_option maxRecDepth 100000
set_option maxHeartbeats 2000000
/-! ### d.update(d2), keys that are ints or texts -/
namespace L2
open PySem PySem.Spec PyProof.Rows
def rDUpd : V → List V → Hp → VK → Prop := fun x vs H Q => ∃ (a o : Addr) (kvs more : List (Key × V)), x = .ref a ∧ vs = [.ref o] ∧ a ≠ o ∧ H a = some (.dK kvs) ∧ H o = some (.dK more) ∧ kvs.length + more.length ≤ sizeLine ∧ Q .non (upd H a (.dK (mergeK kvs more)))
theorem mergeK_len : ∀ (more kvs : List (Key × V)), (mergeK kvs more).length ≤ kvs.length + more.length
  | [], kvs => Nat.le_refl _
  | q :: more, kvs => by
    have h := mergeK_len more (putK kvs q.1 q.2)
    have l := length_putK kvs q.1 q.2
    show (mergeK (putK kvs q.1 q.2) more).length ≤ kvs.length + (more.length + 1)
    omega
theorem mtd_update {X : Cx} : MtR X "dict.update" rDUpd := by
  intro pins s σ H x vs v us Q I rx rv h
  obtain ⟨a, o, kvs, more, ex, ev, ne, e, eo, sz, q⟩ := h
  subst ex
  subst ev
  obtain rfl : v = Value.ref a := rx
  obtain ⟨u, rfl, ru⟩ := rv.one
  obtain rfl : u = Value.ref o := ru
  obtain ⟨z, hd, vs1, rel, dd⟩ := dk_of I.hok e
  obtain ⟨z2, hd2, vs2, rel2, dd2⟩ := dk_of I.hok eo
  refine call_meetsIn PySem.F.slot_dict_update dd.typeIs PySem.F.entry_dict_update (PySem.F.args_dict_update_2 _ _) (meets_dict_update (mixKind X.prog X.w) a o ne hd2) ⟨vs1, vs2, dd, dd2, by rw [← rel.length, ← rel2.length]; exact sz, fun h' dd' _ hs => ?_⟩
  have he : ∃ q, h'.get? a = some q := let ⟨q, _, _, hq, _⟩ := dd'; ⟨q, hq⟩
  exact ⟨.non, _, d_write (t' := s.toks) I (by rw [e]; exact True.intro) hs he (dk_new (Nat.le_trans (mergeK_len more kvs) sz) hd (rel2.merge rel) dd'), rfl, q⟩
end L2
namespace L2
open PySem PySem.Spec PyProof.Rows
theorem putK_fresh {kvs : List (Key × V)} {k : Key} {v : V} (h : ∀ q ∈ kvs, q.1 ≠ k) : putK kvs k v = kvs ++ [(k, v)] := by
  unfold putK
  rw [if_neg]
  intro z
  obtain ⟨q, hq, e⟩ := List.any_eq_true.mp z
  exact h q hq (of_decide_eq_true e)
theorem mergeK_fresh : ∀ {more kvs : List (Key × V)}, (∀ p ∈ more, ∀ q ∈ kvs, q.1 ≠ p.1) → (more.map (·.1)).Nodup → mergeK kvs more = kvs ++ more
  | [], kvs, _, _ => (List.append_nil _).symm
  | p :: more, kvs, h, nd => by
    have nd' : (p.1 :: more.map (·.1)).Nodup := nd
    rw [List.nodup_cons] at nd'
    show mergeK (putK kvs p.1 p.2) more = _
    rw [putK_fresh (h p (List.mem_cons_self ..)), mergeK_fresh (fun p' hp' q hq => ?_) nd'.2, List.append_assoc]
    · rfl
    · rcases List.mem_append.mp hq with z | z
      · exact h p' (List.mem_cons_of_mem _ hp') q z
      · rw [List.mem_singleton.mp z]
        intro e
        exact nd'.1 (List.mem_map.mpr ⟨p', hp', e.symm⟩)
end L2
set_option linter.all false
namespace Wg
/-! ### weights: the only positive row that evens a table and has no common divisor on any lot -/
/-- tied together, step by step -/
inductive Tied (n : Nat) (b : Nat → Nat → Int) (i : Nat) : Nat → Prop where
  | refl : Tied n b i i
  | step {j k : Nat} (h : Tied n b i j) (hk : k < n) (t : b j k ≠ 0) : Tied n b i k
structure Wt (n : Nat) (b : Nat → Nat → Int) (w : Nat → Nat) : Prop where
  pos : ∀ i, i < n → 0 < w i
  ev : ∀ i j, i < n → j < n → (w i : Int) * b i j = -((w j : Int) * b j i)
  prim : ∀ i, i < n → ∀ g : Nat, (∀ j, j < n → Tied n b i j → g ∣ w j) → g = 1
theorem Tied.lt {n : Nat} {b : Nat → Nat → Int} {i j : Nat} (hi : i < n) (h : Tied n b i j) : j < n := by
  cases h with
  | refl => exact hi
  | step _ hk _ => exact hk
theorem prop_tied {n : Nat} {b : Nat → Nat → Int} {w v : Nat → Nat} {i : Nat} (hi : i < n) (wp : ∀ i, i < n → 0 < w i) (we : ∀ i j, i < n → j < n → (w i : Int) * b i j = -((w j : Int) * b j i)) (ve : ∀ i j, i < n → j < n → (v i : Int) * b i j = -((v j : Int) * b j i)) :
    ∀ {j : Nat}, Tied n b i j → w j * v i = v j * w i := by
  intro j h
  induction h with
  | refl => exact Nat.mul_comm ..
  | @step j k h hk t ih =>
    have hj := h.lt hi
    have e1 := we j k hj hk
    have e2 := ve j k hj hk
    have nk : b k j ≠ 0 := fun z => by
      rw [z, Int.mul_zero, Int.neg_zero] at e1
      rcases Int.mul_eq_zero.mp e1 with h | h
      · have := wp j hj
        omega
      · exact t h
    have ih' : (w j : Int) * v i = v j * w i := by exact_mod_cast ih
    have : ((w k : Int) * v i - v k * w i) * b k j = 0 := by
      have a1 : (w k : Int) * v i * b k j = -((w j : Int) * b j k) * v i := by rw [e1, Int.neg_neg, Int.mul_right_comm]
      have a2 : (v k : Int) * w i * b k j = -((v j : Int) * b j k) * w i := by rw [e2, Int.neg_neg, Int.mul_right_comm]
      rw [Int.sub_mul, a1, a2, Int.neg_mul, Int.neg_mul, Int.mul_right_comm, ih', Int.mul_right_comm (v j : Int) (b j k)]
      omega
    rcases Int.mul_eq_zero.mp this with h | h
    · have : (w k : Int) * v i = v k * w i := by omega
      exact_mod_cast this
    · exact absurd h nk
theorem Wt.uniq {n : Nat} {b : Nat → Nat → Int} {w v : Nat → Nat} (W : Wt n b w) (V : Wt n b v) (i : Nat) (hi : i < n) : w i = v i := by
  have pr : ∀ j, j < n → Tied n b i j → w j * v i = v j * w i := fun j _ h => prop_tied hi W.pos W.ev V.ev h
  have pw := W.pos i hi
  have pv := V.pos i hi
  have gp : 0 < Nat.gcd (w i) (v i) := Nat.gcd_pos_of_pos_left _ pw
  obtain ⟨a, ha⟩ := Nat.gcd_dvd_left (w i) (v i)
  obtain ⟨c, hc⟩ := Nat.gcd_dvd_right (w i) (v i)
  have co : Nat.Coprime a c := by
    have h := Nat.coprime_div_gcd_div_gcd gp
    have e1 : w i / Nat.gcd (w i) (v i) = a := by
      conv => lhs; lhs; rw [ha]
      rw [Nat.mul_div_cancel_left _ gp]
    have e2 : v i / Nat.gcd (w i) (v i) = c := by
      conv => lhs; lhs; rw [hc]
      rw [Nat.mul_div_cancel_left _ gp]
    rw [e1, e2] at h
    exact h
  have key : ∀ j, j < n → Tied n b i j → w j * c = v j * a := fun j hj h => by
    have e := pr j hj h
    refine Nat.eq_of_mul_eq_mul_left gp ?_
    rw [Nat.mul_left_comm, ← hc, Nat.mul_left_comm, ← ha]
    exact e
  have a1 : a = 1 := W.prim i hi a fun j hj h => co.dvd_of_dvd_mul_right (by rw [key j hj h]; exact Nat.dvd_mul_left ..)
  have c1 : c = 1 := V.prim i hi c fun j hj h => co.symm.dvd_of_dvd_mul_right (by rw [← key j hj h]; exact Nat.dvd_mul_left ..)
  rw [a1, Nat.mul_one] at ha
  rw [c1, Nat.mul_one] at hc
  exact ha.trans hc.symm
/-! ### one lot: what the search keeps -/
def keys (f : List (Nat × Nat)) : List Nat := f.map (·.1)
theorem mem_keys {f : List (Nat × Nat)} {i : Nat} : i ∈ keys f ↔ ∃ x, (i, x) ∈ f := by
  unfold keys
  rw [List.mem_map]
  constructor
  · rintro ⟨⟨a, x⟩, h, rfl⟩
    exact ⟨x, h⟩
  · rintro ⟨x, h⟩
    exact ⟨(i, x), h, rfl⟩
structure LI (n : Nat) (b : Nat → Nat → Int) (d : Nat → Nat) (r : Nat) (f : List (Nat × Nat)) (wt : List Nat) : Prop where
  nd : (keys f).Nodup
  lt : ∀ p ∈ f, p.1 < n
  pos : ∀ p ∈ f, 0 < p.2
  bd : ∀ p ∈ f, p.2 ≤ 50 ^ (f.length - 1)
  pr : ∀ p ∈ f, ∀ q ∈ f, p.2 * d q.1 = q.2 * d p.1
  td : ∀ p ∈ f, Tied n b r p.1
  fs : r ∈ keys f
  wk : ∀ i ∈ wt, i ∈ keys f
/-- closed but for what waits -/
def Cl (n : Nat) (b : Nat → Nat → Int) (f : List (Nat × Nat)) (wt : List Nat) : Prop := ∀ k ∈ keys f, k ∉ wt → ∀ l, l < n → b k l ≠ 0 → l ∈ keys f
/-- closed but for what waits and for i, whose ties below j are seen -/
def ClI (n : Nat) (b : Nat → Nat → Int) (f : List (Nat × Nat)) (wt : List Nat) (i j : Nat) : Prop := (∀ k ∈ keys f, k ∉ wt → k ≠ i → ∀ l, l < n → b k l ≠ 0 → l ∈ keys f) ∧ ∀ l, l < j → b i l ≠ 0 → l ∈ keys f
theorem LI.start {n : Nat} {b : Nat → Nat → Int} {d : Nat → Nat} {r : Nat} (hr : r < n) : LI n b d r [(r, 1)] [r] ∧ Cl n b [(r, 1)] [r] := by
  have one : ∀ p ∈ [(r, 1)], p = (r, 1) := fun p hp => List.mem_singleton.mp hp
  refine ⟨⟨by simp [keys], fun p hp => ?_, fun p hp => ?_, fun p hp => ?_, fun p hp q hq => ?_, fun p hp => ?_, by simp [keys], fun i hi => by simpa [keys] using hi⟩, fun k hk hn => absurd (by simpa [keys] using hk) (by simpa using hn)⟩
  · rw [one p hp]; exact hr
  · rw [one p hp]; exact Nat.one_pos
  · rw [one p hp]; exact Nat.le_refl _
  · rw [one p hp, one q hq]
  · rw [one p hp]; exact .refl
theorem Cl.pop {n : Nat} {b : Nat → Nat → Int} {f : List (Nat × Nat)} {wt : List Nat} {i : Nat} (h : Cl n b f (wt ++ [i])) : ClI n b f wt i 0 :=
  ⟨fun k hk hn hne l hl t => h k hk (fun z => by
    rcases List.mem_append.mp z with z | z
    · exact hn z
    · exact hne (List.mem_singleton.mp z)) l hl t, fun l hl => absurd hl (Nat.not_lt_zero _)⟩
theorem ClI.skip {n : Nat} {b : Nat → Nat → Int} {f : List (Nat × Nat)} {wt : List Nat} {i j : Nat} (h : ClI n b f wt i j) (z : b i j = 0 ∨ j ∈ keys f) : ClI n b f wt i (j + 1) :=
  ⟨h.1, fun l hl t => by
    by_cases e : l = j
    · subst e
      rcases z with z | z
      · exact absurd z t
      · exact z
    · exact h.2 l (by omega) t⟩
theorem ClI.done {n : Nat} {b : Nat → Nat → Int} {f : List (Nat × Nat)} {wt : List Nat} {i : Nat} (h : ClI n b f wt i n) : Cl n b f wt := fun k hk hn l hl t => by
  by_cases e : k = i
  · subst e
    exact h.2 l hl t
  · exact h.1 k hk hn e l hl t
/-- j is found from i -/
def growF (b : Nat → Nat → Int) (f : List (Nat × Nat)) (i j x : Nat) : List (Nat × Nat) := (f.map fun p => (p.1, p.2 * (b j i).natAbs)) ++ [(j, x * (b i j).natAbs)]
theorem keys_grow (b : Nat → Nat → Int) (f : List (Nat × Nat)) (i j x : Nat) : keys (growF b f i j x) = keys f ++ [j] := by
  unfold keys growF
  rw [List.map_append, List.map_map]
  rfl
theorem LI.grow {n : Nat} {b : Nat → Nat → Int} {d : Nat → Nat} {r : Nat} {f : List (Nat × Nat)} {wt : List Nat} {i j x : Nat} (h : LI n b d r f wt) (hi : (i, x) ∈ f) (hj : j < n) (t : b i j ≠ 0) (nj : j ∉ keys f)
    (dp : ∀ k, k < n → 0 < d k) (ev : ∀ i j, i < n → j < n → d i * (b i j).natAbs = d j * (b j i).natAbs) (bd : ∀ i j, i < n → j < n → (b i j).natAbs ≤ 50) : LI n b d r (growF b f i j x) (wt ++ [j]) := by
  have hin := h.lt _ hi
  have ti : 0 < (b i j).natAbs := by omega
  have tj : 0 < (b j i).natAbs := by
    have e := ev i j hin hj
    have p1 : 0 < d i * (b i j).natAbs := Nat.mul_pos (dp i hin) ti
    rw [e] at p1
    exact Nat.pos_of_mul_pos_left p1
  have lf : (growF b f i j x).length = f.length + 1 := by
    unfold growF
    rw [List.length_append, List.length_map]
    rfl
  have f1 : 1 ≤ f.length := List.length_pos_of_mem hi
  have mem : ∀ p, p ∈ growF b f i j x → (∃ q ∈ f, p = (q.1, q.2 * (b j i).natAbs)) ∨ p = (j, x * (b i j).natAbs) := fun p hp => by
    unfold growF at hp
    rcases List.mem_append.mp hp with z | z
    · obtain ⟨q, hq, e⟩ := List.mem_map.mp z
      exact .inl ⟨q, hq, e.symm⟩
    · exact .inr (List.mem_singleton.mp z)
  have big : ∀ y m, y ≤ 50 ^ (f.length - 1) → m ≤ 50 → y * m ≤ 50 ^ (f.length + 1 - 1) := fun y m hy hm => by
    have : 50 ^ (f.length + 1 - 1) = 50 ^ (f.length - 1) * 50 := by rw [← Nat.pow_succ]; congr 1; omega
    rw [this]
    exact Nat.mul_le_mul hy hm
  -- what was found keeps its measure against j
  have key : ∀ q ∈ f, q.2 * (b j i).natAbs * d j = x * (b i j).natAbs * d q.1 := fun q hq => by
    have e1 := h.pr q hq (i, x) hi
    have e2 := ev i j hin hj
    have e3 : q.2 * d i = x * d q.1 := e1
    calc q.2 * (b j i).natAbs * d j = q.2 * (d j * (b j i).natAbs) := by rw [Nat.mul_assoc, Nat.mul_comm (b j i).natAbs]
      _ = q.2 * (d i * (b i j).natAbs) := by rw [e2]
      _ = q.2 * d i * (b i j).natAbs := by rw [Nat.mul_assoc]
      _ = x * d q.1 * (b i j).natAbs := by rw [e3]
      _ = x * (b i j).natAbs * d q.1 := by rw [Nat.mul_right_comm]
  refine ⟨?_, fun p hp => ?_, fun p hp => ?_, fun p hp => ?_, fun p hp q hq => ?_, fun p hp => ?_, ?_, fun k hk => ?_⟩
  · rw [keys_grow, List.nodup_append]
    refine ⟨h.nd, (by simp), fun a ha c hc e => ?_⟩
    rw [List.mem_singleton.mp hc] at e
    exact nj (e ▸ ha)
  · rcases mem p hp with ⟨q, hq, rfl⟩ | rfl
    · exact h.lt q hq
    · exact hj
  · rcases mem p hp with ⟨q, hq, rfl⟩ | rfl
    · exact Nat.mul_pos (h.pos q hq) tj
    · exact Nat.mul_pos (h.pos _ hi) ti
  · rw [lf]
    rcases mem p hp with ⟨q, hq, rfl⟩ | rfl
    · exact big _ _ (h.bd q hq) (bd j i hj hin)
    · exact big _ _ (h.bd _ hi) (bd i j hin hj)
  · rcases mem p hp with ⟨p', hp', rfl⟩ | rfl <;> rcases mem q hq with ⟨q', hq', rfl⟩ | rfl
    · show p'.2 * (b j i).natAbs * d q'.1 = q'.2 * (b j i).natAbs * d p'.1
      rw [Nat.mul_right_comm, h.pr p' hp' q' hq', Nat.mul_right_comm]
    · exact key p' hp'
    · exact (key q' hq').symm
    · rfl
  · rcases mem p hp with ⟨q, hq, rfl⟩ | rfl
    · exact h.td q hq
    · exact .step (h.td _ hi) hj t
  · rw [keys_grow]
    exact List.mem_append.mpr (.inl h.fs)
  · rw [keys_grow]
    rcases List.mem_append.mp hk with z | z
    · exact List.mem_append.mpr (.inl (h.wk k z))
    · exact List.mem_append.mpr (.inr z)
theorem ClI.grow {n : Nat} {b : Nat → Nat → Int} {f : List (Nat × Nat)} {wt : List Nat} {i j x : Nat} (h : ClI n b f wt i j) : ClI n b (growF b f i j x) (wt ++ [j]) i (j + 1) := by
  unfold ClI
  rw [keys_grow]
  refine ⟨fun k hk hn hne l hl t => ?_, fun l hl t => ?_⟩
  · rcases List.mem_append.mp hk with z | z
    · exact List.mem_append.mpr (.inl (h.1 k z (fun q => hn (List.mem_append.mpr (.inl q))) hne l hl t))
    · exact absurd (List.mem_append.mpr (.inr z)) hn
  · by_cases e : l = j
    · exact List.mem_append.mpr (.inr (List.mem_singleton.mpr e))
    · exact List.mem_append.mpr (.inl (h.2 l (by omega) t))
end Wg
set_option linter.all false
namespace Wg
/-! ### a lot, divided by what its weights share -/
structure Lot (n : Nat) (b : Nat → Nat → Int) (d : Nat → Nat) (r : Nat) (f : List (Nat × Nat)) : Prop where
  nd : (keys f).Nodup
  lt : ∀ p ∈ f, p.1 < n
  pos : ∀ p ∈ f, 0 < p.2
  bd : ∀ p ∈ f, p.2 ≤ 50 ^ (f.length - 1)
  pr : ∀ p ∈ f, ∀ q ∈ f, p.2 * d q.1 = q.2 * d p.1
  td : ∀ p ∈ f, Tied n b r p.1
  fs : r ∈ keys f
  cl : ∀ k ∈ keys f, ∀ l, l < n → b k l ≠ 0 → l ∈ keys f
  pm : ∀ g : Nat, (∀ p ∈ f, g ∣ p.2) → g = 1
def gcds (f : List (Nat × Nat)) (g : Nat) : Nat := f.foldl (fun g p => Nat.gcd g p.2) g
theorem gcds_dvd : ∀ (f : List (Nat × Nat)) (g : Nat), gcds f g ∣ g ∧ ∀ p ∈ f, gcds f g ∣ p.2
  | [], g => ⟨Nat.dvd_refl _, fun p hp => by cases hp⟩
  | q :: f, g => by
    have h := gcds_dvd f (Nat.gcd g q.2)
    refine ⟨Nat.dvd_trans h.1 (Nat.gcd_dvd_left _ _), fun p hp => ?_⟩
    rcases List.mem_cons.mp hp with rfl | hp
    · exact Nat.dvd_trans h.1 (Nat.gcd_dvd_right _ _)
    · exact h.2 p hp
theorem dvd_gcds {c : Nat} : ∀ (f : List (Nat × Nat)) (g : Nat), c ∣ g → (∀ p ∈ f, c ∣ p.2) → c ∣ gcds f g
  | [], g, h, _ => h
  | q :: f, g, h, k => dvd_gcds f (Nat.gcd g q.2) (Nat.dvd_gcd h (k q (List.mem_cons_self ..))) fun p hp => k p (List.mem_cons_of_mem _ hp)
def divF (f : List (Nat × Nat)) (g : Nat) : List (Nat × Nat) := f.map fun p => (p.1, p.2 / g)
theorem keys_div (f : List (Nat × Nat)) (g : Nat) : keys (divF f g) = keys f := by
  unfold keys divF
  rw [List.map_map]
  rfl
theorem LI.lot {n : Nat} {b : Nat → Nat → Int} {d : Nat → Nat} {r : Nat} {f : List (Nat × Nat)} (h : LI n b d r f []) (c : Cl n b f []) : Lot n b d r (divF f (gcds f 0)) := by
  have dv := gcds_dvd f 0
  obtain ⟨x0, hx0⟩ := mem_keys.mp h.fs
  have gp : 0 < gcds f 0 := Nat.pos_of_dvd_of_pos (dv.2 _ hx0) (h.pos _ hx0)
  have mem : ∀ p, p ∈ divF f (gcds f 0) → ∃ q ∈ f, q.1 = p.1 ∧ q.2 = gcds f 0 * p.2 := fun p hp => by
    obtain ⟨q, hq, rfl⟩ := List.mem_map.mp hp
    exact ⟨q, hq, rfl, (Nat.mul_div_cancel' (dv.2 q hq)).symm⟩
  refine ⟨by rw [keys_div]; exact h.nd, fun p hp => ?_, fun p hp => ?_, fun p hp => ?_, fun p hp q hq => ?_, fun p hp => ?_, by rw [keys_div]; exact h.fs, by rw [keys_div]; exact fun k hk l hl t => c k hk (fun z => by cases z) l hl t, fun g hg => ?_⟩
  · obtain ⟨q, hq, e, _⟩ := mem p hp
    rw [← e]
    exact h.lt q hq
  · obtain ⟨q, hq, _, e⟩ := mem p hp
    have := h.pos q hq
    rw [e] at this
    exact Nat.pos_of_mul_pos_left this
  · obtain ⟨q, hq, _, e⟩ := mem p hp
    have := h.bd q hq
    have l : (divF f (gcds f 0)).length = f.length := by
      unfold divF
      rw [List.length_map]
    rw [l]
    refine Nat.le_trans ?_ this
    rw [e]
    exact Nat.le_mul_of_pos_left _ gp
  · obtain ⟨p', hp', e1, e2⟩ := mem p hp
    obtain ⟨q', hq', e3, e4⟩ := mem q hq
    have := h.pr p' hp' q' hq'
    rw [e1, e2, e3, e4, Nat.mul_assoc, Nat.mul_assoc] at this
    exact Nat.eq_of_mul_eq_mul_left gp this
  · obtain ⟨q, hq, e, _⟩ := mem p hp
    rw [← e]
    exact h.td q hq
  · have hd : gcds f 0 * g ∣ gcds f 0 := dvd_gcds f 0 (Nat.dvd_zero _) fun p hp => by
      have e := (Nat.mul_div_cancel' (dv.2 p hp))
      rw [← e]
      exact Nat.mul_dvd_mul_left _ (hg _ (List.mem_map.mpr ⟨p, hp, rfl⟩))
    obtain ⟨m, hm⟩ := hd
    have : gcds f 0 * 1 = gcds f 0 * (g * m) := by rw [Nat.mul_one, ← Nat.mul_assoc]; exact hm
    have := Nat.eq_of_mul_eq_mul_left gp this
    exact Nat.eq_one_of_mul_eq_one_right this.symm
/-! ### all lots together -/
theorem Tied.trans {n : Nat} {b : Nat → Nat → Int} {i j k : Nat} (h : Tied n b i j) (h2 : Tied n b j k) : Tied n b i k := by
  induction h2 with
  | refl => exact h
  | step _ hk t ih => exact .step ih hk t
theorem Tied.symm {n : Nat} {b : Nat → Nat → Int} (nz : ∀ i j, i < n → j < n → b i j ≠ 0 → b j i ≠ 0) {i j : Nat} (hi : i < n) (h : Tied n b i j) : Tied n b j i := by
  induction h with
  | refl => exact .refl
  | @step j k h hk t ih => exact Tied.trans (.step .refl (h.lt hi) (nz _ _ (h.lt hi) hk t)) ih
theorem Lot.closed {n : Nat} {b : Nat → Nat → Int} {d : Nat → Nat} {r : Nat} {f : List (Nat × Nat)} (h : Lot n b d r f) {i j : Nat} (hi : i ∈ keys f) (t : Tied n b i j) : j ∈ keys f := by
  induction t with
  | refl => exact hi
  | step _ hk t ih => exact h.cl _ ih _ hk t
/-- the weights found so far: whole lots -/
structure Lots (n : Nat) (b : Nat → Nat → Int) (d : Nat → Nat) (F : List (Nat × Nat)) : Prop where
  nd : (keys F).Nodup
  lot : ∀ p ∈ F, ∃ r f, Lot n b d r f ∧ p ∈ f ∧ ∀ q ∈ f, q ∈ F
theorem Lots.nil {n : Nat} {b : Nat → Nat → Int} {d : Nat → Nat} : Lots n b d [] := ⟨by simp [keys], fun p hp => by cases hp⟩
theorem Lots.apart {n : Nat} {b : Nat → Nat → Int} {d : Nat → Nat} {F f : List (Nat × Nat)} {r : Nat} (nz : ∀ i j, i < n → j < n → b i j ≠ 0 → b j i ≠ 0) (h : Lots n b d F) (l : Lot n b d r f) (hr : r ∉ keys F) : ∀ k ∈ keys f, k ∉ keys F := fun k hk z => by
  obtain ⟨x, hx⟩ := mem_keys.mp z
  obtain ⟨r', f', l', m', s'⟩ := h.lot _ hx
  obtain ⟨y, hy⟩ := mem_keys.mp hk
  obtain ⟨z0, hz0⟩ := mem_keys.mp l.fs
  have t := Tied.symm nz (l.lt _ hz0) (l.td _ hy)
  obtain ⟨u, hu⟩ := mem_keys.mp (l'.closed (mem_keys.mpr ⟨x, m'⟩) t)
  exact hr (mem_keys.mpr ⟨u, s' _ hu⟩)
theorem Lots.add {n : Nat} {b : Nat → Nat → Int} {d : Nat → Nat} {F f : List (Nat × Nat)} {r : Nat} (nz : ∀ i j, i < n → j < n → b i j ≠ 0 → b j i ≠ 0) (h : Lots n b d F) (l : Lot n b d r f) (hr : r ∉ keys F) : Lots n b d (F ++ f) := by
  refine ⟨?_, fun p hp => ?_⟩
  · unfold keys
    rw [List.map_append, List.nodup_append]
    exact ⟨h.nd, l.nd, fun a ha c hc e => h.apart nz l hr c hc (e ▸ ha)⟩
  · rcases List.mem_append.mp hp with z | z
    · obtain ⟨r', f', l', m', s'⟩ := h.lot p z
      exact ⟨r', f', l', m', fun q hq => List.mem_append.mpr (.inl (s' q hq))⟩
    · exact ⟨r, f, l, z, fun q hq => List.mem_append.mpr (.inr hq)⟩
/-- what stands at a key -/
def valAt (F : List (Nat × Nat)) (i : Nat) : Nat := (F.lookup i).getD 0
theorem valAt_of : ∀ {F : List (Nat × Nat)} {i x : Nat}, (keys F).Nodup → (i, x) ∈ F → valAt F i = x
  | [], _, _, _, h => by cases h
  | (k, y) :: F, i, x, nd, h => by
    have nd' : (k :: keys F).Nodup := nd
    rw [List.nodup_cons] at nd'
    unfold valAt
    rcases List.mem_cons.mp h with e | e
    · cases e
      rw [List.lookup_cons, beq_self_eq_true]
      rfl
    · have : (i == k) = false := by
        rw [beq_eq_false_iff_ne]
        intro z
        exact nd'.1 (z ▸ mem_keys.mpr ⟨x, e⟩)
      rw [List.lookup_cons, this]
      exact valAt_of nd'.2 e
theorem Lots.wt {n : Nat} {b : Nat → Nat → Int} {d : Nat → Nat} {F : List (Nat × Nat)} (h : Lots n b d F) (all : ∀ i, i < n → i ∈ keys F) (dp : ∀ k, k < n → 0 < d k) (ev : ∀ i j, i < n → j < n → (d i : Int) * b i j = -((d j : Int) * b j i)) : Wt n b (valAt F) := by
  have nz : ∀ i j, i < n → j < n → b i j ≠ 0 → b j i ≠ 0 := fun i j hi hj t z => by
    have e := ev i j hi hj
    rw [z, Int.mul_zero, Int.neg_zero] at e
    rcases Int.mul_eq_zero.mp e with h | h
    · have := dp i hi
      omega
    · exact t h
  refine ⟨fun i hi => ?_, fun i j hi hj => ?_, fun i hi g hg => ?_⟩
  · obtain ⟨x, hx⟩ := mem_keys.mp (all i hi)
    obtain ⟨r, f, l, m, _⟩ := h.lot _ hx
    rw [valAt_of h.nd hx]
    exact l.pos _ m
  · by_cases t : b i j = 0
    · have : b j i = 0 := Classical.byContradiction fun z => nz j i hj hi z t
      rw [t, this, Int.mul_zero, Int.mul_zero]
      rfl
    · obtain ⟨x, hx⟩ := mem_keys.mp (all i hi)
      obtain ⟨r, f, l, m, s⟩ := h.lot _ hx
      obtain ⟨y, hy⟩ := mem_keys.mp (l.cl i (mem_keys.mpr ⟨x, m⟩) j hj t)
      rw [valAt_of h.nd hx, valAt_of h.nd (s _ hy)]
      have e1 : x * d j = y * d i := l.pr _ m _ hy
      have e1' : (x : Int) * d j = y * d i := by exact_mod_cast e1
      have e2 := ev i j hi hj
      have dj : (d j : Int) ≠ 0 := by
        have := dp j hj
        omega
      refine Int.eq_of_mul_eq_mul_right dj ?_
      rw [Int.mul_right_comm, e1', Int.neg_mul, Int.mul_right_comm (y : Int) (b j i), Int.mul_assoc, e2, Int.mul_neg, ← Int.mul_assoc]
  · obtain ⟨x, hx⟩ := mem_keys.mp (all i hi)
    obtain ⟨r, f, l, m, s⟩ := h.lot _ hx
    refine l.pm g fun p hp => ?_
    have hr : r < n := by
      obtain ⟨z, hz⟩ := mem_keys.mp l.fs
      exact l.lt _ hz
    have t : Tied n b i p.1 := (Tied.symm nz hr (l.td _ m)).trans (l.td p hp)
    have := hg p.1 (l.lt p hp) t
    rw [valAt_of h.nd (s p hp)] at this
    exact this
end Wg
set_option Elab.async false
set_option linter.all false
set_option maxRecDepth 100000
set_option maxHeartbeats 4000000
namespace Bw
open PySem PySem.Spec PyProof.Rows L2
section
variable {P : Program} {w : World} {K : PySem.W.Frag} {mg : Str → Option Value} {base : Heap}
/-! ### common -/
abbrev s_common : Stmt := topS 19
abbrev n_common : List Str := ["one", "other"]
theorem sc_common : FnScope n_common ["one", "other"] (defScope s_common) := ⟨rfl, rfl, rfl, by decide +kernel, rfl, by decide +kernel, by decide +kernel⟩
theorem ok_common {f : Addr} {fd : FuncData} {k : Nat} (F : Fun K "common" "common" s_common f fd) (T : Tx mg) : FnOk P w K mg base CX0 (k + 1) f fd ["one", "other"] spGcd := by
  refine F.ok sc_common (fun vs H Q E h => ?_) (fun cdv A outer s H vs Q E hr h => ?_)
  · obtain ⟨a, b, rfl, _⟩ := h
    rfl
  · obtain ⟨a, b, rfl, q⟩ := h
    refine ⟨_, (pss_cons (ps_set (i := 0) sc_common.nd rfl (.inl rfl) (pe_callB call_abs (by rfl) T.abs (by decide +kernel) (pa_cons (pv 0) pa_nil)))
  (pss_cons (ps_set (i := 1) sc_common.nd rfl (.inl rfl) (pe_callB call_abs (by rfl) T.abs (by decide +kernel) (pa_cons (pv 1) pa_nil)))
  (pss_cons (ps_while PassesOwn.never (pt_cmpR op_ne (pv 1) pe_int (nomark _))
    (pss_one (ps_par (i := 0) (j := 1) (by rfl) sc_common.nd rfl rfl (by decide) rfl rfl (pa_cons (pv 1) (pa_cons (pe_op op_mod (pv 0) (pv 1)) pa_nil)) (by rfl))))
  (pss_one (ps_ret (pv 0)))))), ?_⟩
    refine ⟨_, rfl, _, rfl, ?_⟩
    rw [if_neg (by omega)]
    refine ⟨_, rfl, _, rfl, ?_⟩
    rw [if_neg (by omega)]
    refine while_by (fun σ H' => ∃ x y : Nat, σ = [some (.int x), some (.int y)] ∧ Nat.gcd x y = Nat.gcd a b ∧ H' = H) (fun σ _ => match σ with | [_, some (.int y)] => y.toNat | _ => 0) ⟨a, b, rfl, rfl, rfl⟩ ?_ ?_
    · rintro σ H' ⟨x, y, rfl, hg, rfl⟩
      refine ⟨.int y, rfl, rfl, _, rfl, ?_⟩
      by_cases hy : y = 0
      · subst hy
        rw [decide_eq_true (show V.int ((0 : Nat) : Int) = V.int 0 from rfl)]
        refine iteF ⟨_, rfl, ?_⟩
        rw [Nat.gcd_zero_right] at hg
        rw [hg]
        exact q
      · rw [decide_eq_false (fun z : V.int (y : Int) = V.int 0 => hy (by injection z with z; omega))]
        refine iteT ⟨_, rfl, _, rfl, _, rfl, _, _, rfl, rfl, (by show (0 : Int) < (y : Int); omega), _, _, rfl, ?_, ?_⟩
        · refine ⟨y, x % y, rfl, ?_, rfl⟩
          rw [← hg, Nat.gcd_comm y (x % y), ← Nat.gcd_rec y x, Nat.gcd_comm]
        · show ((x : Int) % (y : Int)).toNat < ((y : Int)).toNat
          have h1 := Int.emod_lt_of_pos (x : Int) (show (0 : Int) < (y : Int) by omega)
          have h2 := Int.emod_nonneg (x : Int) (show (y : Int) ≠ 0 by omega)
          omega
    · rintro σ H' Q1 Q2 hq ⟨v, e, e2, k, t, q1⟩
      exact ⟨v, e, e2, k, t, hq _ _ q1⟩
end
end Bw
set_option Elab.async false
set_option linter.all false
set_option maxRecDepth 100000
set_option maxHeartbeats 4000000
namespace Bw
open PySem PySem.Spec PyProof.Rows L2
/-! ### weights, over what one lot gives -/
def kvF (f : List (Nat × Nat)) : List (Key × V) := f.map fun p => (.inl (p.1 : Int), .int p.2)
structure Dv (rows : List (List Int)) (n : Nat) (d : Nat → Nat) : Prop where
  pos : ∀ i, i < n → 0 < d i
  ev : ∀ i j, i < n → j < n → (d i : Int) * ent rows i j = -((d j : Int) * ent rows j i)
theorem TabOk.dv {rows : List (List Int)} {n : Nat} (O : TabOk rows n) : ∃ d, Dv rows n d := by
  obtain ⟨d, h1, h2⟩ := O.even
  refine ⟨fun i => (d i).toNat, fun i hi => by have := h1 i hi; omega, fun i j hi hj => ?_⟩
  have e1 : (((d i).toNat : Nat) : Int) = d i := by have := h1 i hi; omega
  have e2 : (((d j).toNat : Nat) : Int) = d j := by have := h1 j hj; omega
  show (((d i).toNat : Nat) : Int) * _ = -((((d j).toNat : Nat) : Int) * _)
  rw [e1, e2]
  exact h2 i j hi hj
theorem kvF_merge {F f : List (Nat × Nat)} (h : ∀ k ∈ Wg.keys f, k ∉ Wg.keys F) (nd : (Wg.keys f).Nodup) : mergeK (kvF F) (kvF f) = kvF (F ++ f) := by
  have a1 : ∀ p ∈ kvF f, ∀ q ∈ kvF F, q.1 ≠ p.1 := fun p hp q hq e => by
    obtain ⟨p', hp', rfl⟩ := List.mem_map.mp hp
    obtain ⟨q', hq', rfl⟩ := List.mem_map.mp hq
    have e : (q'.1 : Int) = p'.1 := Sum.inl.inj e
    have e : q'.1 = p'.1 := by omega
    exact h p'.1 (Wg.mem_keys.mpr ⟨p'.2, hp'⟩) (e ▸ Wg.mem_keys.mpr ⟨q'.2, hq'⟩)
  have a2 : ((kvF f).map (·.1)).Nodup := by
    have e : (kvF f).map (·.1) = (Wg.keys f).map fun (i : Nat) => (Sum.inl (i : Int) : Key) := by
      unfold kvF Wg.keys
      rw [List.map_map, List.map_map]
      rfl
    rw [e]
    have inj : ∀ l : List Nat, l.Nodup → (l.map fun (i : Nat) => (Sum.inl (i : Int) : Key)).Nodup := fun l => by
      induction l with
      | nil => intro _; exact List.nodup_nil
      | cons x l ih =>
        intro nd
        rw [List.nodup_cons] at nd
        rw [List.map_cons, List.nodup_cons]
        refine ⟨fun z => ?_, ih nd.2⟩
        obtain ⟨y, hy, ey⟩ := List.mem_map.mp z
        have e : (y : Int) = x := Sum.inl.inj ey
        have e : y = x := by omega
        exact nd.1 (e ▸ hy)
    exact inj _ nd
  rw [mergeK_fresh a1 a2]
  unfold kvF
  rw [List.map_append]
theorem kvF_val : ∀ {F : List (Nat × Nat)} {i x : Nat}, (Wg.keys F).Nodup → (i, x) ∈ F → valV (kvF F) (.inl (i : Int)) = some (.int x)
  | [], _, _, _, h => by cases h
  | (k, y) :: F, i, x, nd, h => by
    have nd' : (k :: Wg.keys F).Nodup := nd
    rw [List.nodup_cons] at nd'
    rcases List.mem_cons.mp h with e | e
    · cases e
      show Option.map _ (List.find? _ ((Sum.inl (k : Int), V.int y) :: kvF F)) = _
      rw [List.find?_cons_of_pos (by simp)]
      rfl
    · have ne : ¬ ((Sum.inl (k : Int) : Key) = Sum.inl (i : Int)) := fun z => by
        have : (k : Int) = i := Sum.inl.inj z
        have : k = i := by omega
        exact nd'.1 (this ▸ Wg.mem_keys.mpr ⟨x, e⟩)
      show Option.map _ (List.find? _ ((Sum.inl (k : Int), V.int y) :: kvF F)) = _
      rw [List.find?_cons_of_neg (by simpa using ne)]
      exact kvF_val nd'.2 e
theorem kvF_none {F : List (Nat × Nat)} {i : Nat} (h : i ∉ Wg.keys F) : valV (kvF F) (.inl (i : Int)) = none := by
  unfold valV
  rw [List.find?_eq_none.mpr (fun q hq z => ?_)]
  · rfl
  · obtain ⟨q', hq', rfl⟩ := List.mem_map.mp hq
    have e : (q'.1 : Int) = i := Sum.inl.inj (of_decide_eq_true z)
    have e : q'.1 = i := by omega
    exact h (e ▸ Wg.mem_keys.mpr ⟨q'.2, hq'⟩)
end Bw
set_option Elab.async false
set_option linter.all false
set_option maxRecDepth 100000
set_option maxHeartbeats 4000000
namespace Bw
open PySem PySem.Spec PyProof.Rows L2
theorem nodup_len : ∀ (n : Nat) (l : List Nat), l.Nodup → (∀ x ∈ l, x < n) → l.length ≤ n
  | 0, l, _, h => by
    cases l with
    | nil => exact Nat.le_refl _
    | cons x l => exact absurd (h x (List.mem_cons_self ..)) (Nat.not_lt_zero _)
  | n + 1, l, nd, h => by
    by_cases z : n ∈ l
    · have e := List.length_erase_of_mem z
      have i := nodup_len n (l.erase n) (nd.erase n) fun x hx => by
        have k := (nd.mem_erase_iff).mp hx
        have := h x k.2
        omega
      omega
    · have := nodup_len n l nd fun x hx => by
        have := h x hx
        have : x ≠ n := fun e => z (e ▸ hx)
        omega
      omega
theorem lots_len {n : Nat} {b : Nat → Nat → Int} {d : Nat → Nat} {F : List (Nat × Nat)} (L : Wg.Lots n b d F) : F.length ≤ n := by
  have := nodup_len n (Wg.keys F) L.nd fun x hx => by
    obtain ⟨y, hy⟩ := Wg.mem_keys.mp hx
    obtain ⟨r, f, l, m, _⟩ := L.lot _ hy
    exact l.lt _ m
  unfold Wg.keys at this
  rw [List.length_map] at this
  exact this
section
variable {P : Program} {w : World} {K : PySem.W.Frag} {mg : Str → Option Value} {base : Heap}
def spLot : Sp := fun vs H Q _ => ∃ (a : Addr) (rows : List (List Int)) (n r : Nat) (d : Nat → Nat), vs = [.ref a, .int r] ∧ TabAt H a rows ∧ TabOk rows n ∧ Dv rows n d ∧ r < n ∧ ∀ (o : Addr) (f : List (Nat × Nat)) (H' : Hp), Same H H' → H o = none → H' o = some (.dK (kvF f)) → Wg.Lot n (ent rows) d r f → Q (.ref o) H'
def spWeights : Sp := fun vs H Q _ => ∃ (a : Addr) (rows : List (List Int)) (n : Nat), vs = [.ref a] ∧ TabAt H a rows ∧ TabOk rows n ∧ ∀ (p : Addr) (W : Nat → Nat) (H' : Hp), Same H H' → H' p = some (.tup ((List.range n).map fun i => .int (W i))) → Wg.Wt n (ent rows) W → Q (.ref p) H'
abbrev s_weights : Stmt := topS 45
abbrev n_weights : List Str := ["table", "found", "bud"]
theorem sc_weights : FnScope n_weights ["table"] (defScope s_weights) := ⟨rfl, rfl, rfl, by decide +kernel, rfl, by decide +kernel, by decide +kernel⟩
theorem ok_weights {f : Addr} {fd : FuncData} (F : Fun K "weights" "weights" s_weights f fd) (T : Tx mg) (c_check_table : Cal P w K mg base CX0 5 "check_table" ["table"] spGood) (c_bud_count : Cal P w K mg base CX0 1 "bud_count" ["table"] spBuds) (c_lot_weights : Cal P w K mg base CX0 3 "lot_weights" ["table", "first"] spLot) : FnOk P w K mg base CX0 6 f fd ["table"] spWeights := by
  refine F.ok sc_weights (fun vs H Q E h => ?_) (fun cdv A outer s H vs Q E hr h => ?_)
  · obtain ⟨a, rows, n, rfl, _⟩ := h
    rfl
  · obtain ⟨a, rows, n, rfl, hT, O, q⟩ := h
    have hu := hr.units
    have hr1 := hr.mono (show 1 ≤ 5 by decide)
    have hr3 := hr.mono (show 3 ≤ 5 by decide)
    refine ⟨_, (pss_cons (ps_expr (pe_cal c_check_table hr (by rfl) (pa_cons (pv 0) pa_nil)))
  (pss_cons (ps_set (i := 1) sc_weights.nd rfl (.inr rfl) pe_dnewK)
  (pss_cons (ps_for PassesOwn.never rfl (pi_range1 (by rfl) T.range (pa_cons (pe_cal c_bud_count hr1 (by rfl) (pa_cons (pv 0) pa_nil)) pa_nil)) (pg_name (i := 2) sc_weights.nd rfl (.inl rfl))
    (pss_one (ps_if (pt_cmp (pc_dnotin (show _ < _ by have := hu; exact Nat.lt_of_le_of_lt (Nat.add_le_add_left (by decide) _) this) (pv 2) (pv 1)))
      (pss_one (ps_expr (pe_bm PySem.F.plainAttrs_dict PySem.F.slot_dict_update PySem.F.type_dict_update mtd_update (pv 1) (pa_cons (pe_cal c_lot_weights hr3 (by rfl) (pa_cons (pv 0) (pa_cons (pv 2) pa_nil))) pa_nil))))
      pss_nil)))
  (pss_one (ps_ret (pe_callTy (c_tup (K := K)) (by rfl) T.tuple (by decide +kernel) (pa_cons (pe_lc (own := [("bud", 2)]) (by rfl) sc_weights.nd (pi_range1 (by rfl) T.range (pa_cons (pe_cal c_bud_count hr1 (by rfl) (pa_cons (pv 0) pa_nil)) pa_nil)) (blkOk_by (own := [("bud", 2)]) (N := n_weights) (sc := defScope s_weights) (by decide +kernel)) (fun _ _ _ _ _ => (pg_name (i := 2) sc_weights.nd rfl (.inl rfl))) (fun _ _ _ _ _ => pts_nil) (fun _ _ _ _ _ => (pe_dget (show _ < _ by have := hu; exact Nat.lt_of_le_of_lt (Nat.add_le_add_left (by decide) _) this) (pv 1) (pv 2) (fun _ _ => rfl)))) pa_nil))))))), ?_⟩
    obtain ⟨d, D⟩ := O.dv
    have n1 := O.n1
    have n4 := O.n4
    have ln := O.len
    have nz : ∀ i j, i < n → j < n → ent rows i j ≠ 0 → ent rows j i ≠ 0 := fun i j hi hj t z => by
      have e := D.ev i j hi hj
      rw [z, Int.mul_zero, Int.neg_zero] at e
      rcases Int.mul_eq_zero.mp e with h | h
      · have := D.pos i hi
        omega
      · exact t h
    refine ⟨.ref a, rfl, a, rows, n, rfl, hT, O, fun H1 s1 => ?_⟩
    intro p ep
    have hp : H p = none := by
      cases z : H p with
      | none => rfl
      | some o =>
        rw [s1 _ _ z] at ep
        cases ep
    have s2 : Same H (upd H1 p (.dK [])) := Same.updN s1 hp
    refine ⟨.ref a, rfl, a, rows, n, rfl, hT.same s2, by omega, O.wide, n, rfl, by omega, by omega, for_range (fun m σ H' => ∃ (y2 : Option V) (F : List (Nat × Nat)), σ = [some (.ref a), some (.ref p), y2] ∧ H' p = some (.dK (kvF F)) ∧ Same H H' ∧ Wg.Lots n (ent rows) d F ∧ F.length ≤ n ∧ ∀ i, i < m → i ∈ Wg.keys F) ⟨none, [], rfl, upd_same, s2, .nil, Nat.zero_le _, fun i hi => absurd hi (Nat.not_lt_zero _)⟩ ?_ ?_⟩
    · rintro i σ H2 hi ⟨y2, F, rfl, e2, s3, L, lF, all⟩
      have hi : i < n := hi
      have e0 : (0 : Int) + (i : Int) = (i : Int) := by omega
      rw [e0]
      refine ⟨.int i, rfl, .ref p, rfl, p, valV (kvF F) (.inl (i : Int)), rfl, DGet.k (k := .inl (i : Int)) e2, _, rfl, ?_⟩
      by_cases hin : i ∈ Wg.keys F
      · obtain ⟨x, hx⟩ := Wg.mem_keys.mp hin
        rw [kvF_val L.nd hx]
        refine iteF ⟨_, F, rfl, e2, s3, L, lF, fun j hj => ?_⟩
        by_cases z : j = i
        · exact z ▸ hin
        · exact all j (by omega)
      · rw [kvF_none hin]
        refine iteT ⟨.ref p, rfl, (.inr (.inr (.inl ⟨rfl, .inl ⟨_, e2⟩⟩))), .ref a, rfl, .int i, rfl, a, rows, n, i, d, rfl, hT.same s3, O, D, hi, fun o f' H3 s4 o0 e3 lot => ?_⟩
        have L' := L.add nz lot hin
        have ne : p ≠ o := fun z => by
          rw [z, o0] at e2
          cases e2
        have lk : (kvF F).length + (kvF f').length ≤ n := by
          have := lots_len L'
          rw [List.length_append] at this
          unfold kvF
          rw [List.length_map, List.length_map]
          exact this
        refine ⟨p, o, kvF F, kvF f', rfl, rfl, ne, s4 _ _ e2, e3, Nat.le_of_lt (small1000 (by omega)), ?_⟩
        rw [kvF_merge (L.apart nz lot hin) lot.nd]
        refine ⟨_, F ++ f', rfl, upd_same, Same.updN (s3.trans s4) hp, L', lots_len L', fun j hj => ?_⟩
        unfold Wg.keys
        rw [List.map_append]
        by_cases z : j = i
        · exact List.mem_append.mpr (.inr (z ▸ lot.fs))
        · exact List.mem_append.mpr (.inl (all j (by omega)))
    · rintro σ H2 ⟨y2, F, rfl, e2, s3, L, lF, all⟩
      have Wtt := L.wt (fun i hi => all i hi) D.pos D.ev
      refine ⟨.ref a, rfl, a, rows, n, rfl, hT.same s3, by omega, O.wide, n, rfl, by omega, by omega, fun D' eD => ?_⟩
      have hD : H D' = none := by
        cases z : H D' with
        | none => rfl
        | some o =>
          rw [s3 _ _ z] at eD
          cases eD
      have pD : p ≠ D' := fun z => by
        rw [z, eD] at e2
        cases e2
      refine lc_range (fun j H' => H' D' = some (.lst ((List.range j).map fun i => V.int (Wg.valAt F i))) ∧ Same H H' ∧ H' p = some (.dK (kvF F))) ⟨upd_same, Same.updN s3 hD, by rw [upd_ne pD]; exact e2⟩ ?_ ?_
      · rintro j H3 hj ⟨e3, s4, e4⟩
        have hj : j < n := hj
        have e0 : (0 : Int) + (j : Int) = (j : Int) := by omega
        rw [e0]
        obtain ⟨x, hx⟩ := Wg.mem_keys.mp (all j hj)
        have hv : valV (kvF F) (.inl (j : Int)) = some (.int (Wg.valAt F j)) := by
          rw [Wg.valAt_of L.nd hx]
          exact kvF_val L.nd hx
        have dg := DGet.k (k := .inl (j : Int)) e4
        rw [hv] at dg
        refine ⟨rfl, .ref p, rfl, .int j, rfl, p, _, rfl, dg, _, e3, by rw [List.length_map, List.length_range]; exact small1000 (by omega), ?_, Same.updN s4 hD, by rw [upd_ne pD]; exact e4⟩
        rw [upd_same, List.range_succ, List.map_append]
        rfl
      · rintro H3 ⟨e3, s4, e4⟩
        refine ⟨D', _, rfl, .inl ⟨SqL.of e3, fun b eb => ?_⟩⟩
        exact q b (Wg.valAt F) _ (s4.trans (same_upd eb)) upd_same Wtt
end
end Bw
set_option Elab.async false
set_option linter.all false
set_option maxRecDepth 100000
set_option maxHeartbeats 2000000
/-! ### dict comprehensions over any walk; a while by a measure that the invariant tells -/
namespace L2
open PySem PySem.Spec PyProof.Rows
theorem dc_it {J : It} {n : Nat} {G : Hp → Prop} {Y : Nat → Hp → V → Hp → Prop} (w : Walk J n G Y) {g : TG} {tt : TT} {tk tv : TE} {vs : List Nat} {σ : St} {H1 : Hp} {D : Addr} {Qd : Hp → Prop} (Pv : Nat → Hp → Prop) (h0 : Pv 0 (upd H1 D (.dK []))) (hG : ∀ i H, i ≤ n → Pv i H → G H)
    (hs : ∀ i x H H', i < n → Pv i H → Y i H x H' → g x (wipe σ vs) H' fun σ2 H2 => wipe σ2 vs = wipe σ vs ∧ tt σ2 H2 fun b H3 =>
      if b = true then tk σ2 H3 fun y H4 => tv σ2 H4 fun z H5 => ∃ kvs k, y = kV k ∧ H5 D = some (.dK kvs) ∧ kvs.length < sizeLine ∧ Pv (i + 1) (upd H5 D (.dK (putK kvs k z))) else Pv (i + 1) H3) (hd : ∀ H, Pv n H → Qd H) :
    ∃ W : Nat → Nat → Hp → Prop, (∃ m, W 0 m (upd H1 D (.dK []))) ∧ ∀ i m H, W i m H →
      (J.stop i H ∧ Qd H) ∨ (J.go i H ∧ ∃ Nx : Hp → Prop, (∀ H', Nx H' → ∃ m', m' < m ∧ W (i + 1) m' H') ∧ ∀ x H', J.yld i H x H' → g x (wipe σ vs) H' fun σ2 H2 => wipe σ2 vs = wipe σ vs ∧ tt σ2 H2 fun b H3 =>
        if b = true then tk σ2 H3 fun y H4 => tv σ2 H4 fun z H5 => ∃ kvs k, y = kV k ∧ H5 D = some (.dK kvs) ∧ kvs.length < sizeLine ∧ Nx (upd H5 D (.dK (putK kvs k z))) else Nx H3) := by
  refine ⟨fun i m H => m = n - i ∧ i ≤ n ∧ Pv i H, ⟨n, by simp, Nat.zero_le _, h0⟩, ?_⟩
  rintro i m H ⟨rfl, hi, p⟩
  have q := hG i H hi p
  by_cases hlt : i < n
  · exact .inr ⟨w.goes i H hlt q, Pv (i + 1), fun H' p' => ⟨n - (i + 1), by omega, rfl, hlt, p'⟩, fun x H' y => hs i x H H' hlt p (w.yields i H x H' hlt q y)⟩
  · have e : i = n := by omega
    subst e
    exact .inl ⟨w.stops H q, hd H p⟩
theorem while_m {c : TT} {tb : TS} {D : Ends} {σ : St} {H : Hp} (Pv : Nat → St → Hp → Prop) {m0 : Nat} (h0 : Pv m0 σ H)
    (hs : ∀ m σ H, Pv m σ H → c σ H fun b H1 => if b = true then tb { D with nx := fun σ' H' => ∃ m', m' < m ∧ Pv m' σ' H', ct := fun σ' H' => ∃ m', m' < m ∧ Pv m' σ' H', bk := D.nx } σ H1 else D.nx σ H1)
    (mono : ∀ σ H Q Q', (∀ b H1, Q b H1 → Q' b H1) → c σ H Q → c σ H Q') : tWhile c tb D σ H := by
  refine ⟨Pv, ⟨_, h0⟩, ?_⟩
  rintro m σ H p
  refine mono σ H _ _ (fun b H1 q => ?_) (hs m σ H p)
  cases b with
  | true => exact ⟨_, fun σ' H' k => k, q⟩
  | false => exact q
theorem DGet.kf {H : Hp} {a : Addr} {od : Obj} {kvs : List (Key × V)} {k : Key} (e : H a = some (.frz od (.dK kvs))) : DGet H a (kV k) (valV kvs k) := .inl ⟨kvs, k, .inr ⟨od, e⟩, rfl, rfl⟩
end L2
set_option Elab.async false
set_option linter.all false
set_option maxRecDepth 100000
set_option maxHeartbeats 4000000
namespace Bw
open PySem PySem.Spec PyProof.Rows L2
/-! ### a dict of weights, mapped -/
theorem kvF_get {f : List (Nat × Nat)} {k : Nat} {kk : Key} {v : V} (e : (kvF f)[k]? = some (kk, v)) : ∃ x y : Nat, f[k]? = some (x, y) ∧ kk = .inl (x : Int) ∧ v = .int y := by
  unfold kvF at e
  rw [List.getElem?_map] at e
  cases z : f[k]? with
  | none =>
    rw [z] at e
    cases e
  | some p =>
    rw [z] at e
    cases e
    exact ⟨p.1, p.2, rfl, rfl, rfl⟩
theorem kvF_len (f : List (Nat × Nat)) : (kvF f).length = f.length := List.length_map ..
theorem kvF_put {F : List (Nat × Nat)} {i x : Nat} (h : i ∉ Wg.keys F) : putK (kvF F) (.inl (i : Int)) (.int x) = kvF (F ++ [(i, x)]) := by
  rw [putK_fresh]
  · unfold kvF
    rw [List.map_append]
    rfl
  · intro q hq z
    obtain ⟨q', hq', rfl⟩ := List.mem_map.mp hq
    have e : (q'.1 : Int) = i := Sum.inl.inj z
    have e : q'.1 = i := by omega
    exact h (e ▸ Wg.mem_keys.mpr ⟨q'.2, hq'⟩)
theorem mapF_fresh {f : List (Nat × Nat)} {k x y : Nat} (h : Nat × Nat → Nat) (nd : (Wg.keys f).Nodup) (e : f[k]? = some (x, y)) : x ∉ Wg.keys ((f.take k).map fun p => (p.1, h p)) := by
  intro z
  have e1 : Wg.keys ((f.take k).map fun p => (p.1, h p)) = (Wg.keys f).take k := by
    unfold Wg.keys
    rw [List.map_map, List.map_take]
    rfl
  rw [e1] at z
  have e2 : (Wg.keys f)[k]? = some x := by
    unfold Wg.keys
    rw [List.getElem?_map, e]
    rfl
  obtain ⟨j, hj⟩ := List.mem_iff_getElem?.mp z
  rw [List.getElem?_take] at hj
  split at hj
  · rename_i hlt
    have := (List.getElem?_inj (List.getElem?_eq_some_iff.mp e2).1 nd).mp (e2.trans hj.symm)
    omega
  · cases hj
theorem mapF_succ {f : List (Nat × Nat)} {k x y : Nat} (h : Nat × Nat → Nat) (e : f[k]? = some (x, y)) : (f.take (k + 1)).map (fun p => (p.1, h p)) = (f.take k).map (fun p => (p.1, h p)) ++ [(x, h (x, y))] := by
  rw [List.take_add_one, e, List.map_append]
  rfl
theorem absN (e : Int) : (if e < 0 then -e else e) = (e.natAbs : Int) := by omega
theorem ringV_push (l : List Nat) (j : Nat) : ringV l ++ [V.int (j : Nat)] = ringV (l ++ [j]) := by
  unfold ringV
  rw [List.map_append]
  rfl
theorem LI_pop {n : Nat} {b : Nat → Nat → Int} {d : Nat → Nat} {r : Nat} {f : List (Nat × Nat)} {wt : List Nat} {i : Nat} (h : Wg.LI n b d r f (wt ++ [i])) : Wg.LI n b d r f wt := ⟨h.nd, h.lt, h.pos, h.bd, h.pr, h.td, h.fs, fun k hk => h.wk k (List.mem_append.mpr (.inl hk))⟩
theorem LI_len {n : Nat} {b : Nat → Nat → Int} {d : Nat → Nat} {r : Nat} {f : List (Nat × Nat)} {wt : List Nat} (h : Wg.LI n b d r f wt) : f.length ≤ n := by
  have := nodup_len n (Wg.keys f) h.nd fun x hx => by
    obtain ⟨y, hy⟩ := Wg.mem_keys.mp hx
    exact h.lt _ hy
  unfold Wg.keys at this
  rw [List.length_map] at this
  exact this
theorem LI_bd {n : Nat} {b : Nat → Nat → Int} {d : Nat → Nat} {r : Nat} {f : List (Nat × Nat)} {wt : List Nat} (h : Wg.LI n b d r f wt) (n4 : n ≤ 4) {p : Nat × Nat} (hp : p ∈ f) : p.2 ≤ 125000 := by
  have h1 := h.bd p hp
  have h2 := LI_len h
  have : 50 ^ (f.length - 1) ≤ 50 ^ 3 := Nat.pow_le_pow_right (by decide) (by omega)
  omega
section
variable {P : Program} {w : World} {K : PySem.W.Frag} {mg : Str → Option Value} {base : Heap}
abbrev s_lot_weights : Stmt := topS 44
abbrev n_lot_weights : List Str := ["table", "first", "found", "waiting", "i", "j", "weight", "bud", "shared"]
theorem sc_lot_weights : FnScope n_lot_weights ["table", "first"] (defScope s_lot_weights) := ⟨rfl, rfl, rfl, by decide +kernel, rfl, by decide +kernel, by decide +kernel⟩
theorem ok_lot {f : Addr} {fd : FuncData} (F : Fun K "lot_weights" "lot_weights" s_lot_weights f fd) (T : Tx mg) (c_bud_count : Cal P w K mg base CX0 1 "bud_count" ["table"] spBuds) (c_common : Cal P w K mg base CX0 1 "common" ["one", "other"] spGcd) : FnOk P w K mg base CX0 3 f fd ["table", "first"] spLot := by
  refine F.ok sc_lot_weights (fun vs H Q E h => ?_) (fun cdv A outer s H vs Q E hr h => ?_)
  · obtain ⟨a, rows, n, r, d, rfl, _⟩ := h
    rfl
  · obtain ⟨a, rows, n, r, d, rfl, hT, O, D, hrn, q⟩ := h
    have hu1 : (A.deeper (envOfC "lot_weights" (defScope s_lot_weights) s.heap.objs.size f cdv)).units + 1 < cLine := Nat.lt_of_le_of_lt (Nat.add_le_add_left (by decide) _) hr.units
    have hr1 := hr.mono (show 1 ≤ 2 by decide)
    refine ⟨_, (pss_cons (ps_set (i := 2) sc_lot_weights.nd rfl (.inr rfl) (pe_disp (pps_cons (pv 1) pe_int pps_nil) rfl rfl (by simp) (by decide)))
  (pss_cons (ps_set (i := 3) sc_lot_weights.nd rfl (.inl rfl) (pe_lst (pa_cons (pv 1) pa_nil)))
  (pss_cons (ps_while PassesOwn.never (pt_truth (pv 3) (by intro _; rfl))
    (pss_cons (ps_set (i := 4) sc_lot_weights.nd rfl (.inr rfl) (pe_bm0 PySem.F.plainAttrs_list PySem.F.slot_list_pop PySem.F.type_list_pop mt_pop (pv 3)))
    (pss_one (ps_for PassesOwn.never rfl (pi_range1 (by rfl) T.range (pa_cons (pe_cal c_bud_count hr1 (by rfl) (pa_cons (pv 0) pa_nil)) pa_nil)) (pg_name (i := 5) sc_lot_weights.nd rfl (.inr rfl))
      (pss_one (ps_if (PW.pt (pw_and (pt_cmpR op_ne (pe_ix (i_tup (K := K)) (pe_ix (i_tup (K := K)) (pv 0) (pv 4) (fun _ _ => rfl)) (pv 5) (fun _ _ => rfl)) pe_int (nomark _)) (pw_and1 (pt_cmp (pc_dnotin hu1 (pv 5) (pv 2))))))
        (pss_cons (ps_set (i := 6) sc_lot_weights.nd rfl (.inl rfl) (pe_op op_mul (pe_dget hu1 (pv 2) (pv 4) (fun _ _ => rfl)) (pe_callB call_abs (by rfl) T.abs (by decide +kernel) (pa_cons (pe_ix (i_tup (K := K)) (pe_ix (i_tup (K := K)) (pv 0) (pv 4) (fun _ _ => rfl)) (pv 5) (fun _ _ => rfl)) pa_nil))))
        (pss_cons (ps_set (i := 2) sc_lot_weights.nd rfl (.inr rfl) (pe_lock (pe_dc (own := [("bud", 7)]) (by rfl) sc_lot_weights.nd (pi_keys (pv 2)) (blkOk_by (own := [("bud", 7)]) (N := n_lot_weights) (sc := defScope s_lot_weights) (by decide +kernel)) (fun _ _ _ _ _ => (pg_name (i := 7) sc_lot_weights.nd rfl (.inl rfl))) (fun _ _ _ _ _ => pts_nil) (fun _ _ _ _ _ => pv 7) (fun _ _ _ _ _ => (pe_op op_mul (pe_dget hu1 (pv 2) (pv 7) (fun _ _ => rfl)) (pe_callB call_abs (by rfl) T.abs (by decide +kernel) (pa_cons (pe_ix (i_tup (K := K)) (pe_ix (i_tup (K := K)) (pv 0) (pv 5) (fun _ _ => rfl)) (pv 4) (fun _ _ => rfl)) pa_nil)))))))
        (pss_cons (ps_dput hu1 (pv 2) (pv 5) (pv 6) rfl)
        (pss_one (ps_expr (pe_bm PySem.F.plainAttrs_list PySem.F.slot_list_append PySem.F.type_list_append mt_append (pv 3) (pa_cons (pv 5) pa_nil)))))))
        pss_nil))))))
  (pss_cons (ps_set (i := 8) sc_lot_weights.nd rfl (.inr rfl) pe_int)
  (pss_cons (ps_lock (ps_for PassesOwn.never rfl (pi_keys (pv 2)) (pg_name (i := 7) sc_lot_weights.nd rfl (.inl rfl))
    (pss_one (ps_set (i := 8) sc_lot_weights.nd rfl (.inr rfl) (pe_cal c_common hr1 (by rfl) (pa_cons (pv 8) (pa_cons (pe_dget hu1 (pv 2) (pv 7) (fun _ _ => rfl)) pa_nil)))))))
  (pss_one (ps_ret (pe_lock (pe_dc (own := [("bud", 7)]) (by rfl) sc_lot_weights.nd (pi_keys (pv 2)) (blkOk_by (own := [("bud", 7)]) (N := n_lot_weights) (sc := defScope s_lot_weights) (by decide +kernel)) (fun _ _ _ _ _ => (pg_name (i := 7) sc_lot_weights.nd rfl (.inl rfl))) (fun _ _ _ _ _ => pts_nil) (fun _ _ _ _ _ => pv 7) (fun _ _ _ _ _ => (pe_op op_fdiv (pe_dget hu1 (pv 2) (pv 7) (fun _ _ => rfl)) (pv 8)))))))))))), ?_⟩
    have n1 := O.n1
    have n4 := O.n4
    have ln := O.len
    have evN : ∀ i j, i < n → j < n → d i * (ent rows i j).natAbs = d j * (ent rows j i).natAbs := fun i j hi hj => by
      have e := congrArg Int.natAbs (D.ev i j hi hj)
      rw [Int.natAbs_neg, Int.natAbs_mul, Int.natAbs_mul, Int.natAbs_natCast, Int.natAbs_natCast] at e
      exact e
    have bdN : ∀ i j, i < n → j < n → (ent rows i j).natAbs ≤ 50 := fun i j hi hj => by
      have := ent_bd O (i := i) (j := j) (by omega) hj
      omega
    -- {first: 1}
    intro p0 ep0
    refine ⟨.int r, rfl, upd_same, [(.inl (r : Int), .int 1)], rfl, by show 1 ≤ 15; decide, ?_⟩
    rw [upd_upd]
    refine ⟨.int r, rfl, by show 1 ≤ sizeLine; decide, fun q0 eq0 => ?_⟩
    have npq : p0 ≠ q0 := fun z => by
      rw [← z, upd_same] at eq0
      cases eq0
    have hq0 : H q0 = none := by
      rw [upd_ne (Ne.symm npq)] at eq0
      exact eq0
    have em : mergeK [] [(.inl (r : Int), V.int 1)] = kvF [(r, 1)] := rfl
    rw [em]
    dsimp only [gName]
    show tSeq (tWhile _ _) _ _ _ _
    unfold tSeq
    refine while_m (fun m σ H' => ∃ (p q : Addr) (f : List (Nat × Nat)) (wt : List Nat) (y4 y5 y6 y7 y8 : Option V), σ = [some (.ref a), some (.int r), some (.ref p), some (.ref q), y4, y5, y6, y7, y8] ∧ Same H H' ∧ H p = none ∧ H q = none ∧ p ≠ q ∧ H' p = some (.dK (kvF f)) ∧ H' q = some (.lst (ringV wt)) ∧ Wg.LI n (ent rows) d r f wt ∧ Wg.Cl n (ent rows) f wt ∧ m = 2 * (n - f.length) + wt.length ∧ m ≤ 8)
      (m0 := 2 * (n - 1) + 1) ⟨p0, q0, [(r, 1)], [r], none, none, none, none, none, rfl, Same.updN (same_upd ep0) hq0, ep0, hq0, npq, by rw [upd_ne npq, upd_same], upd_same, (Wg.LI.start hrn).1, (Wg.LI.start (d := d) hrn).2, rfl, by omega⟩ ?_ ?_
    · rintro m σ H1 ⟨p, q1, f, wt, y4, y5, y6, y7, y8, rfl, s1, hp, hq, ne, e1, e2, L, C, em, m8⟩
      refine ⟨.ref q1, rfl, _, .inl ⟨_, SqL.of e2, rfl⟩, ?_⟩
      rcases List.eq_nil_or_concat wt with z | ⟨wt', i, z⟩
      · subst z
        refine iteF ?_
        have LL := L
        have lf := LI_len L
        -- shared = 0
        refine ⟨p, _, e1, True.intro, fun od => ?_⟩
        refine ⟨.ref p, rfl, p, od, rfl, .inl ⟨_, upd_same, ?_⟩⟩
        refine for_it walk_keys (fun k σ H' => ∃ (y7 : Option V), σ = [some (.ref a), some (.int r), some (.ref p), some (.ref q1), y4, y5, y6, y7, some (.int (Wg.gcds (f.take k) 0 : Nat))] ∧ H' = upd H1 p (.frz od (.dK (kvF f)))) ⟨_, rfl, rfl⟩ (fun k σ H' _ ⟨_, _, e⟩ => by rw [e, upd_same]) ?_ ?_
        · rintro k x σ H3 H4 hk ⟨y7', rfl, rfl⟩ ⟨rfl, kk, v, ek, rfl⟩
          obtain ⟨y, z, ey, rfl, rfl⟩ := kvF_get ek
          have hyz : (y, z) ∈ f := List.mem_of_getElem? ey
          have dg : DGet (upd H1 p (.frz od (.dK (kvF f)))) p (.int (y : Int)) (some (.int (z : Int))) := by
            have := DGet.kf (k := .inl (y : Int)) (show (upd H1 p (.frz od (.dK (kvF f)))) p = some (.frz od (.dK (kvF f))) from upd_same)
            rw [kvF_val L.nd hyz] at this
            exact this
          refine ⟨_, rfl, .ref p, rfl, .int y, rfl, p, _, rfl, dg, _, z, rfl, ?_⟩
          refine ⟨some (.int y), ?_, rfl⟩
          have eg : Wg.gcds (f.take (k + 1)) 0 = Nat.gcd (Wg.gcds (f.take k) 0) z := by
            unfold Wg.gcds
            rw [List.take_add_one, ey, List.foldl_append]
            rfl
          rw [eg]
          rfl
        · rintro σ H3 ⟨y7', rfl, rfl⟩
          refine ⟨upd_same, ?_⟩
          rw [kvF_len, List.take_length, upd_upd]
          have e1u : upd H1 p (.dK (kvF f)) p = some (.dK (kvF f)) := upd_same
          have gd := Wg.gcds_dvd f 0
          obtain ⟨x0, hx0⟩ := Wg.mem_keys.mp L.fs
          have g0 : 0 < Wg.gcds f 0 := Nat.pos_of_dvd_of_pos (gd.2 _ hx0) (L.pos _ hx0)
          have g1 : Wg.gcds f 0 ≤ 125000 := Nat.le_trans (Nat.le_of_dvd (L.pos _ hx0) (gd.2 _ hx0)) (LI_bd L n4 hx0)
          refine ⟨p, _, e1u, True.intro, fun od2 => ?_⟩
          rw [upd_upd]
          refine ⟨.ref p, rfl, p, od2, rfl, .inl ⟨_, upd_same, fun Dn eDn => ?_⟩⟩
          have nDp : Dn ≠ p := fun z => by
            rw [z, upd_same] at eDn
            cases eDn
          have hDn : H Dn = none := by
            rw [upd_ne nDp] at eDn
            cases z : H Dn with
            | none => rfl
            | some o =>
              rw [s1 _ _ z] at eDn
              cases eDn
          refine dc_it walk_keys (fun k H' => H' = upd (upd H1 p (.frz od2 (.dK (kvF f)))) Dn (.dK (kvF ((f.take k).map fun z => (z.1, z.2 / Wg.gcds f 0))))) rfl (fun k H' _ e => by rw [e, upd_ne nDp.symm, upd_same]) ?_ ?_
          · rintro k x H3 H4 hk rfl ⟨rfl, kk, v, ek, rfl⟩
            obtain ⟨y, z, ey, rfl, rfl⟩ := kvF_get ek
            have hyz : (y, z) ∈ f := List.mem_of_getElem? ey
            have dg : ∀ L', DGet (upd (upd H1 p (.frz od2 (.dK (kvF f)))) Dn (.dK L')) p (.int (y : Int)) (some (.int (z : Int))) := fun L' => by
              have := DGet.kf (k := .inl (y : Int)) (show (upd (upd H1 p (.frz od2 (.dK (kvF f)))) Dn (.dK L')) p = some (.frz od2 (.dK (kvF f))) by rw [upd_ne nDp.symm, upd_same])
              rw [kvF_val L.nd hyz] at this
              exact this
            refine ⟨rfl, .int y, rfl, .ref p, rfl, .int y, rfl, p, _, rfl, dg _, _, rfl, _, _, rfl, rfl, ⟨by show (0 : Int) < (Wg.gcds f 0 : Nat); omega, by show ((Wg.gcds f 0 : Nat) : Int) < 1073741824; omega⟩, _, .inl (y : Int), rfl, upd_same, ?_, ?_⟩
            · rw [kvF_len, List.length_map, List.length_take]
              exact small1000 (by omega)
            · rw [upd_upd]
              show upd _ Dn (.dK (putK _ _ (.int ((z / Wg.gcds f 0 : Nat) : Int)))) = _
              rw [kvF_put (mapF_fresh (fun z => z.2 / Wg.gcds f 0) L.nd ey), mapF_succ (fun z => z.2 / Wg.gcds f 0) ey]
          · rintro H3 rfl
            refine ⟨by rw [upd_ne nDp.symm, upd_same], ?_⟩
            rw [kvF_len, List.take_length]
            exact q Dn (Wg.divF f (Wg.gcds f 0)) _ (Same.updN (Same.updN (Same.updN s1 hp) hDn) hp) hDn (by rw [upd_ne nDp, upd_same]; rfl) (L.lot C)
      · subst z
        rw [List.concat_eq_append] at *
        have ne0 : (!(ringV (wt' ++ [i])).isEmpty) = true := by
          unfold ringV
          rw [List.map_append]
          cases wt' <;> rfl
        rw [ne0]
        have hi : i ∈ Wg.keys f := L.wk i (List.mem_append.mpr (.inr (List.mem_singleton.mpr rfl)))
        have hin : i < n := by
          obtain ⟨y, hy⟩ := Wg.mem_keys.mp hi
          exact L.lt _ hy
        refine iteT ⟨.ref q1, rfl, .inl ⟨rfl, _, SqL.of e2⟩, q1, _, .int i, rfl, rfl, e2, ?_, ?_⟩
        · unfold ringV
          rw [List.length_map, List.length_append, List.getElem?_map, List.getElem?_append]
          simp
        have ed : (ringV (wt' ++ [i])).dropLast = ringV wt' := by
          unfold ringV
          rw [List.map_append]
          exact List.dropLast_concat
        rw [ed]
        refine ⟨.ref a, rfl, a, rows, n, rfl, hT.same (Same.updN s1 hq), by omega, O.wide, n, rfl, by omega, by omega, ?_⟩
        have hq2 : Same H (upd H1 q1 (.lst (ringV wt'))) := Same.updN s1 hq
        refine for_range (fun j σ H2 => ∃ (p : Addr) (f : List (Nat × Nat)) (wt : List Nat) (y5 y6 y7 y8 : Option V), σ = [some (.ref a), some (.int r), some (.ref p), some (.ref q1), some (.int i), y5, y6, y7, y8] ∧ Same H H2 ∧ H p = none ∧ p ≠ q1 ∧ H2 p = some (.dK (kvF f)) ∧ H2 q1 = some (.lst (ringV wt)) ∧ Wg.LI n (ent rows) d r f wt ∧ Wg.ClI n (ent rows) f wt i j ∧ i ∈ Wg.keys f ∧ 2 * (n - f.length) + wt.length < m)
          ⟨p, f, wt', y5, y6, y7, y8, rfl, hq2, hp, ne, by rw [upd_ne ne]; exact e1, upd_same, LI_pop L, C.pop, hi, by rw [em, List.length_append, List.length_singleton]; omega⟩ ?_ ?_
        · rintro j σ H2 hj ⟨p2, f2, wt2, y5, y6, y7, y8, rfl, s2, hp2, ne2, g1, g2, LL, C2, hi2, hm⟩
          have hj : j < n := hj
          have e0 : (0 : Int) + (j : Int) = (j : Int) := by omega
          rw [e0]
          obtain ⟨x, hx⟩ := Wg.mem_keys.mp hi2
          obtain ⟨as1, b, t1, t2, t3⟩ := (hT.same s2).row (i := i) (by omega)
          have x1 := ent_get O.wide (i := i) (j := j) (by omega) hj
          have bx := LI_bd LL n4 hx
          have lf := LI_len LL
          refine ⟨.ref a, rfl, .int i, rfl, a, _, _, .ref b, rfl, rfl, SqT.of t1, atI_nat t2, .int j, rfl, b, _, _, .int (ent rows i j), rfl, rfl, SqT.of t3, atI_nat x1, rfl, _, rfl, ?_⟩
          by_cases hz : ent rows i j = 0
          · rw [decide_eq_true (show V.int (ent rows i j) = V.int 0 by rw [hz])]
            exact iteF (iteF ⟨p2, f2, wt2, _, _, _, _, rfl, s2, hp2, ne2, g1, g2, LL, C2.skip (.inl hz), hi2, hm⟩)
          · rw [decide_eq_false (fun z : V.int (ent rows i j) = V.int 0 => hz (by injection z))]
            refine iteT ⟨.int j, rfl, .ref p2, rfl, p2, valV (kvF f2) (.inl (j : Int)), rfl, DGet.k (k := .inl (j : Int)) g1, _, rfl, ?_⟩
            by_cases hin2 : j ∈ Wg.keys f2
            · obtain ⟨xj, hxj⟩ := Wg.mem_keys.mp hin2
              rw [kvF_val LL.nd hxj]
              exact iteF ⟨p2, f2, wt2, _, _, _, _, rfl, s2, hp2, ne2, g1, g2, LL, C2.skip (.inr hin2), hi2, hm⟩
            · rw [kvF_none hin2]
              have dg : DGet H2 p2 (.int (i : Int)) (some (.int (x : Int))) := by
                have := DGet.k (k := .inl (i : Int)) g1
                rw [kvF_val LL.nd hx] at this
                exact this
              refine iteT ⟨.ref p2, rfl, .int i, rfl, p2, _, rfl, dg, .ref a, rfl, .int i, rfl, a, _, _, .ref b, rfl, rfl, SqT.of t1, atI_nat t2, .int j, rfl, b, _, _, .int (ent rows i j), rfl, rfl, SqT.of t3, atI_nat x1, _, rfl, _, _, rfl, rfl, .inl ⟨by omega, by omega⟩, ?_⟩
              rw [absN]
              refine ⟨p2, _, g1, True.intro, fun od => ?_⟩
              refine ⟨.ref p2, rfl, p2, od, rfl, .inl ⟨_, upd_same, fun Dn eDn => ?_⟩⟩
              have nDp : Dn ≠ p2 := fun z => by
                rw [z, upd_same] at eDn
                cases eDn
              have hDn2 : H2 Dn = none := by
                rw [upd_ne nDp] at eDn
                exact eDn
              have nDq : Dn ≠ q1 := fun z => by
                rw [z, g2] at hDn2
                cases hDn2
              have hDn : H Dn = none := by
                cases z : H Dn with
                | none => rfl
                | some o =>
                  rw [s2 _ _ z] at hDn2
                  cases hDn2
              refine dc_it walk_keys (fun k H' => H' = upd (upd H2 p2 (.frz od (.dK (kvF f2)))) Dn (.dK (kvF ((f2.take k).map fun z => (z.1, z.2 * (ent rows j i).natAbs))))) rfl (fun k H' _ e => by rw [e, upd_ne nDp.symm, upd_same]) ?_ ?_
              · rintro k x' H3 H4 hk rfl ⟨rfl, kk, v, ek, rfl⟩
                obtain ⟨y, z, ey, rfl, rfl⟩ := kvF_get ek
                have hyz : (y, z) ∈ f2 := List.mem_of_getElem? ey
                have bz := LI_bd LL n4 hyz
                have dg : ∀ L', DGet (upd (upd H2 p2 (.frz od (.dK (kvF f2)))) Dn (.dK L')) p2 (.int (y : Int)) (some (.int (z : Int))) := fun L' => by
                  have := DGet.kf (k := .inl (y : Int)) (show (upd (upd H2 p2 (.frz od (.dK (kvF f2)))) Dn (.dK L')) p2 = some (.frz od (.dK (kvF f2))) by rw [upd_ne nDp.symm, upd_same])
                  rw [kvF_val LL.nd hyz] at this
                  exact this
                have sD : ∀ L', Same H (upd (upd H2 p2 (.frz od (.dK (kvF f2)))) Dn (.dK L')) := fun L' => Same.updN (Same.updN s2 hp2) hDn
                obtain ⟨as2, c, k1, k2, k3⟩ := (hT.same (sD (kvF ((f2.take k).map fun z => (z.1, z.2 * (ent rows j i).natAbs))))).row (i := j) (by omega)
                have x3 := ent_get O.wide (i := j) (j := i) (by omega) hin
                refine ⟨rfl, .int y, rfl, .ref p2, rfl, .int y, rfl, p2, _, rfl, dg _, .ref a, rfl, .int j, rfl, a, _, _, .ref c, rfl, rfl, SqT.of k1, atI_nat k2, .int i, rfl, c, _, _, .int (ent rows j i), rfl, rfl, SqT.of k3, atI_nat x3, _, rfl, _, _, rfl, rfl, .inl ⟨by omega, by omega⟩, _, .inl (y : Int), rfl, upd_same, ?_, ?_⟩
                · rw [kvF_len, List.length_map, List.length_take]
                  exact small1000 (by omega)
                · rw [upd_upd, absN]
                  show upd _ Dn (.dK (putK _ _ (.int ((z * (ent rows j i).natAbs : Nat) : Int)))) = _
                  rw [kvF_put (mapF_fresh (fun z => z.2 * (ent rows j i).natAbs) LL.nd ey), mapF_succ (fun z => z.2 * (ent rows j i).natAbs) ey]
              · rintro H3 rfl
                refine ⟨by rw [upd_ne nDp.symm, upd_same], ?_⟩
                rw [kvF_len, List.take_length]
                have hDv : upd (upd (upd H2 p2 (.frz od (.dK (kvF f2)))) Dn (.dK (kvF (f2.map fun z => (z.1, z.2 * (ent rows j i).natAbs))))) p2 (.dK (kvF f2)) Dn = some (.dK (kvF (f2.map fun z => (z.1, z.2 * (ent rows j i).natAbs)))) := by rw [upd_ne nDp, upd_same]
                have nk : j ∉ Wg.keys (f2.map fun z => (z.1, z.2 * (ent rows j i).natAbs)) := by
                  have : Wg.keys (f2.map fun z => (z.1, z.2 * (ent rows j i).natAbs)) = Wg.keys f2 := by
                    unfold Wg.keys
                    rw [List.map_map]
                    rfl
                  rw [this]
                  exact hin2
                refine ⟨_, rfl, .ref Dn, rfl, .int j, rfl, Dn, _, rfl, DPut.k (k := .inl (j : Int)) hDv (by rw [kvF_len, List.length_map]; exact small1000 (by omega)), ?_⟩
                have LG := LL.grow hx hj hz hin2 D.pos evN bdN
                have lg := LI_len LG
                have lgf : (Wg.growF (ent rows) f2 i j x).length = f2.length + 1 := by
                  unfold Wg.growF
                  rw [List.length_append, List.length_map]
                  rfl
                have eg : putK (kvF (f2.map fun z => (z.1, z.2 * (ent rows j i).natAbs))) (.inl (j : Int)) (.int ((x : Int) * ((ent rows i j).natAbs : Int))) = kvF (Wg.growF (ent rows) f2 i j x) := by
                  show putK _ _ (.int ((x * (ent rows i j).natAbs : Nat) : Int)) = _
                  rw [kvF_put nk]
                  rfl
                rw [eg]
                generalize hH5 : upd (upd (upd H2 p2 (.frz od (.dK (kvF f2)))) Dn (.dK (kvF (f2.map fun z => (z.1, z.2 * (ent rows j i).natAbs))))) p2 (.dK (kvF f2)) = H5
                have g2' : upd H5 Dn (.dK (kvF (Wg.growF (ent rows) f2 i j x))) q1 = some (.lst (ringV wt2)) := by
                  rw [← hH5, upd_ne nDq.symm, upd_ne ne2.symm, upd_ne nDq.symm, upd_ne ne2.symm]
                  exact g2
                have s5 : Same H H5 := by
                  rw [← hH5]
                  exact Same.updN (Same.updN (Same.updN s2 hp2) hDn) hp2
                refine ⟨.ref q1, rfl, .inl ⟨rfl, _, SqL.of g2'⟩, .int j, rfl, q1, _, _, rfl, rfl, g2', by unfold ringV; rw [List.length_map]; exact small1000 (by omega), ?_⟩
                rw [ringV_push]
                refine ⟨Dn, Wg.growF (ent rows) f2 i j x, wt2 ++ [j], _, _, _, _, rfl, Same.updN (Same.updN s5 hDn) hq, hDn, nDq, by rw [upd_ne nDq, upd_same], upd_same, LG, C2.grow, ?_, by rw [lgf, List.length_append, List.length_singleton]; omega⟩
                rw [Wg.keys_grow]
                exact List.mem_append.mpr (.inl hi2)
        · rintro σ H2 ⟨p2, f2, wt2, y5, y6, y7, y8, rfl, s2, hp2, ne2, g1, g2, LL, C2, hi2, hm⟩
          exact ⟨_, hm, p2, q1, f2, wt2, _, _, _, _, _, rfl, s2, hp2, hq, ne2, g1, g2, LL, C2.done, rfl, by omega⟩
    · rintro σ H' Q1 Q2 hq ⟨v, e, k, t, q1⟩
      exact ⟨v, e, k, t, hq _ _ q1⟩
end
end Bw
set_option Elab.async false
set_option linter.all false
set_option maxRecDepth 100000
set_option maxHeartbeats 2000000
/-! ### tuples whose object is known: methods of theirs (index) -/
namespace Bw
open PySem PySem.Spec PyProof.Rows L2
/-- a tuple with no dict of its own -/
def PlT (H : Hp) (p : Addr) (ys : List V) : Prop := ∃ od : Obj, od.cls = .type "tuple" ∧ od.dict = none ∧ H p = some (.frz od (.tup ys))
theorem PlT.sq {K : PySem.W.Frag} {H : Hp} {p : Addr} {ys : List V} (h : PlT H p ys) : SqT K H p ys := by
  obtain ⟨od, _, _, e⟩ := h
  exact .inl (.inr ⟨od, e⟩)
theorem PlT.same {H H' : Hp} {p : Addr} {ys : List V} (s : Same H H') (h : PlT H p ys) : PlT H' p ys := by
  obtain ⟨od, a, b, e⟩ := h
  exact ⟨od, a, b, s _ _ e⟩
def rTupF (K : PySem.W.Frag) : List V → Hp → VK → Prop := fun xs H Q => ∃ (p : Addr) (ys : List V), xs = [V.ref p] ∧ SqL K H p ys ∧ ∀ (l : Addr) (od : Obj), H l = none → od.cls = .type "tuple" → od.dict = none → Q (.ref l) (upd H l (.frz od (.tup ys)))
theorem c_tupF {X : Cx} {K : PySem.W.Frag} (hK : X.K = K := by rfl) : CallR X (.type "tuple") (rTupF K) := by
  subst hK
  intro pins s σ H xs us Q I r h
  obtain ⟨p, ys, rfl, hq, q⟩ := h
  obtain ⟨u, rfl, rx⟩ := vals1 r
  cases rx
  obtain ⟨its, r', pl, hz⟩ := I.list hq
  have hlen := r'.length
  refine call_tuple_list pl.isList (fun h' kp => ?_) (by rw [List.size_toArray]; omega)
  have I1 : Inv X pins σ H { s with heap := h' } := I.kept (t' := s.toks) kp
  have hg : (h'.push { cls := .type "tuple", data := .seq its.toArray }).get? h'.objs.size = some { cls := .type "tuple", data := .seq its.toArray } := Heap.get?_push_size _ rfl
  have I2 := I1.laid (a := h'.objs.size) (o := .frz { cls := .type "tuple", data := .seq its.toArray } (.tup ys)) (h' := h'.push { cls := .type "tuple", data := .seq its.toArray }) (t' := s.toks) (fun b o e => Heap.get?_push_of_some _ e) (Nat.le_refl _) ⟨hg, hz, its, r', IsTup.new _ _⟩
  exact ⟨.ref h'.objs.size, _, I2, rfl, q _ _ (I1.hok.fresh (Nat.le_refl _)) rfl rfl⟩
/-- o.m(..) of such a tuple -/
def tBMF (r : V → List V → Hp → VK → Prop) (to : TE) (t : TA) : TE := fun σ H Q => to σ H fun x H1 => (∃ p ys, x = .ref p ∧ PlT H1 p ys) ∧ t σ H1 fun xs H2 => r x xs H2 Q
theorem pe_bmF {X : Cx} {o e : Expr} {es : List Expr} {to : TE} {t : TA} {name : Str} {apos cpos : Pos} {id : String} {r : V → List V → Hp → VK → Prop} (slot : Slot "tuple" name id) (hty : typeOf (.builtin id) = pure (.type "method_descriptor")) (hm : MtR X id r) (ho : PE X o to) (ha : PA X (e :: es) t)
    (hb : attributeBase o name X.env (eval o X.env) = eval o X.env := by rfl)
    (hf : ((backTo cpos (starEach (e :: es) X.env)).all (fun x => !x.1) && (backToKw cpos (keywordEach [] X.env)).all (fun x => x.1.isSome) && decide ((e :: es).length + ([] : List Keyword).length + (if ([] : List Keyword).isEmpty then 0 else 1) < 30)) = true := by rfl)
    (hl : (apos.endLine == cpos.line) = true := by rfl) (hs : starEach (e :: es) X.env = (false, eval e X.env) :: starEach es X.env := by rfl) (hp : (backTo cpos (starEach es X.env)).any (·.1) = false := by rfl) :
    PE X (.Call (.Attribute o name apos) (e :: es) [] cpos) (tBMF r to t) := by
  refine ⟨fun pins s σ H Q I h => ?_⟩
  refine wpAny_Call_method_late hb hf hl rfl (thn (ho.run pins s σ H _ I h) fun v s1 ⟨x, H1, I1, r1, pt, q1⟩ => ?_)
  obtain ⟨p, ys, rfl, od, c1, c2, ep⟩ := pt
  obtain rfl : v = Value.ref p := r1
  have hg : s1.heap.get? p = some od := (I1.hok p _ ep).1
  refine ⟨"tuple", id, PySem.F.plainAttrs_tuple, slot, hty, ⟨od, hg, c1⟩, fun a e2 => ?_, ?_⟩
  · cases e2
    exact ⟨od, hg, c2⟩
  · have hA := ha.run cpos pins s1 σ H1 _ I1 q1
    rw [hs] at hA ⊢
    refine Calls.callWith_builtin (by show (false || (backTo cpos (starEach es X.env)).any (·.1)) = false; rw [hp]; rfl) (Calls.evalArgs_plain ?_)
    exact thn hA fun us s2 ⟨vs, H2, I2, r2, q2⟩ => hm pins s2 σ H2 (.ref p) vs (.ref p) us Q I2 rfl r2 q2
def rIxI (K : PySem.W.Frag) : V → List V → Hp → VK → Prop := fun x xs H Q => ∃ (p : Addr) (ns : List Int) (z : Int) (j : Nat), x = .ref p ∧ xs = [.int z] ∧ SqT K H p (ns.map V.int) ∧ ns[j]? = some z ∧ (∀ m, m < j → ns[m]? ≠ some z) ∧ Q (.int (j : Nat)) H
theorem flat_ints (ns : List Int) : (ns.map V.int).all flatV = true := by
  rw [List.all_map]
  exact List.all_eq_true.mpr fun _ _ => rfl
theorem mt_ixI {X : Cx} {K : PySem.W.Frag} (hK : X.K = K := by rfl) : MtR X "tuple.index" (rIxI K) := by
  subst hK
  intro pins s σ H x xs v us Q I rx rs h
  obtain ⟨p, ns, z, j, rfl, rfl, hq, hy, hno, q⟩ := h
  cases rx
  obtain ⟨u, rfl, t, rfl⟩ := vals1 rs
  obtain ⟨its, r, pl, hz⟩ := I.tuple hq
  obtain ⟨⟨cls, dd, dt, sl⟩, ho, hc, n, hd⟩ := pl
  cases hc
  cases hd
  have hl : its.toArray.size = ns.length := by
    rw [List.size_toArray, ← r.length, List.length_map]
  have hj : j < its.toArray.size := by
    rw [hl]
    exact (List.getElem?_eq_some_iff.mp hy).1
  have look : ∀ (m : Nat) (hm : m < its.toArray.size), eqU (.int z) its.toArray[m] = decide (ns[m]? = some z) := fun m hm => by
    have hm' : m < ns.length := by rw [← hl]; exact hm
    obtain ⟨w, hw, t', hw'⟩ := r.get (i := m) (x := .int ns[m]) (by simp [hm'])
    have e := (List.getElem?_eq_some_iff.mp hw).2
    have e1 : its.toArray[m] = Value.int ns[m] t' := by
      rw [← hw', ← e]
      simp
    rw [e1, List.getElem?_eq_getElem hm']
    show eqV (.int ns[m]) (.int z) = _
    by_cases h : ns[m] = z
    · rw [h, decide_eq_true rfl]
      show decide _ = true
      exact decide_eq_true rfl
    · rw [decide_eq_false (fun k => h (Option.some.inj k))]
      show decide _ = false
      exact decide_eq_false h
  refine call_meets PySem.F.slot_tuple_index ⟨_, ho, rfl⟩ PySem.F.entry_tuple_index (PySem.F.args_tuple_index_2 _ _) (TI.tuple_indexAt p its.toArray n dd sl (.int z t) (eqU (.int z)) j hj ?_ ?_) ⟨ho, fun w hw => ?_, ⟨.int (j : Nat), H, I.tok _, ⟨_, rfl⟩, q⟩⟩
  · rw [look j hj]
    exact decide_eq_true hy
  · intro m hm hmj
    rw [look m hm]
    exact decide_eq_false (hno m hmj)
  · exact mem_eqAt (x := .int z) ⟨t, rfl⟩ rfl r (flat_ints ns) w (by simpa using hw)
/-! ### tuples put together and cut, whatever is known of them -/
theorem Rd.same {H H' : Hp} {a : Addr} {u : HO} (s : Same H H') (h : Rd H a u) : Rd H' a u := by
  rcases h with h | ⟨od, h⟩
  · exact .inl (s _ _ h)
  · exact .inr ⟨od, s _ _ h⟩
def rCatR : R2 := fun x y H Q => ∃ a b xs ys, x = .ref a ∧ y = .ref b ∧ Rd H a (.tup xs) ∧ Rd H b (.tup ys) ∧ xs.length ≤ 400 ∧ ys.length ≤ 400 ∧ ∀ p H', Same H H' → Rd H' p (.tup (xs ++ ys)) → Q (.ref p) H'
theorem o_catR {X : Cx} : OpR X (binaryOp .Add) rCatR := fun pins s σ H x y v u Q I rx ry h => by
  obtain ⟨a, b, xs, ys, rfl, rfl, ha, hb, lx, ly, q⟩ := h
  refine o_cat (K := X.K) rfl pins s σ H _ _ v u Q I rx ry ⟨a, b, xs, ys, rfl, rfl, .inl ha, .inl hb, Nat.le_trans (show xs.length + ys.length ≤ 800 by omega) (by decide), fun e => ?_, fun _ e => ?_, fun _ _ p hp => q p _ (same_upd hp) (.inl upd_same)⟩
  · subst e
    exact q b H (.refl _) hb
  · subst e
    exact q a H (.refl _) (by rw [List.append_nil]; exact ha)
def rSlR : V → Option Int → Option Int → Hp → VK → Prop := fun x lo hi H Q => ∃ a xs, x = .ref a ∧ Rd H a (.tup xs) ∧ ∀ p H', Same H H' → Rd H' p (.tup (cutV xs lo hi)) → Q (.ref p) H'
theorem l_tupR {X : Cx} : SlR X rSlR := by
  intro pins s σ H x v vl vu lo hi sl Q I rx hs pl pu h
  obtain ⟨a, xs, rfl, ha, q⟩ := h
  refine l_tup (K := X.K) rfl pins s σ H _ v vl vu lo hi sl Q I rx hs pl pu ⟨a, xs, rfl, .inl ha, fun e => ?_, fun _ p hp => q p _ (same_upd hp) (.inl upd_same)⟩
  refine q a H (.refl _) ?_
  have : cutV xs lo hi = xs := by
    unfold cutV
    rw [e.1, e.2, List.drop_zero, Nat.sub_zero, List.take_length]
  rw [this]
  exact ha
end Bw
set_option Elab.async false
set_option linter.all false
set_option maxRecDepth 100000
set_option maxHeartbeats 4000000
namespace Bw
open PySem PySem.Spec PyProof.Rows L2
/-! ### a web, all of it -/
def SumsAt (C : Addr) (H : Hp) (ss : List Addr) (n : Nat) (L : List (List Tm)) : Prop := ss.length = L.length ∧ ∀ (i : Nat) (r : List Tm), L[i]? = some r → ∃ c, ss[i]? = some c ∧ SumAt C H c n r
theorem SumsAt.same {C : Addr} {H H' : Hp} {ss : List Addr} {n : Nat} {L : List (List Tm)} (s : Same H H') (h : SumsAt C H ss n L) : SumsAt C H' ss n L := ⟨h.1, fun i r e => by
  obtain ⟨c, e1, e2⟩ := h.2 i r e
  exact ⟨c, e1, e2.same s⟩⟩
theorem SumsAt.at {C : Addr} {H : Hp} {ss : List Addr} {n : Nat} {L : List (List Tm)} (h : SumsAt C H ss n L) {i : Nat} {c : Addr} (e : ss[i]? = some c) : ∃ r, L[i]? = some r ∧ SumAt C H c n r := by
  have hi := (List.getElem?_eq_some_iff.mp e).1
  rw [h.1] at hi
  obtain ⟨c', e1, e2⟩ := h.2 i _ (List.getElem?_eq_getElem hi)
  rw [e] at e1
  cases e1
  exact ⟨_, List.getElem?_eq_getElem hi, e2⟩
theorem SumsAt.take {C : Addr} {H : Hp} {ss : List Addr} {n : Nat} {L : List (List Tm)} (h : SumsAt C H ss n L) (m : Nat) : SumsAt C H (ss.take m) n (L.take m) := by
  refine ⟨by rw [List.length_take, List.length_take, h.1], fun i r e => ?_⟩
  rw [List.getElem?_take] at e ⊢
  split at e
  · rename_i z
    rw [if_pos z]
    exact h.2 i r e
  · cases e
structure Wb where
  rows : List (List Int)
  hues : List (List Int)
  leans : List (List Int)
  sums : List (List Tm)
  made : List Int
  kept : List Int
/-- the parts of a web that stand beside its own object -/
structure WebP (CS : Addr) (H : Hp) (s t m k a u v : Addr) (ss : List Addr) (W : Wb) : Prop where
  seed : H s = some (.tup [.ref a, .ref u, .ref v])
  tab : TabAt H a W.rows
  hue : TabAt H u W.hues
  lean : TabAt H v W.leans
  stand : H t = some (.tup (ss.map V.ref))
  sums : SumsAt CS H ss W.rows.length W.sums
  made : H m = some (.tup (W.made.map V.int))
  kept : H k = some (.tup (W.kept.map V.int))
theorem WebP.same {CS : Addr} {H H' : Hp} {s t m k a u v : Addr} {ss : List Addr} {W : Wb} (z : Same H H') (h : WebP CS H s t m k a u v ss W) : WebP CS H' s t m k a u v ss W := ⟨z _ _ h.seed, h.tab.same z, h.hue.same z, h.lean.same z, z _ _ h.stand, h.sums.same z, z _ _ h.made, z _ _ h.kept⟩
def WebG (C CS : Addr) (H : Hp) (x : Addr) (W : Wb) : Prop := ∃ dx s t m k a u v ss, H x = some (.ins C dx (webFs s t m k)) ∧ WebP CS H s t m k a u v ss W
theorem WebG.same {C CS : Addr} {H H' : Hp} {x : Addr} {W : Wb} (z : Same H H') (h : WebG C CS H x W) : WebG C CS H' x W := by
  obtain ⟨dx, s, t, m, k, a, u, v, ss, h1, h2⟩ := h
  exact ⟨dx, s, t, m, k, a, u, v, ss, z _ _ h1, h2.same z⟩
/-- what is put into a web's own fields leaves the rest -/
theorem TermsAt.ins {H : Hp} {x C dx : Addr} {fs : List (Str × V)} {o : HO} {ts : List Addr} {r : List Tm} (h : TermsAt H ts r) (e : H x = some (.ins C dx fs)) : TermsAt (upd H x o) ts r := TermsAt.updX h e (fun xs z => by cases z)
theorem SumAt.ins {H : Hp} {x C CS dx : Addr} {fs : List (Str × V)} {o : HO} {c : Addr} {n : Nat} {r : List Tm} (h : SumAt CS H c n r) (e : H x = some (.ins C dx fs)) (ne : C ≠ CS) : SumAt CS (upd H x o) c n r := by
  obtain ⟨d, p, us, h1, h2, h3⟩ := h
  refine ⟨d, p, us, ?_, ?_, h3.ins e⟩
  · rw [upd_ne (ne_of h1 e (fun z => by cases z; exact ne rfl))]
    exact h1
  · rw [upd_ne (ne_of h2 e (fun z => by cases z))]
    exact h2
theorem SumsAt.ins {H : Hp} {x C CS dx : Addr} {fs : List (Str × V)} {o : HO} {ss : List Addr} {n : Nat} {L : List (List Tm)} (h : SumsAt CS H ss n L) (e : H x = some (.ins C dx fs)) (ne : C ≠ CS) : SumsAt CS (upd H x o) ss n L := ⟨h.1, fun i r ei => by
  obtain ⟨c, e1, e2⟩ := h.2 i r ei
  exact ⟨c, e1, e2.ins e ne⟩⟩
/-- the first sums -/
def lettersL (m : Nat) : List (List Tm) := (List.range m).map fun (i : Nat) => [(byL m (i : Int) 1, 1)]
def wb0 (rows : List (List Int)) (n : Nat) : Wb := ⟨rows, uRows n, uRows n, lettersL rows.length, [], []⟩
theorem cn_one (p : List Int) {c : Int} (h : c ≠ 0) : Cn (Lf [(p, c)]) [(p, c)] := ⟨List.pairwise_singleton .., fun a ha => by rw [List.mem_singleton.mp ha]; exact h, fun φ => rfl⟩
section
variable {P : Program} {w : World} {K : PySem.W.Frag} {mg : Str → Option Value} {base : Heap} {C CS CP fP CB : Addr} {cs : List Value}
def spSumsG (C : Addr) : Sp := fun vs H Q _ => ∃ n : Nat, vs = [.int n] ∧ n ≤ 8 ∧ ∀ (t : Addr) (ss : List Addr) (H' : Hp), Same H H' → H' t = some (.tup (ss.map V.ref)) → SumsAt C H' ss n (lettersL n) → Q (.ref t) H'
theorem ok_sumsG {f C : Addr} {fd : FuncData} (F : Fun K "first_sums" "first_sums" s_first_sums f fd) (T : Tx mg) (c_letter : CalD P w K mg base 4 "letter" ["width", "number", "by"] (.int 1) (spLetter C)) : FnOk P w K mg base CX0 5 f fd ["many"] (spSumsG C) := by
  refine F.ok sc_first_sums (fun vs H Q E h => ?_) (fun cdv A outer s H vs Q E hr h => ?_)
  · obtain ⟨n, rfl, _⟩ := h
    rfl
  · obtain ⟨n, rfl, n8, q⟩ := h
    refine ⟨_, (pss_one (ps_ret (pe_callTy (c_tup (K := K)) (by rfl) T.tuple (by decide +kernel) (pa_cons (pe_lc (own := [("number", 1)]) (by rfl) sc_first_sums.nd (pi_range1 (by rfl) T.range (pa_cons (pv 0) pa_nil)) (blkOk_by (own := [("number", 1)]) (N := n_first_sums) (sc := defScope s_first_sums) (by decide +kernel)) (fun _ _ _ _ _ => (pg_name (i := 1) sc_first_sums.nd rfl (.inl rfl))) (fun _ _ _ _ _ => pts_nil) (fun _ _ _ _ _ => (pe_calD c_letter hr (by rfl) (pa_cons (pv 0) (pa_cons (pv 1) pa_nil))))) pa_nil)))), ?_⟩
    refine ⟨.int n, rfl, n, rfl, by omega, by omega, fun D eD => ?_⟩
    refine lc_range (fun j H' => ∃ ss : List Addr, ss.length = j ∧ H' D = some (.lst (ss.map V.ref)) ∧ Same H H' ∧ ∀ (i : Nat) (c : Addr), ss[i]? = some c → SumAt C H' c n [(byL n (i : Int) 1, 1)]) ⟨[], rfl, upd_same, same_upd eD, fun i c e => by simp at e⟩ ?_ ?_
    · rintro j H1 hj ⟨ss, lx, e1, s1, h1⟩
      have hj : j < n := hj
      refine ⟨rfl, .int n, rfl, .int (0 + j), rfl, n, 0 + j, 1, rfl, n8, fun c r H2 s2 hA cn => ?_⟩
      have er : r = [(byL n (j : Int) 1, 1)] := by
        rw [Int.zero_add] at cn
        exact cn.uniq (cn_one _ (by decide))
      subst er
      have e2 := s2 _ _ e1
      have keep : ∀ {c' : Addr} {r' : List Tm}, SumAt C H2 c' n r' → SumAt C (upd H2 D (.lst (ss.map V.ref ++ [.ref c]))) c' n r' := fun {c' r'} hh => by
        obtain ⟨d, p, us, k1, k2, k3⟩ := hh
        refine ⟨d, p, us, ?_, ?_, TermsAt.updX k3 e2 (fun xs z => by cases z)⟩
        · rw [upd_ne (ne_of k1 e2 (fun z => by cases z))]
          exact k1
        · rw [upd_ne (ne_of k2 e2 (fun z => by cases z))]
          exact k2
      refine ⟨_, e2, by rw [List.length_map]; exact small1000 (by omega), ss ++ [c], by rw [List.length_append, lx]; rfl, by rw [upd_same, List.map_append]; rfl, Same.updN (s1.trans s2) eD, fun i c' e => ?_⟩
      by_cases z : i < ss.length
      · rw [List.getElem?_append_left z] at e
        exact keep ((h1 i c' e).same s2)
      · rw [List.getElem?_append_right (by omega)] at e
        have z2 : i - ss.length = 0 := by
          have := (List.getElem?_eq_some_iff.mp e).1
          simp at this
          omega
        rw [z2] at e
        cases (Option.some.inj e)
        have : i = j := by omega
        rw [this]
        exact keep hA
    · rintro H1 ⟨ss, lx, e1, s1, h1⟩
      have lx : ss.length = n := lx
      refine ⟨D, _, rfl, .inl ⟨SqL.of e1, fun p ep => ?_⟩⟩
      have sp := same_upd (o := .tup (ss.map V.ref)) ep
      refine q p ss _ (s1.trans sp) upd_same ⟨by unfold lettersL; rw [List.length_map, List.length_range, lx], fun i r e => ?_⟩
      unfold lettersL at e
      rw [List.getElem?_map] at e
      obtain ⟨i', ei, rfl⟩ := Option.map_eq_some_iff.mp e
      have hi := (List.getElem?_eq_some_iff.mp ei).1
      rw [List.length_range] at hi
      rw [List.getElem?_range hi] at ei
      cases (Option.some.inj ei)
      have ec : ss[i]? = some (ss[i]'(by omega)) := List.getElem?_eq_getElem (by omega)
      exact ⟨_, ec, (h1 i _ ec).same sp⟩
end
end Bw
set_option Elab.async false
set_option linter.all false
set_option maxRecDepth 100000
set_option maxHeartbeats 4000000
namespace Bw
open PySem PySem.Spec PyProof.Rows L2
section
variable {P : Program} {w : World} {K : PySem.W.Frag} {mg : Str → Option Value} {base : Heap} {C CS CP fP CB : Addr} {cs : List Value}
/-! ### Web's __init__ -/
def spWInitG (C CS : Addr) : Sp := fun vs H Q _ => ∃ (x dx a : Addr) (rows : List (List Int)) (n : Nat), vs = [.ref x, .ref a] ∧ H x = some (.ins C dx []) ∧ TabAt H a rows ∧ TabOk rows n ∧ ∀ H', SameBut x H H' → WebG C CS H' x (wb0 rows n) → Q .non H'
theorem ok_winitG {f : Addr} {fd : FuncData} (F : Fun K "__init__" "Web.__init__" s_winit f fd) (T : Tx mg) (W : WebC K mg C) (nCC : C ≠ CS) (c_check_table : Cal P w K mg base CX0 5 "check_table" ["table"] spGood) (c_first_seed : Cal P w K mg base CX0 2 "first_seed" ["table"] spSeed0) (c_first_sums : Cal P w K mg base CX0 5 "first_sums" ["many"] (spSumsG CS)) : FnOk P w K mg base CX0 6 f fd ["self", "table"] (spWInitG C CS) := by
  refine F.ok sc_winit (fun vs H Q E h => ?_) (fun cdv A outer s H vs Q E hr h => ?_)
  · obtain ⟨x, dx, a, rows, n, rfl, _⟩ := h
    rfl
  · obtain ⟨x, dx, a, rows, n, rfl, hx, hT, O, q⟩ := h
    have hr2 := hr.mono (show 2 ≤ 5 by decide)
    refine ⟨_, (pss_cons (ps_expr (pe_cal c_check_table hr (by rfl) (pa_cons (pv 1) pa_nil)))
  (pss_cons (ps_fld (pv 0) (pe_cal c_first_seed hr2 (by rfl) (pa_cons (pv 1) pa_nil)) rfl)
  (pss_cons (ps_fld (pv 0) (pe_cal c_first_sums hr (by rfl) (pa_cons (pe_callB (c_len (K := K)) (by rfl) T.len PySem.boot_len (pa_cons (pv 1) pa_nil)) pa_nil)) rfl)
  (pss_cons (ps_fld (pv 0) (pe_tup pa_nil) rfl)
  (pss_one (ps_fld (pv 0) (pe_tup pa_nil) rfl)))))), ?_⟩
    have l4 := O.n4
    have l8 := O.len4
    have nt : ∀ {fs : List (Str × V)} (xs : List V), HO.ins C dx fs ≠ .tup xs := fun xs z => by cases z
    have tp : ∀ {H' : Hp} {fs : List (Str × V)} {o : HO} {b : Addr} {ys : List V}, H' x = some (.ins C dx fs) → H' b = some (.tup ys) → (upd H' x o) b = some (.tup ys) := fun {H' fs o b ys} e eb => by
      rw [upd_ne (ne_of eb e (by intro z; cases z))]
      exact eb
    refine ⟨.ref a, rfl, a, rows, n, rfl, hT, O, fun H1 s1 => ?_⟩
    refine ⟨.ref a, rfl, a, rows, n, rfl, hT.same s1, O, fun sd u H2 s2 hs hu => ?_⟩
    have hx2 := s2 _ _ (s1 _ _ hx)
    have hT2 := (hT.same s1).same s2
    refine ⟨.ref x, rfl, x, C, dx, [], rfl, hx2, W.cls, W.n1, by decide, ?_⟩
    have hx3 := upd_same (H := H2) (a := x) (o := .ins C dx [("seed", .ref sd)])
    have hs3 := tp (o := .ins C dx [("seed", .ref sd)]) hx2 hs
    have hT3 : TabAt (upd H2 x (.ins C dx [("seed", .ref sd)])) a rows := hT2.put hx2 nt
    have hu3 : TabAt (upd H2 x (.ins C dx [("seed", .ref sd)])) u (uRows n) := hu.put hx2 nt
    have sb3 : SameBut x H (upd H2 x (.ins C dx [("seed", .ref sd)])) := SameBut.upd (s1.trans s2).but
    show tSeq _ _ _ _ (upd H2 x (.ins C dx [("seed", .ref sd)]))
    generalize upd H2 x (.ins C dx [("seed", .ref sd)]) = H3 at hx3 hs3 hT3 hu3 sb3
    clear hs hu hx2 hT2 s1 s2
    obtain ⟨as, ha, hal, _⟩ := id hT3
    refine ⟨.ref a, rfl, a, _, rfl, .inr (SqT.of ha), rows.length, by rw [List.length_map, hal]; rfl, by omega, fun t ss H4 s4 ht hss => ?_⟩
    have hx4 := s4 _ _ hx3
    refine ⟨.ref x, rfl, x, C, dx, _, rfl, hx4, W.cls, W.n2, by show 1 < 1000; decide, ?_⟩
    have hx5 := upd_same (H := H4) (a := x) (o := .ins C dx [("seed", .ref sd), ("standing", .ref t)])
    have hs5 := tp (o := .ins C dx [("seed", .ref sd), ("standing", .ref t)]) hx4 (s4 _ _ hs3)
    have ht5 := tp (o := .ins C dx [("seed", .ref sd), ("standing", .ref t)]) hx4 ht
    have hT5 : TabAt (upd H4 x (.ins C dx [("seed", .ref sd), ("standing", .ref t)])) a rows := (hT3.same s4).put hx4 nt
    have hu5 : TabAt (upd H4 x (.ins C dx [("seed", .ref sd), ("standing", .ref t)])) u (uRows n) := (hu3.same s4).put hx4 nt
    have hS5 : SumsAt CS (upd H4 x (.ins C dx [("seed", .ref sd), ("standing", .ref t)])) ss rows.length (lettersL rows.length) := hss.ins hx4 nCC
    have sb5 : SameBut x H (upd H4 x (.ins C dx [("seed", .ref sd), ("standing", .ref t)])) := SameBut.upd (sb3.trans s4.but)
    show tSeq _ _ _ _ (upd H4 x (.ins C dx [("seed", .ref sd), ("standing", .ref t)]))
    generalize upd H4 x (.ins C dx [("seed", .ref sd), ("standing", .ref t)]) = H5 at hx5 hs5 ht5 hT5 hu5 hS5 sb5
    clear hx4 hx3 hs3 hT3 hu3 ht hss s4 ha hal
    refine ⟨Nat.zero_le _, fun m em => ⟨.ref x, rfl, x, C, dx, _, rfl, same_upd em _ _ hx5, W.cls, W.n3, by show 2 < 1000; decide, ?_⟩⟩
    have s6 := same_upd (o := .tup []) em
    have hx6 := s6 _ _ hx5
    have hx7 := upd_same (H := upd H5 m (.tup [])) (a := x) (o := .ins C dx [("seed", .ref sd), ("standing", .ref t), ("made", .ref m)])
    have hm7 := tp (o := .ins C dx [("seed", .ref sd), ("standing", .ref t), ("made", .ref m)]) hx6 (upd_same (H := H5) (a := m) (o := .tup []))
    have hs7 := tp (o := .ins C dx [("seed", .ref sd), ("standing", .ref t), ("made", .ref m)]) hx6 (s6 _ _ hs5)
    have ht7 := tp (o := .ins C dx [("seed", .ref sd), ("standing", .ref t), ("made", .ref m)]) hx6 (s6 _ _ ht5)
    have hT7 : TabAt (upd (upd H5 m (.tup [])) x (.ins C dx [("seed", .ref sd), ("standing", .ref t), ("made", .ref m)])) a rows := (hT5.same s6).put hx6 nt
    have hu7 : TabAt (upd (upd H5 m (.tup [])) x (.ins C dx [("seed", .ref sd), ("standing", .ref t), ("made", .ref m)])) u (uRows n) := (hu5.same s6).put hx6 nt
    have hS7 : SumsAt CS (upd (upd H5 m (.tup [])) x (.ins C dx [("seed", .ref sd), ("standing", .ref t), ("made", .ref m)])) ss rows.length (lettersL rows.length) := (hS5.same s6).ins hx6 nCC
    have sb7 : SameBut x H (upd (upd H5 m (.tup [])) x (.ins C dx [("seed", .ref sd), ("standing", .ref t), ("made", .ref m)])) := SameBut.upd (sb5.trans s6.but)
    show sFld K (tVar 0) (tTup tNil) "kept" { nx := fun x H' => Q V.non H', rt := Q } (L2.start n_winit [V.ref x, V.ref a]) (upd (upd H5 m (.tup [])) x (.ins C dx [("seed", .ref sd), ("standing", .ref t), ("made", .ref m)]))
    generalize upd (upd H5 m (.tup [])) x (.ins C dx [("seed", .ref sd), ("standing", .ref t), ("made", .ref m)]) = H7 at hx7 hm7 hs7 ht7 hT7 hu7 hS7 sb7
    refine ⟨Nat.zero_le _, fun k ek => ⟨.ref x, rfl, x, C, dx, _, rfl, same_upd ek _ _ hx7, W.cls, W.n4, by show 3 < 1000; decide, ?_⟩⟩
    have s8 := same_upd (o := .tup []) ek
    have hx8 := s8 _ _ hx7
    exact q _ (SameBut.upd (sb7.trans s8.but)) ⟨dx, sd, t, m, k, a, u, u, ss, upd_same, ⟨tp hx8 (s8 _ _ hs7), (hT7.same s8).put hx8 nt, (hu7.same s8).put hx8 nt, (hu7.same s8).put hx8 nt, tp hx8 (s8 _ _ ht7), (hS7.same s8).ins hx8 nCC, tp hx8 (s8 _ _ hm7), tp hx8 upd_same⟩⟩
/-! ### what a web tells -/
abbrev s_wtable : Stmt := inClass (topS 76) 4
theorem sc_wtable : FnScope ["self"] ["self"] (defScope s_wtable) := ⟨rfl, rfl, rfl, by decide +kernel, rfl, by decide +kernel, by decide +kernel⟩
def spWTable (C CS : Addr) : Sp := fun vs H Q _ => ∃ (x : Addr) (W : Wb), vs = [.ref x] ∧ WebG C CS H x W ∧ ∀ a, TabAt H a W.rows → Q (.ref a) H
theorem ok_wtable {f : Addr} {fd : FuncData} {k : Nat} (F : Fun K "table" "Web.table" s_wtable f fd) (WC : WebC K mg C) : FnOk P w K mg base CX0 (k + 1) f fd ["self"] (spWTable C CS) := by
  refine F.ok sc_wtable (fun vs H Q E h => ?_) (fun cdv A outer s H vs Q E hr h => ?_)
  · obtain ⟨x, W, rfl, _⟩ := h
    rfl
  · obtain ⟨x, W, rfl, hW, q⟩ := h
    refine ⟨_, (pss_one (ps_ret (pe_ix (i_tup (K := K)) (pf (K := K) (pv 0)) pe_int (fun _ _ => rfl)))), ?_⟩
    obtain ⟨dx, s0, t, m, k, a, u, v, ss, h1, h⟩ := hW
    exact ⟨.ref x, rfl, x, C, dx, _, _, rfl, h1, WC.cls, WC.n1, rfl, s0, _, 0, .ref a, rfl, rfl, SqT.of h.seed, atI_nat (j := 0) rfl, q a h.tab⟩
abbrev s_wweights : Stmt := inClass (topS 76) 5
theorem sc_wweights : FnScope ["self"] ["self"] (defScope s_wweights) := ⟨rfl, rfl, rfl, by decide +kernel, rfl, by decide +kernel, by decide +kernel⟩
def spWWeights (C CS : Addr) : Sp := fun vs H Q _ => ∃ (x : Addr) (W : Wb) (n : Nat), vs = [.ref x] ∧ WebG C CS H x W ∧ TabOk W.rows n ∧ ∀ (p : Addr) (V : Nat → Nat) (H' : Hp), Same H H' → H' p = some (.tup ((List.range n).map fun i => .int (V i))) → Wg.Wt n (ent W.rows) V → Q (.ref p) H'
theorem ok_wweights {f : Addr} {fd : FuncData} (F : Fun K "weights" "Web.weights" s_wweights f fd) (WC : WebC K mg C) (c_weights_tables : Cal P w K mg base CX0 6 "weights_tables" ["table"] spWeights) : FnOk P w K mg base CX0 7 f fd ["self"] (spWWeights C CS) := by
  refine F.ok sc_wweights (fun vs H Q E h => ?_) (fun cdv A outer s H vs Q E hr h => ?_)
  · obtain ⟨x, W, n, rfl, _⟩ := h
    rfl
  · obtain ⟨x, W, n, rfl, hW, O, q⟩ := h
    refine ⟨_, (pss_one (ps_ret (pe_cal c_weights_tables hr (by rfl) (pa_cons (pe_ix (i_tup (K := K)) (pf (K := K) (pv 0)) pe_int (fun _ _ => rfl)) pa_nil)))), ?_⟩
    obtain ⟨dx, s0, t, m, k, a, u, v, ss, h1, h⟩ := hW
    exact ⟨.ref x, rfl, x, C, dx, _, _, rfl, h1, WC.cls, WC.n1, rfl, s0, _, 0, .ref a, rfl, rfl, SqT.of h.seed, atI_nat (j := 0) rfl, a, W.rows, n, rfl, h.tab, O, q⟩
abbrev s_places : Stmt := inClass (topS 76) 6
theorem sc_places : FnScope ["self"] ["self"] (defScope s_places) := ⟨rfl, rfl, rfl, by decide +kernel, rfl, by decide +kernel, by decide +kernel⟩
def spPlaces (C CS : Addr) : Sp := fun vs H Q _ => ∃ (x : Addr) (W : Wb), vs = [.ref x] ∧ WebG C CS H x W ∧ Q (.int (W.sums.length : Nat)) H
theorem ok_places {f : Addr} {fd : FuncData} {k : Nat} (F : Fun K "places" "Web.places" s_places f fd) (T : Tx mg) (WC : WebC K mg C) : FnOk P w K mg base CX0 (k + 1) f fd ["self"] (spPlaces C CS) := by
  refine F.ok sc_places (fun vs H Q E h => ?_) (fun cdv A outer s H vs Q E hr h => ?_)
  · obtain ⟨x, W, rfl, _⟩ := h
    rfl
  · obtain ⟨x, W, rfl, hW, q⟩ := h
    refine ⟨_, (pss_one (ps_ret (pe_callB (c_len (K := K)) (by rfl) T.len PySem.boot_len (pa_cons (pf (K := K) (pv 0)) pa_nil)))), ?_⟩
    obtain ⟨dx, s0, t, m, k, a, u, v, ss, h1, h⟩ := hW
    refine ⟨.ref x, rfl, x, C, dx, _, _, rfl, h1, WC.cls, WC.n2, rfl, t, _, rfl, .inr (SqT.of h.stand), ?_⟩
    rw [List.length_map, h.sums.1]
    exact q
/-! ### lists told anew -/
def NewRows (H : Hp) (Q : VK) (R : List (List Int)) : Prop := ∀ (L : Addr) (ts : List Addr) (H' : Hp), Same H H' → H L = none → H' L = some (.lst (ts.map V.ref)) → RefsAt H' ts R → Q (.ref L) H'
def NewInts (H : Hp) (Q : VK) (R : List Int) : Prop := ∀ (L : Addr) (H' : Hp), Same H H' → H L = none → H' L = some (.lst (R.map V.int)) → Q (.ref L) H'
abbrev s_hues : Stmt := inClass (topS 76) 9
theorem sc_hues : FnScope ["self"] ["self"] (defScope s_hues) := ⟨rfl, rfl, rfl, by decide +kernel, rfl, by decide +kernel, by decide +kernel⟩
def spHues (C CS : Addr) : Sp := fun vs H Q _ => ∃ (x : Addr) (W : Wb), vs = [.ref x] ∧ WebG C CS H x W ∧ NewRows H Q W.hues
theorem ok_hues {f : Addr} {fd : FuncData} {k : Nat} (F : Fun K "hues" "Web.hues" s_hues f fd) (T : Tx mg) (WC : WebC K mg C) : FnOk P w K mg base CX0 (k + 1) f fd ["self"] (spHues C CS) := by
  refine F.ok sc_hues (fun vs H Q E h => ?_) (fun cdv A outer s H vs Q E hr h => ?_)
  · obtain ⟨x, W, rfl, _⟩ := h
    rfl
  · obtain ⟨x, W, rfl, hW, q⟩ := h
    refine ⟨_, (pss_one (ps_ret (pe_callTy (c_lst (K := K)) (by rfl) T.list (by decide +kernel) (pa_cons (pe_ix (i_tup (K := K)) (pf (K := K) (pv 0)) pe_int (fun _ _ => rfl)) pa_nil)))), ?_⟩
    obtain ⟨dx, s0, t, m, k, a, u, v, ss, h1, h⟩ := hW
    obtain ⟨us, hu, hR⟩ := h.hue.refs
    exact ⟨.ref x, rfl, x, C, dx, _, _, rfl, h1, WC.cls, WC.n1, rfl, s0, _, 1, .ref u, rfl, rfl, SqT.of h.seed, atI_nat (j := 1) rfl, u, _, rfl, .inr (SqT.of hu), fun L eL => q L us _ (same_upd eL) eL upd_same (hR.same (same_upd eL))⟩
abbrev s_leans : Stmt := inClass (topS 76) 10
theorem sc_leans : FnScope ["self"] ["self"] (defScope s_leans) := ⟨rfl, rfl, rfl, by decide +kernel, rfl, by decide +kernel, by decide +kernel⟩
def spLeans (C CS : Addr) : Sp := fun vs H Q _ => ∃ (x : Addr) (W : Wb), vs = [.ref x] ∧ WebG C CS H x W ∧ NewRows H Q W.leans
theorem ok_leans {f : Addr} {fd : FuncData} {k : Nat} (F : Fun K "leans" "Web.leans" s_leans f fd) (T : Tx mg) (WC : WebC K mg C) : FnOk P w K mg base CX0 (k + 1) f fd ["self"] (spLeans C CS) := by
  refine F.ok sc_leans (fun vs H Q E h => ?_) (fun cdv A outer s H vs Q E hr h => ?_)
  · obtain ⟨x, W, rfl, _⟩ := h
    rfl
  · obtain ⟨x, W, rfl, hW, q⟩ := h
    refine ⟨_, (pss_one (ps_ret (pe_callTy (c_lst (K := K)) (by rfl) T.list (by decide +kernel) (pa_cons (pe_ix (i_tup (K := K)) (pf (K := K) (pv 0)) pe_int (fun _ _ => rfl)) pa_nil)))), ?_⟩
    obtain ⟨dx, s0, t, m, k, a, u, v, ss, h1, h⟩ := hW
    obtain ⟨us, hu, hR⟩ := h.lean.refs
    exact ⟨.ref x, rfl, x, C, dx, _, _, rfl, h1, WC.cls, WC.n1, rfl, s0, _, 2, .ref v, rfl, rfl, SqT.of h.seed, atI_nat (j := 2) rfl, v, _, rfl, .inr (SqT.of hu), fun L eL => q L us _ (same_upd eL) eL upd_same (hR.same (same_upd eL))⟩
abbrev s_done : Stmt := inClass (topS 76) 11
theorem sc_done : FnScope ["self"] ["self"] (defScope s_done) := ⟨rfl, rfl, rfl, by decide +kernel, rfl, by decide +kernel, by decide +kernel⟩
def spDone (C CS : Addr) : Sp := fun vs H Q _ => ∃ (x : Addr) (W : Wb), vs = [.ref x] ∧ WebG C CS H x W ∧ NewInts H Q W.made
theorem ok_done {f : Addr} {fd : FuncData} {k : Nat} (F : Fun K "done" "Web.done" s_done f fd) (T : Tx mg) (WC : WebC K mg C) : FnOk P w K mg base CX0 (k + 1) f fd ["self"] (spDone C CS) := by
  refine F.ok sc_done (fun vs H Q E h => ?_) (fun cdv A outer s H vs Q E hr h => ?_)
  · obtain ⟨x, W, rfl, _⟩ := h
    rfl
  · obtain ⟨x, W, rfl, hW, q⟩ := h
    refine ⟨_, (pss_one (ps_ret (pe_callTy (c_lst (K := K)) (by rfl) T.list (by decide +kernel) (pa_cons (pf (K := K) (pv 0)) pa_nil)))), ?_⟩
    obtain ⟨dx, s0, t, m, k, a, u, v, ss, h1, h⟩ := hW
    exact ⟨.ref x, rfl, x, C, dx, _, _, rfl, h1, WC.cls, WC.n3, rfl, m, _, rfl, .inr (SqT.of h.made), fun L eL => q L _ (same_upd eL) eL upd_same⟩
abbrev s_held : Stmt := inClass (topS 76) 14
theorem sc_held : FnScope ["self"] ["self"] (defScope s_held) := ⟨rfl, rfl, rfl, by decide +kernel, rfl, by decide +kernel, by decide +kernel⟩
def spHeldM (C CS : Addr) : Sp := fun vs H Q _ => ∃ (x : Addr) (W : Wb), vs = [.ref x] ∧ WebG C CS H x W ∧ NewInts H Q W.kept
theorem ok_heldM {f : Addr} {fd : FuncData} {k : Nat} (F : Fun K "held" "Web.held" s_held f fd) (T : Tx mg) (WC : WebC K mg C) : FnOk P w K mg base CX0 (k + 1) f fd ["self"] (spHeldM C CS) := by
  refine F.ok sc_held (fun vs H Q E h => ?_) (fun cdv A outer s H vs Q E hr h => ?_)
  · obtain ⟨x, W, rfl, _⟩ := h
    rfl
  · obtain ⟨x, W, rfl, hW, q⟩ := h
    refine ⟨_, (pss_one (ps_ret (pe_callTy (c_lst (K := K)) (by rfl) T.list (by decide +kernel) (pa_cons (pf (K := K) (pv 0)) pa_nil)))), ?_⟩
    obtain ⟨dx, s0, t, m, k, a, u, v, ss, h1, h⟩ := hW
    exact ⟨.ref x, rfl, x, C, dx, _, _, rfl, h1, WC.cls, WC.n4, rfl, k, _, rfl, .inr (SqT.of h.kept), fun L eL => q L _ (same_upd eL) eL upd_same⟩
abbrev s_wlen : Stmt := inClass (topS 76) 18
theorem sc_wlen : FnScope ["self"] ["self"] (defScope s_wlen) := ⟨rfl, rfl, rfl, by decide +kernel, rfl, by decide +kernel, by decide +kernel⟩
def spWLen (C CS : Addr) : Sp := fun vs H Q _ => ∃ (x : Addr) (W : Wb) (n : Nat), vs = [.ref x] ∧ WebG C CS H x W ∧ 0 < W.rows.length ∧ (∀ r ∈ W.rows, r.length = n) ∧ Q (.int n) H
theorem ok_wlen {f : Addr} {fd : FuncData} {k : Nat} (F : Fun K "__len__" "Web.__len__" s_wlen f fd) (T : Tx mg) (WC : WebC K mg C) : FnOk P w K mg base CX0 (k + 1) f fd ["self"] (spWLen C CS) := by
  refine F.ok sc_wlen (fun vs H Q E h => ?_) (fun cdv A outer s H vs Q E hr h => ?_)
  · obtain ⟨x, W, n, rfl, _⟩ := h
    rfl
  · obtain ⟨x, W, n, rfl, hW, l0, hw, q⟩ := h
    refine ⟨_, (pss_one (ps_ret (pe_callB (c_len (K := K)) (by rfl) T.len PySem.boot_len (pa_cons (pe_ix (i_tup (K := K)) (pe_ix (i_tup (K := K)) (pf (K := K) (pv 0)) pe_int (fun _ _ => rfl)) pe_int (fun _ _ => rfl)) pa_nil)))), ?_⟩
    obtain ⟨dx, s0, t, m, k, a, u, v, ss, h1, h⟩ := hW
    obtain ⟨as, b0, e1, e2, e3⟩ := h.tab.row l0
    refine ⟨.ref x, rfl, x, C, dx, _, _, rfl, h1, WC.cls, WC.n1, rfl, s0, _, 0, .ref a, rfl, rfl, SqT.of h.seed, atI_nat (j := 0) rfl, a, _, 0, .ref b0, rfl, rfl, SqT.of e1, atI_nat (j := 0) e2, b0, _, rfl, .inr (SqT.of e3), ?_⟩
    rw [List.length_map, row_len hw l0]
    exact q
end
end Bw
set_option Elab.async false
set_option linter.all false
set_option maxRecDepth 100000
set_option maxHeartbeats 4000000
namespace Bw
open PySem PySem.Spec PyProof.Rows L2
section
variable {P : Program} {w : World} {K : PySem.W.Frag} {mg : Str → Option Value} {base : Heap} {C : Addr}
abbrev s_law_told : Stmt := topS 83
abbrev n_law_told : List Str := ["_law_book", "_law_powers"]
theorem sc_law_told : FnScope n_law_told ["_law_book"] (defScope s_law_told) := ⟨rfl, rfl, rfl, by decide +kernel, rfl, by decide +kernel, by decide +kernel⟩
def spTold : Sp := fun vs H Q _ => ∃ (d : Addr) (bk : List Tm) (n M : Nat) (ℓ : (List Int → Int) → Int), vs = [.ref d] ∧ BkAt H d bk ∧ BookOf n M ℓ bk ∧ bk.length ≤ 1000 ∧
  ∀ (L : Addr) (ts : List Addr) (r : List Tm) (H' : Hp), Same H H' → H L = none → H' L = some (.lst (ts.map V.ref)) → TermsAt H' ts r → Cn ℓ r → r.length = bk.length → Q (.ref L) H'
theorem ok_told {f : Addr} {fd : FuncData} (F : Fun K "_law_told" "_law_told" s_law_told f fd) (T : Tx mg) : FnOk P w K mg base CX0 1 f fd ["_law_book"] spTold := by
  refine F.ok sc_law_told (fun vs H Q E h => ?_) (fun cdv A outer s H vs Q E hr h => ?_)
  · obtain ⟨d, bk, n, M, ℓ, rfl, _⟩ := h
    rfl
  · obtain ⟨d, bk, n, M, ℓ, rfl, eB, B, hl, q⟩ := h
    have hu := hr.units
    refine ⟨_, (pss_one (ps_ret (pe_lc (own := [("_law_powers", 1)]) (by rfl) sc_law_told.nd (p_list (K := K) (pe_revL (pe_callB (cr_sortTI (K := K)) (by rfl) T.sorted (by decide +kernel) (pa_cons (pe_callTy (call_list_dT rfl) (by rfl) T.list (by decide +kernel) (pa_cons (pv 0) pa_nil)) pa_nil)))) (blkOk_by (own := [("_law_powers", 1)]) (N := n_law_told) (sc := defScope s_law_told) (by decide +kernel)) (fun _ _ _ _ _ => (pg_name (i := 1) sc_law_told.nd rfl (.inl rfl))) (fun _ _ _ _ _ => pts_nil) (fun _ _ _ _ _ => (pe_tup (pa_cons (pv 1) (pa_cons (pe_dget (u1 hu) (pv 0) (pv 1) (fun _ _ => rfl)) pa_nil))))))), ?_⟩
    refine ⟨.ref d, rfl, d, _, rfl, .inl eB, fun p bs ep hk => ?_⟩
    have sp := same_upd (o := .lst (bs.map V.ref)) ep
    obtain ⟨k1, k2⟩ := keys_of hk
    have k3 : ∀ b ∈ bs, keyOf (upd H p (.lst (bs.map V.ref))) b = keyOf H b := fun b hb => by
      obtain ⟨q', hq'⟩ := k1 b hb
      rw [keyOf_at hq', keyOf_at (sp _ _ hq')]
    have k4 : bs.map (keyOf (upd H p (.lst (bs.map V.ref)))) = bk.map (·.1) := by
      rw [← k2]
      exact List.map_congr_left k3
    refine ⟨p, bs, rfl, SqL.of upd_same, fun b hb => ?_, fun h2 b hb => ?_, fun ts' p2 hp hw ep2 => ?_⟩
    · obtain ⟨q', hq'⟩ := k1 b hb
      exact ⟨q', sp _ _ hq'⟩
    · refine nd_keys B.nd B.sz ?_ _ ?_
      · rw [← k4, List.length_map]
        exact h2
      · rw [← k4]
        exact List.mem_map_of_mem hb
    · generalize hH1 : upd H p (.lst (bs.map V.ref)) = H1 at *
      have sp2 := same_upd (o := .lst (ts'.map V.ref)) ep2
      refine ⟨p2, _, rfl, SqL.of upd_same, fun p3 ep3 => ?_⟩
      have sp3 := same_upd (o := .lst (ts'.map V.ref).reverse) ep3
      refine ⟨p3, rfl, ⟨_, SqL.of upd_same⟩, fun L eL => ?_⟩
      have s3 : Same H1 (upd (upd H1 p2 (.lst (ts'.map V.ref))) p3 (.lst (ts'.map V.ref).reverse)) := sp2.trans sp3
      have nL3 : p3 ≠ L := ne_of_none upd_same eL
      have e3 : (upd (upd H1 p2 (.lst (ts'.map V.ref))) p3 (.lst (ts'.map V.ref).reverse)) p3 = some (.lst (ts'.map V.ref).reverse) := upd_same
      generalize (upd (upd H1 p2 (.lst (ts'.map V.ref))) p3 (.lst (ts'.map V.ref).reverse)) = H3 at *
      rw [← List.map_reverse] at e3
      have pm : ((ts'.reverse).map (keyOf H1)).Perm (bk.map (·.1)) := by
        rw [← k4]
        exact ((List.reverse_perm ts').trans hp).map _
      have pw : ((ts'.reverse).map (keyOf H1)).Pairwise fun x y => HT.lexLt x y = false := by
        rw [List.pairwise_map, List.pairwise_reverse]
        exact hw
      have kt : ∀ b ∈ ts'.reverse, ∃ q : List Int, H1 b = some (.tup (q.map V.int)) := fun b hb => by
        obtain ⟨q', hq'⟩ := k1 b (hp.mem_iff.mp (List.mem_reverse.mp hb))
        exact ⟨q', sp _ _ hq'⟩
      have sH : Same H H3 := sp.trans s3
      have eB3 := sH _ _ eB
      generalize ts'.reverse = us at *
      have lu : us.length = bk.length := by
        have z := pm.length_eq
        rw [List.length_map, List.length_map] at z
        exact z
      refine lc_list (K := K) (a := p3) (xs := us.map V.ref) (fun j H' => ∃ ts : List Addr, H' L = some (.lst (ts.map V.ref)) ∧ TermsAt H' ts (fallB bk ((us.map (keyOf H1)).take j)) ∧ Same H3 H') ⟨[], upd_same, .nil, same_upd eL⟩ (fun j H' _ ⟨_, _, _, s⟩ => SqL.of (s _ _ e3)) ?_ ?_
      · rintro j x H4 hx ⟨ts, e4, hT4, s4⟩
        obtain ⟨b, eb, rfl⟩ : ∃ b, us[j]? = some b ∧ x = .ref b := by
          rw [List.getElem?_map] at hx
          cases e : us[j]? with
          | none =>
            rw [e] at hx
            cases hx
          | some t =>
            rw [e] at hx
            exact ⟨t, rfl, (Option.some.inj hx).symm⟩
        obtain ⟨q', hq'⟩ := kt b (List.mem_of_getElem? eb)
        have ek : (us.map (keyOf H1))[j]? = some q' := by
          rw [List.getElem?_map, eb]
          show some (keyOf H1 b) = _
          rw [keyOf_at hq']
        have hq4 := s4 _ _ (s3 _ _ hq')
        obtain ⟨a, ha, e1⟩ := List.mem_map.mp (pm.mem_iff.mp (List.mem_of_getElem? ek))
        have gb : getB bk q' = some a.2 := getB_mem B.nd (by rw [← e1]; exact ha)
        have hv : valV (bk.map enc) (q'.map Sum.inl) = some (V.int a.2) := by
          rw [enc_val, gb]
          rfl
        refine ⟨rfl, .ref b, rfl, .ref d, rfl, .ref b, rfl, d, .int a.2, rfl, .inr ⟨_, q'.map Sum.inl, b, .inl (s4 _ _ eB3), rfl, by rw [kV_ints]; exact hq4, hv.symm⟩, by show 2 ≤ sizeLine; decide, fun t et => ?_⟩
        have st := same_upd (o := .tup [.ref b, .int a.2]) et
        have lt : ts.length ≤ 1000 := by
          have z := hT4.1
          unfold fallB at z
          rw [List.length_map, List.length_take, List.length_map] at z
          omega
        refine ⟨_, st _ _ e4, by rw [List.length_map]; exact small1000 lt, ts ++ [t], ?_, ?_, Same.updN (s4.trans st) eL⟩
        · rw [upd_same, List.map_append]
          rfl
        · rw [fallB_take ek, gb]
          exact TermsAt.put (TermsAt.snoc (hT4.same st) ⟨b, upd_same, st _ _ hq4⟩) (st _ _ e4)
      · rintro H4 ⟨ts, e4, hT4, s4⟩
        rw [List.length_map, ← List.length_map (f := keyOf H1), List.take_length] at hT4
        refine q L ts _ _ (sH.trans s4) (sH.free eL) e4 hT4 (fallB_cn B pm pw) ?_
        exact (fallB_perm B.nd pm).length_eq
/-! ### the small methods -/
abbrev s_terms : Stmt := inClass (topS 66) 1
theorem sc_terms : FnScope ["self"] ["self"] (defScope s_terms) := ⟨rfl, rfl, rfl, by decide +kernel, rfl, by decide +kernel, by decide +kernel⟩
def spTermsM (C : Addr) : Sp := fun vs H Q _ => ∃ (a : Addr) (n : Nat) (r : List Tm), vs = [.ref a] ∧ SumAt C H a n r ∧ ∀ (L : Addr) (us : List Addr) (H' : Hp), Same H H' → H L = none → H' L = some (.lst (us.map V.ref)) → TermsAt H' us r → Q (.ref L) H'
theorem ok_termsM {f : Addr} {fd : FuncData} (F : Fun K "terms" "Sum.terms" s_terms f fd) (T : Tx mg) (S : SumC K mg C) : FnOk P w K mg base CX0 1 f fd ["self"] (spTermsM C) := by
  refine F.ok sc_terms (fun vs H Q E h => ?_) (fun cdv A outer s H vs Q E hr h => ?_)
  · obtain ⟨a, n, r, rfl, _⟩ := h
    rfl
  · obtain ⟨a, n, r, rfl, ⟨dx, p, us, h1, h2, h3⟩, q⟩ := h
    refine ⟨_, (pss_one (ps_ret (pe_callTy (c_lst (K := K)) (by rfl) T.list (by decide +kernel) (pa_cons (pf (K := K) (pv 0)) pa_nil)))), ?_⟩
    refine ⟨.ref a, rfl, a, C, dx, _, .ref p, rfl, h1, S.cls, S.np, rfl, p, _, rfl, .inr (SqT.of h2), fun L eL => ?_⟩
    have sL := same_upd (o := .lst (us.map V.ref)) eL
    exact q L us _ sL eL upd_same (h3.same sL)
abbrev s_len : Stmt := inClass (topS 66) 13
theorem sc_len : FnScope ["self"] ["self"] (defScope s_len) := ⟨rfl, rfl, rfl, by decide +kernel, rfl, by decide +kernel, by decide +kernel⟩
def spLenM (C : Addr) : Sp := fun vs H Q _ => ∃ (a : Addr) (n : Nat) (r : List Tm), vs = [.ref a] ∧ SumAt C H a n r ∧ Q (.int r.length) H
theorem ok_lenM {f : Addr} {fd : FuncData} (F : Fun K "__len__" "Sum.__len__" s_len f fd) (T : Tx mg) (S : SumC K mg C) : FnOk P w K mg base CX0 1 f fd ["self"] (spLenM C) := by
  refine F.ok sc_len (fun vs H Q E h => ?_) (fun cdv A outer s H vs Q E hr h => ?_)
  · obtain ⟨a, n, r, rfl, _⟩ := h
    rfl
  · obtain ⟨a, n, r, rfl, ⟨dx, p, us, h1, h2, h3⟩, q⟩ := h
    refine ⟨_, (pss_one (ps_ret (pe_callB (c_len (K := K)) (by rfl) T.len PySem.boot_len (pa_cons (pf (K := K) (pv 0)) pa_nil)))), ?_⟩
    refine ⟨.ref a, rfl, a, C, dx, _, .ref p, rfl, h1, S.cls, S.np, rfl, p, _, rfl, .inr (SqT.of h2), ?_⟩
    rw [List.length_map, h3.1]
    exact q
abbrev s_law_unit : Stmt := topS 88
abbrev n_law_unit : List Str := ["_law_many", "_law_k", "_law_i"]
theorem sc_law_unit : FnScope n_law_unit ["_law_many", "_law_k"] (defScope s_law_unit) := ⟨rfl, rfl, rfl, by decide +kernel, rfl, by decide +kernel, by decide +kernel⟩
def spUnit : Sp := fun vs H Q _ => ∃ (n : Nat) (k : Int), vs = [.int n, .int k] ∧ n ≤ 100 ∧ ∀ (b : Addr) (H' : Hp), Same H H' → H' b = some (.tup ((byL n k 1).map V.int)) → Q (.ref b) H'
theorem ok_unit {f : Addr} {fd : FuncData} (F : Fun K "_law_unit" "_law_unit" s_law_unit f fd) (T : Tx mg) : FnOk P w K mg base CX0 1 f fd ["_law_many", "_law_k"] spUnit := by
  refine F.ok sc_law_unit (fun vs H Q E h => ?_) (fun cdv A outer s H vs Q E hr h => ?_)
  · obtain ⟨n, k, rfl, _⟩ := h
    rfl
  · obtain ⟨n, k, rfl, hn, q⟩ := h
    refine ⟨_, (pss_one (ps_ret (pe_callTy (c_tup (K := K)) (by rfl) T.tuple (by decide +kernel) (pa_cons (pe_lc (own := [("_law_i", 2)]) (by rfl) sc_law_unit.nd (pi_range1 (by rfl) T.range (pa_cons (pv 0) pa_nil)) (blkOk_by (own := [("_law_i", 2)]) (N := n_law_unit) (sc := defScope s_law_unit) (by decide +kernel)) (fun _ _ _ _ _ => (pg_name (i := 2) sc_law_unit.nd rfl (.inl rfl))) (fun _ _ _ _ _ => pts_nil) (fun _ _ _ _ _ => (pe_callTy call_int1 (by rfl) T.int (by decide +kernel) (pa_cons (pe_cmpR op_eq (pv 2) (pv 1) (nomark _)) pa_nil)))) pa_nil)))), ?_⟩
    refine ⟨.int n, rfl, n, rfl, by omega, by omega, fun D eD => ?_⟩
    refine lc_range (fun j H' => H' D = some (.lst ((byL j k 1).map V.int)) ∧ Same H H') ⟨upd_same, same_upd eD⟩ ?_ ?_
    · rintro j H1 hj ⟨e1, s1⟩
      have hj : j < n := hj
      refine ⟨rfl, .int (0 + j), rfl, .int k, rfl, rfl, .inr ⟨_, rfl, _, e1, by rw [List.length_map, byL_len]; exact small1000 (by omega), ?_, Same.updN s1 eD⟩⟩
      rw [upd_same, byL_succ, List.map_append]
      congr 3
      by_cases z : (j : Int) = k
      · rw [if_pos z, decide_eq_true (by rw [Int.zero_add, z])]
        rfl
      · rw [if_neg z, decide_eq_false (fun e => by injection e with e; exact z (by omega))]
        rfl
    · rintro H1 ⟨e1, s1⟩
      refine ⟨D, _, rfl, .inl ⟨SqL.of e1, fun p ep => ?_⟩⟩
      exact q p _ (s1.trans (same_upd ep)) upd_same
end
theorem Falls.nd {r : List Tm} (h : Falls r) : NdB r := by
  unfold NdB List.Nodup
  rw [List.pairwise_map]
  exact h.imp fun {a b} z => Ne.symm (lex_ne z)
theorem Lf_ind_nd {r : List Tm} (nd : NdB r) {p : List Int} {c : Int} (h : (p, c) ∈ r) : Lf r (ind p) = c := by
  induction r with
  | nil => cases h
  | cons a r ih =>
    have nd' := List.nodup_cons.mp nd
    rw [Lf_cons]
    rcases List.mem_cons.mp h with e | h
    · subst e
      rw [Lf_ind_none fun b hb e => nd'.1 (List.mem_map.mpr ⟨b, hb, e⟩)]
      show c * ind p p + 0 = c
      unfold ind
      rw [if_pos rfl]
      omega
    · have ne : a.1 ≠ p := fun e => nd'.1 (List.mem_map.mpr ⟨(p, c), h, e.symm⟩)
      rw [ih nd'.2 h]
      unfold ind
      rw [if_neg ne]
      omega
theorem nd_mem {r : List Tm} (nd : NdB r) (nz : ∀ a ∈ r, a.2 ≠ 0) (p : List Int) (c : Int) : (p, c) ∈ r ↔ c ≠ 0 ∧ Lf r (ind p) = c := by
  constructor
  · intro m
    exact ⟨nz _ m, Lf_ind_nd nd m⟩
  · rintro ⟨hc, e⟩
    by_cases m : ∃ a ∈ r, a.1 = p
    · obtain ⟨a, ha, rfl⟩ := m
      rw [Lf_ind_nd nd (p := a.1) (c := a.2) ha] at e
      rw [← e]
      exact ha
    · rw [Lf_ind_none fun a ha e' => m ⟨a, ha, e'⟩] at e
      exact absurd e.symm hc
theorem nd_nodup {r : List Tm} (nd : NdB r) : r.Nodup := by
  unfold NdB List.Nodup at nd
  rw [List.pairwise_map] at nd
  exact nd.imp fun {a b} z (e : a = b) => z (congrArg Prod.fst e)
theorem Cn.perm {n M : Nat} {ℓ : (List Int → Int) → Int} {r bk : List Tm} (cn : Cn ℓ r) (B : BookOf n M ℓ bk) : r.Perm bk := by
  refine (List.perm_ext_iff_of_nodup (nd_nodup cn.fall.nd) (nd_nodup B.nd)).mpr fun a => ?_
  obtain ⟨p, c⟩ := a
  rw [nd_mem cn.fall.nd cn.nz, nd_mem B.nd B.nz, cn.lf, B.lf]
section
variable {P : Program} {w : World} {K : PySem.W.Frag} {mg : Str → Option Value} {base : Heap} {C : Addr}
/-! ### what the law asks of a sum -/
theorem TermsAt.al {H : Hp} {ts us : List Addr} {r : List Tm} (h1 : TermsAt H ts r) (h2 : TermsAt H us r) (h8 : ∀ a ∈ r, a.1.length ≤ 8) (j : Nat) (u v : V) (e1 : (ts.map V.ref)[j]? = some u) (e2 : (us.map V.ref)[j]? = some v) : Al 3 H u v := by
  obtain ⟨t, et, rfl⟩ := ref_at e1
  obtain ⟨t', et', rfl⟩ := ref_at e2
  obtain ⟨a, ea, q, a1, a2⟩ := h1.at et
  obtain ⟨a', ea', q', b1, b2⟩ := h2.at et'
  cases (Option.some.inj (ea.symm.trans ea'))
  have hl := h8 a (List.mem_of_getElem? ea)
  refine .inr (.inl ⟨t, t', _, _, rfl, rfl, a1, b1, rfl, by show 2 ≤ 1000; decide, fun i x y f1 f2 => ?_⟩)
  match i, f1, f2 with
  | 0, f1, f2 =>
    cases (Option.some.inj f1)
    cases (Option.some.inj f2)
    refine .inr (.inl ⟨q, q', _, _, rfl, rfl, a2, b2, rfl, by rw [List.length_map]; omega, fun i x y f1 f2 => ?_⟩)
    rw [f1] at f2
    cases (Option.some.inj f2)
    obtain ⟨z, _, rfl⟩ := int_at f1
    exact .inl ⟨rfl, .inl ⟨z, rfl⟩⟩
  | 1, f1, f2 =>
    cases (Option.some.inj f1)
    cases (Option.some.inj f2)
    exact .inl ⟨rfl, .inl ⟨_, rfl⟩⟩
  | i + 2, f1, f2 => simp at f1
abbrev s_law_sum_is : Stmt := topS 84
abbrev n_law_sum_is : List Str := ["_law_found", "_law_width", "_law_book"]
theorem sc_law_sum_is : FnScope n_law_sum_is ["_law_found", "_law_width", "_law_book"] (defScope s_law_sum_is) := ⟨rfl, rfl, rfl, by decide +kernel, rfl, by decide +kernel, by decide +kernel⟩
def spIs (C : Addr) : Sp := fun vs H Q _ => ∃ (a d : Addr) (n M : Nat) (r bk : List Tm) (ℓ : (List Int → Int) → Int), vs = [.ref a, .int n, .ref d] ∧ SumAt C H a n r ∧ n ≤ 8 ∧ BkAt H d bk ∧ Cn ℓ r ∧ BookOf n M ℓ bk ∧ bk.length ≤ 1000 ∧ ∀ H', Same H H' → Q (.bl true) H'
theorem ok_is {f fl : Addr} {fd fdl : FuncData} (F : Fun K "_law_sum_is" "_law_sum_is" s_law_sum_is f fd) (T : Tx mg) (S : SumC K mg C) (c_same : Cal P w K mg base CX0 5 "_law_same" ["_law_found", "_law_due"] (spSame 4)) (c_told : Cal P w K mg base CX0 1 "_law_told" ["_law_book"] spTold)
    (hs : PySem.W.findIn K (.ref C) "__len__" = some (some (.ref fl))) (hf : PySem.W.isFn K (.ref fl) = true) (Fl : FnOk P w K mg base CX0 1 fl fdl ["self"] (spLenM C)) (bl : Binds K fdl ["self"] []) (m_terms : MetS P w K mg base 1 C "terms" ["self"] (spTermsM C)) : FnOk P w K mg base CX0 6 f fd ["_law_found", "_law_width", "_law_book"] (spIs C) := by
  refine F.ok sc_law_sum_is (fun vs H Q E h => ?_) (fun cdv A outer s H vs Q E hr h => ?_)
  · obtain ⟨a, d, n, M, r, bk, ℓ, rfl, _⟩ := h
    rfl
  · obtain ⟨a, d, n, M, r, bk, ℓ, rfl, hA, n8, eB, cn, B, hl, q⟩ := h
    refine ⟨_, (pss_cons (ps_if (PW.pt (pw_or (pt_not (pt_val (pe_callB (c_isi (K := K)) (by rfl) T.isinstance (by decide +kernel) (pa_cons (pv 0) (pa_cons (pe_glob (v := .ref C) (by rfl) S.gl rfl) pa_nil))))) (pw_or (pt_not (pt_val (pe_cal c_same hr (by rfl) (pa_cons (pf (K := K) (pv 0)) (pa_cons (pv 1) pa_nil))))) (pw_or1 (pt_cmpR op_ne (pe_callB (c_lenOwn hs hf Fl (hr.mono (by decide)) bl pass0) (by rfl) T.len PySem.boot_len (pa_cons (pv 0) pa_nil)) (pe_callB call_len_dT (by rfl) T.len PySem.boot_len (pa_cons (pv 2) pa_nil)) (nomark _))))))
    (pss_one (ps_ret pe_bl))
    pss_nil)
  (pss_one (ps_ret (pe_cal c_same hr (by rfl) (pa_cons (pe_mtS0 m_terms (hr.mono (by decide)) (pv 0)) (pa_cons (pe_cal c_told (hr.mono (by decide)) (by rfl) (pa_cons (pv 2) pa_nil)) pa_nil)))))), ?_⟩
    obtain ⟨dx, p, us, h1, h2, h3⟩ := id hA
    refine ⟨.ref a, rfl, .ref a, .ref C, .ref C, .ref C, true, rfl, .own C, .base (.ins h1 S.cls S.ha S.hn S.htk S.hm), S.self, true, rfl, iteF ?_⟩
    have pm := cn.perm B
    refine ⟨.ref a, rfl, a, C, dx, _, .int n, rfl, h1, S.cls, S.nw, rfl, .int n, rfl, .int n, .int n, rfl, .inl ⟨rfl, .inl ⟨n, rfl⟩⟩, fun H1 s1 => ⟨true, rfl, iteF ?_⟩⟩
    refine ⟨.ref a, rfl, a, dx, _, rfl, s1 _ _ h1, a, n, r, rfl, hA.same s1, r.length, rfl, Int.natCast_nonneg _, ?_, .ref d, rfl, d, _, rfl, s1 _ _ eB, rfl, _, rfl, ?_⟩
    · have := pm.length_eq
      omega
    · rw [List.length_map, pm.length_eq, decide_eq_true rfl]
      refine iteF ?_
      refine ⟨.ref a, rfl, a, dx, _, rfl, s1 _ _ h1, rfl, a, n, r, rfl, hA.same s1, fun L1 u1 H2 s2 L0 e2 hT2 => ?_⟩
      refine ⟨.ref d, rfl, d, bk, n, M, ℓ, rfl, (s1.trans s2) _ _ eB, B, hl, fun L2 u2 r2 H3 s3 L20 e3 hT3 cn3 l3 => ?_⟩
      have er : r2 = r := cn3.uniq cn
      subst er
      have h8 : ∀ a ∈ r2, a.1.length ≤ 8 := fun a ha => by
        rw [(B.sz a (pm.mem_iff.mp ha)).1]
        exact n8
      refine ⟨.ref L1, .ref L2, rfl, .inr (.inr ⟨L1, L2, _, _, rfl, rfl, s3 _ _ e2, e3, ?_, ?_, fun j u v f1 f2 => TermsAt.al (hT2.same s3) hT3 h8 j u v f1 f2⟩), fun H4 s4 => q H4 (((s1.trans s2).trans s3).trans s4)⟩
      · rw [List.length_map, List.length_map, hT2.1, hT3.1]
      · rw [List.length_map, hT2.1]
        omega
end
end Bw
set_option Elab.async false
set_option linter.all false
set_option maxRecDepth 100000
set_option maxHeartbeats 4000000
namespace Bw
open PySem PySem.Spec PyProof.Rows L2
/-! ### sep.join(reversed(list)) -/
section
variable {prog : Program} {w : World} {A : Around} {E : Value → Shared → Prop} {s : Shared}
theorem join_rev {it l : Addr} {x : Str} {t : Tok} {items : Array Value} {Q : Value → Shared → Prop} (hh : A.handled = none) (hit : s.heap.IsRevIter it l ((items.size : Int) - 1)) (hl : s.heap.IsList l items) (hne : l ≠ it) (hn : items.size ≤ sizeLine)
    (hstr : ∀ v ∈ items.toList, ∃ y u, v = Value.str y u)
    (hq : ∀ (h' : Heap) (tk : Nat) (l' : List (Str × Tok)), (∀ b o, b ≠ it → s.heap.get? b = some o → h'.get? b = some o) → ItemsOf (fun i v => items[items.size - 1 - i]? = some v) (strValues l').toArray items.size →
      JoinOk x (l'.map (·.1)) = true ∧ ∀ t' k, Q (.str (Txt.join x (l'.map (·.1))) t') { s with heap := h', toks := k }) :
    wpAny (model prog w) A (call (.builtin "str.join") [.str x t, .ref it]) Q E s := by
  refine wpAny_call (codeAny_call_builtin F.slot_str_join.plain F.entry_str_join (F.slot_str_join.check _ _ _ _ _ _ _ _ (typeIs_str _ _ _) (F.args_str_join_2 _ _) ?_))
  rw [join_tree_other]
  refine wpAny_bind (wpAny_typeOf hit.typeIs ?_)
  show wpAny _ A.in1 ((pyIter (.ref it)).tryCatch _ >>= fun it => collect it >>= fun items => joinTail x items) _ _ s
  refine wpAny_bind (wpAny_tryCatch (wpAny_pyIter_revIter hit ?_))
  refine wpAny_bind (RT.collect_rev (A := A.in1) hh hit hl hne hn fun h' tk acc hk hacc => ?_)
  obtain ⟨l', hl'⟩ := exists_strValues acc.toList fun v hv => by
    obtain ⟨j, hj, rfl⟩ := Array.mem_iff_getElem.mp (Array.mem_toList_iff.mp hv)
    have := hacc.2 j _ (Array.getElem?_eq_getElem hj)
    exact hstr _ (Array.mem_toList_iff.mpr (Array.mem_of_getElem? this))
  rw [← hl']
  have hacc' : ItemsOf (fun i v => items[items.size - 1 - i]? = some v) (strValues l').toArray items.size := by rw [hl']; simpa using hacc
  obtain ⟨hok, hpost⟩ := hq h' tk l' hk hacc'
  unfold JoinOk at hok
  rw [Bool.not_eq_true'] at hok
  have g : Gives (joinTail x (strValues l')) (joinMade x l') := by
    have g0 := gives_joinTail x l' hok
    cases l' with
    | nil => exact g0
    | cons p r => cases r with
      | nil => exact g0
      | cons q r' => exact g0
  exact g prog w A (wants Q E) _ (post_join l' ⟨joinFit_length hok, hpost⟩)
end
def tJoinRev (K : PySem.W.Frag) (to te : TE) : TE := fun σ H Q => to σ H fun x H1 => ∃ a : Str, x = .str a ∧ te σ H1 fun v H2 => ∃ (p : Addr) (ys : List Str), v = .ref p ∧ SqL K H2 p (ys.map V.str) ∧ JoinOk a ys.reverse = true ∧ Q (.str (Txt.join a ys.reverse)) H2
theorem vals_strs {ys : List Str} : ∀ {us : List Value}, Vals (ys.map V.str) us → ∀ v ∈ us, ∃ y u, v = Value.str y u := by
  induction ys with
  | nil =>
    intro us r v hv
    cases r
    cases hv
  | cons y ys ih =>
    intro us r v hv
    cases r with
    | cons a b =>
      rcases List.mem_cons.mp hv with rfl | hv
      · obtain ⟨t, e⟩ := a
        exact ⟨y, t, e⟩
      · exact ih b v hv
theorem vals_map {ys : List Str} : ∀ {l : List (Str × Tok)}, Vals (ys.map V.str) (strValues l) → l.map (·.1) = ys := by
  induction ys with
  | nil =>
    intro l r
    cases l with
    | nil => rfl
    | cons a l => cases r
  | cons y ys ih =>
    intro l r
    cases l with
    | nil => cases r
    | cons a l =>
      cases r with
      | cons p q =>
        obtain ⟨t, e⟩ := p
        have e : Value.str a.1 a.2 = Value.str y t := e
        injection e with e1 e2
        rw [List.map_cons, ih q, e1]
theorem pe_joinRev {X : Cx} {K : PySem.W.Frag} {o e : Expr} {to te : TE} {apos pos p2 pos2 : Pos} (hc : X.calm = true) (ho : PE X o to) (hg2 : Gl X "reversed") (hm2 : X.mg "reversed" = none) (he : PE X e te) (hK : X.K = K := by rfl)
    (hs : starEach [e] X.env = (false, eval e X.env) :: starEach [] X.env := by rfl)
    (hs2 : starEach [.Call (.Name "reversed" p2) [e] [] pos2] X.env = [(false, eval (.Call (.Name "reversed" p2) [e] [] pos2) X.env)] := by rfl)
    (hbase : attributeBase o "join" X.env (eval o X.env) = eval o X.env := by rfl) (hline : (apos.endLine == pos.line) = true := by rfl) :
    PE X (.Call (.Attribute o "join" apos) [.Call (.Name "reversed" p2) [e] [] pos2] [] pos) (tJoinRev K to te) := by
  subst hK
  refine ⟨fun pins s σ H Q I h => ?_⟩
  refine PySem.Call_method1 hbase hs2 hline (thn (ho.run pins s σ H _ I h) fun v s1 ⟨x, H1, I1, r1, q1⟩ => ?_)
  obtain ⟨sep, rfl, q1⟩ := q1
  obtain ⟨t, rfl⟩ := _root_.id r1
  refine ⟨"str", _, F.plainAttrs_str, F.slot_str_join, F.type_str_join, typeIs_str _ _ _, (fun _ e => nomatch e), Calls.callWith_builtin rfl (Calls.evalArgs_plain (Calls.spliced_cons ?_))⟩
  refine Call_ (ld_blt I1 hg2 hm2 PyProof.Rows.boot_reversed (PyProof.Rows.callWith_type1 (args_cons (thn (he.run pins s1 σ H1 _ I1 q1) fun u s2 ⟨v, H2, I2, r2, q2⟩ => args_nil ?_) hs) hs rfl))
  obtain ⟨a, ys, ev, hq, hok, q⟩ := q2
  subst ev
  obtain rfl : u = Value.ref a := r2
  obtain ⟨its, rv, p', hz⟩ := I2.list hq
  refine call_reversed_list p'.isList (Calls.spliced_nil ?_)
  have k0 : ∀ b o, s2.heap.get? b = some o → (s2.heap.push (revObj a ((its.toArray.size : Int) - 1))).get? b = some o := fun b o e => Heap.get?_push_of_some _ e
  have I3 : Inv X pins σ H2 { s2 with heap := s2.heap.push (revObj a ((its.toArray.size : Int) - 1)) } := I2.kept (t' := s2.toks) k0
  obtain ⟨f0, f1, f2, f3, f4, f5⟩ := I2.fpOk (H' := H2) (b := s2.heap.objs.size) (Nat.le_refl _) (I2.hok.fresh (Nat.le_refl _))
  have hl := p'.isList
  obtain ⟨ol, hol, _⟩ := id hl
  have hne : a ≠ s2.heap.objs.size := Nat.ne_of_lt (Heap.lt_size hol)
  have hn : its.toArray.size ≤ sizeLine := by rw [List.size_toArray, ← rv.length]; exact hz
  refine join_rev (s := { s2 with heap := s2.heap.push (revObj a ((its.toArray.size : Int) - 1)) }) (I2.ok.hd hc) ⟨_, Heap.get?_push_size _ rfl, rfl, rfl⟩ (hl.push _) hne hn (by rw [List.toList_toArray]; exact vals_strs rv) fun h' tk l' hk hi => ?_
  have rr := RT.vals_rev rv hi
  rw [List.toList_toArray, ← List.map_reverse] at rr
  have el := vals_map rr
  rw [el]
  refine ⟨hok, fun t' k => ?_⟩
  have I4 : Inv X pins σ H2 { s2 with heap := h', toks := k } := I3.turned (t' := k) (fun b o hb e => hk b o hb e) f0 f1 f3 f4 f5
  exact ⟨.str _, H2, I4, ⟨t', rfl⟩, q⟩
/-! ### repr(x), str(x), bool(x) of own instances -/
section
variable {X : Cx} {CX : CXT} {C f : Addr} {fd : FuncData} {ps : List Str} {sp : Sp} {n : Nat} {E : XK}
def rStrOwn (C : Addr) (sp : Sp) (E : XK) : List V → Hp → VK → Prop := fun xs H Q => ∃ a dx fs, xs = [V.ref a] ∧ H a = some (.ins C dx fs) ∧ sp [.ref a] H (fun z H' => ∃ y : Str, z = .str y ∧ Q (.str y) H') E
theorem c_reprOwn (hs : PySem.W.findIn X.K (.ref C) "__repr__" = some (some (.ref f))) (hf : PySem.W.isFn X.K (.ref f) = true) (F : FnOk X.prog X.w X.K X.mg X.base CX n f fd ps sp) (hr : Room (n + 1) X.A) (hb : Binds X.K fd ps []) (hx : Passes CX X E) : CallR X (.builtin "repr") (rStrOwn C sp E) := by
  intro pins s σ H xs us Q I r h
  obtain ⟨a, dx, fs, rfl, ha, q⟩ := h
  obtain ⟨u, rfl, ru⟩ := vals1 r
  obtain rfl : u = Value.ref a := ru
  obtain ⟨mA, J, _⟩ := ins_get I.hok ha
  obtain ⟨od, J, _⟩ := J.look
  obtain ⟨m, hF⟩ := I.fr
  refine PySem.W.repr_K (Nat.lt_of_le_of_lt (Nat.le_add_right _ _) hr.in1.units) hF I.ok.mod.kin J hs hf ?_
  have hl := F.len _ _ _ _ q
  refine wpAny_call (codeAny_mono (F.run X.A.in1 X.stack s H ⟨[.ref a], []⟩ [.ref a] [.ref a] _ E hr.in1 I.env0.in1 (by
    have z := hb s [.ref a] I.kIn (by simpa using hl)
    simpa using z) (.cons rfl .nil) q) fun r s' hq => ?_)
  cases r with
  | error e => exact hx pins σ H s e s' I hq
  | ok fl =>
    cases fl with
    | ret w =>
      obtain ⟨z, H', I', rz, y, ei, qz⟩ := I.after hq
      subst ei
      obtain ⟨t, rfl⟩ := (show ∃ t, w = Value.str y t from rz)
      exact ⟨.str y, H', I', ⟨_, rfl⟩, qz⟩
    | next => exact False.elim hq
    | brk => exact False.elim hq
    | cont => exact False.elim hq
theorem c_strOwn (hs : PySem.W.findIn X.K (.ref C) "__str__" = some (some (.ref f))) (hf : PySem.W.isFn X.K (.ref f) = true) (F : FnOk X.prog X.w X.K X.mg X.base CX n f fd ps sp) (hr : Room (n + 2) X.A) (hb : Binds X.K fd ps []) (hx : Passes CX X E) : CallR X (.type "str") (rStrOwn C sp E) := by
  intro pins s σ H xs us Q I r h
  obtain ⟨a, dx, fs, rfl, ha, q⟩ := h
  obtain ⟨u, rfl, ru⟩ := vals1 r
  obtain rfl : u = Value.ref a := ru
  obtain ⟨mA, J, _⟩ := ins_get I.hok ha
  obtain ⟨od, J, _⟩ := J.look
  obtain ⟨m, hF⟩ := I.fr
  refine PySem.W.kso_call (Nat.lt_of_le_of_lt (Nat.le_add_right _ _) hr.in1.in1.units) I.kIn J hs hf ?_
  have hl := F.len _ _ _ _ q
  refine wpAny_call (codeAny_mono (F.run X.A.in1.in1 X.stack s H ⟨[.ref a], []⟩ [.ref a] [.ref a] _ E hr.in1.in1 I.env0.in1.in1 (by
    have z := hb s [.ref a] I.kIn (by simpa using hl)
    simpa using z) (.cons rfl .nil) q) fun r s' hq => ?_)
  cases r with
  | error e => exact hx pins σ H s e s' I hq
  | ok fl =>
    cases fl with
    | ret w =>
      obtain ⟨z, H', I', rz, y, ei, qz⟩ := I.after hq
      subst ei
      obtain ⟨t, rfl⟩ := (show ∃ t, w = Value.str y t from rz)
      exact ⟨.str y, H', I', ⟨_, rfl⟩, qz⟩
    | next => exact False.elim hq
    | brk => exact False.elim hq
    | cont => exact False.elim hq
/-! ### bool(x) by its len -/
theorem truthy_len {K : PySem.W.Frag} {prog : Program} {w : World} {A : Around} {E : Value → Shared → Prop} {s : Shared} {x C f : Addr} {ox : Obj} {od : Option Obj} {Q : Bool → Shared → Prop} (Y : K.In s.heap) (I : PySem.W.InstAt s.heap x ox C od) (hs : PySem.W.findIn K (.ref C) "__bool__" = some none) (hl : PySem.W.findIn K (.ref C) "__len__" = some (some (.ref f))) (hf : PySem.W.isFn K (.ref f) = true)
    (h : wpAny (model prog w) A.in1 (call (.ref f) [.ref x]) (fun v s' => ∃ n t, v = .int n t ∧ 0 ≤ n ∧ n < 2 ^ 63 ∧ ∀ tk, Q (n != 0) { s' with toks := tk }) E s) : wpAny (model prog w) A (truthy (.ref x)) Q E s := by
  have key : wpAny (model prog w) A (runValue (.builtin "len" ⟨[.ref x], []⟩)) (fun r s' => ∃ n t, r = .int n t ∧ Q (n != 0) s') E s := by
    refine wpAny_runValue (codeAny_builtin entry_len ?_)
    rw [Around.under_plainId plain_len _]
    unfold Builtin.«len»
    refine wpAny_bind (m := oneArg "len" _) (wpAny_pure ?_)
    refine wpAny_bind (m := callSpecial? (.ref x) (Str.ofString "__len__")) (PySem.W.special_fn Y I hl (beq_iff_eq.mp hf) (wpAny_mono h (fun r s' hr => ?_) fun _ _ y => y))
    obtain ⟨n, u, rfl, h0, h1, hq⟩ := hr
    refine wpAny_bind (wpAny_holding (wpAny_pure ?_))
    refine wpAny_bind (wpAny_letGo ?_)
    show wpAny _ _ (if n < 0 then _ else _) _ _ _
    rw [if_neg (by omega)]
    show wpAny _ _ (if n ≥ 2 ^ 63 then _ else _) _ _ _
    rw [if_neg (by omega)]
    exact wpAny_bind (wpAny_mkInt (wpAny_pure ⟨_, _, rfl, hq _⟩))
  unfold truthy
  refine wpAny_bind (m := callSpecial? (.ref x) (Str.ofString "__bool__")) (wpAny_bind (wpAny_bind (I.type.here ((PySem.W.looks_findIn Y hs).here (wpAny_pure ?_)))))
  refine wpAny_bind (wpAny_bind (I.type.here ((PySem.W.looks_findIn Y hl).here ?_)))
  show wpAny _ _ (runValue (.builtin "len" ⟨[.ref x], []⟩) >>= _) _ _ _
  refine wpAny_bind (wpAny_mono key (fun r s' hr => ?_) fun _ _ y => y)
  obtain ⟨n, t, rfl, hq⟩ := hr
  exact wpAny_pure hq
end
end Bw
set_option Elab.async false
set_option linter.all false
set_option maxRecDepth 100000
set_option maxHeartbeats 4000000
namespace Bw
open PySem PySem.Spec PyProof.Rows L2
section
variable {X : Cx} {CX : CXT} {C f : Addr} {fd : FuncData} {ps : List Str} {sp : Sp} {n : Nat} {E : XK}
/-! ### bool(x) by its len -/
def rBoolOwn (C : Addr) (sp : Sp) (E : XK) : List V → Hp → VK → Prop := fun xs H Q => ∃ a dx fs, xs = [V.ref a] ∧ H a = some (.ins C dx fs) ∧ sp [.ref a] H (fun z H' => ∃ i : Int, z = .int i ∧ 0 ≤ i ∧ i < 2 ^ 63 ∧ Q (.bl (i != 0)) H') E
theorem c_boolOwn (hs0 : PySem.W.findIn X.K (.ref C) "__bool__" = some none) (hs : PySem.W.findIn X.K (.ref C) "__len__" = some (some (.ref f))) (hf : PySem.W.isFn X.K (.ref f) = true) (F : FnOk X.prog X.w X.K X.mg X.base CX n f fd ps sp) (hr : Room (n + 3) X.A) (hb : Binds X.K fd ps []) (hx : Passes CX X E) : CallR X (.type "bool") (rBoolOwn C sp E) := by
  intro pins s σ H xs us Q I r h
  obtain ⟨a, dx, fs, rfl, ha, q⟩ := h
  obtain ⟨u, rfl, ru⟩ := vals1 r
  obtain rfl : u = Value.ref a := ru
  obtain ⟨mA, J, _⟩ := ins_get I.hok ha
  obtain ⟨od, J, _⟩ := J.look
  refine callType_codes (T := "bool") (Bi := Builtin.«object.__init__») (Q₁ := fun r s₁ => ∃ b, r = Value.bool b ∧ EP X pins σ Q (.bool b) s₁) PySem.F.called_bool (PySem.F.typeCall_bool_1 _) PySem.F.entry_object_init ?_ ?_
  · refine codeAny_of_tree ?_
    show wpAny _ X.A.in1.in1 (do checkBuiltinCall "bool.__new__" ⟨[.type "bool", .ref a], []⟩; again (.builtin "bool.__new__" ⟨[.type "bool", .ref a], []⟩)) _ _ s
    refine wpAny_bind (wpAny_of_eq (PySem.F.newCall_bool_1 _) (wpAny_pure ⟨plainId_quiet (by decide +kernel) _, codeAny_builtin PySem.F.entry_bool_new ?_⟩))
    rw [Around.under_plainId (by decide +kernel) _]
    unfold Builtin.«bool.__new__»
    refine wpAny_bind (m := isType _) (wpAny_pure ?_)
    refine wpAny_bind (wpAny_of_eq PySem.F.conv_sub_bool ?_)
    refine wpAny_bind (wpAny_pure ?_)
    refine wpAny_bind (wpAny_mono (truthy_len (Q := fun b s₁ => EP X pins σ Q (.bool b) s₁) I.kIn J hs0 hs hf ?_) (fun b s₁ hb => wpAny_pure ⟨b, rfl, hb⟩) fun _ _ y => y)
    have hl := F.len _ _ _ _ q
    refine wpAny_call (codeAny_mono (F.run _ X.stack s H ⟨[.ref a], []⟩ [.ref a] [.ref a] _ E hr.in1.in1.in1 I.env0.in1.in1.in1 (by
      have z := hb s [.ref a] I.kIn (by simpa using hl)
      simpa using z) (.cons rfl .nil) q) fun r s' hq => ?_)
    cases r with
    | error e => exact hx pins σ H s e s' I hq
    | ok fl =>
      cases fl with
      | ret w =>
        obtain ⟨z, H', I', rz, i, ei, i0, i1, qz⟩ := I.after hq
        subst ei
        obtain ⟨t, rfl⟩ := (show ∃ t, w = Value.int i t from rz)
        exact ⟨i, t, rfl, i0, i1, fun tk => ⟨.bl (i != 0), H', I'.tok _, rfl, qz⟩⟩
      | next => exact False.elim hq
      | brk => exact False.elim hq
      | cont => exact False.elim hq
  · rintro obj s₁ ⟨b, rfl, hq⟩
    exact ⟨PySem.typeIs_bool _ _, PySem.F.args_object_init_2 _ _, object_init_meets PySem.F.called_bool.init.lookup PySem.F.called_bool.made (by decide) X.prog X.w X.A.in1 _ s₁ ⟨PySem.typeIs_bool _ _, rfl, hq⟩⟩
/-! ### x == y, x an own instance, y a dict with tuples for keys, or a text -/
theorem own_runV (F : FnOk X.prog X.w X.K X.mg X.base CX n f fd ps sp) (hr : Room n X.A) (hb : Binds X.K fd ps []) (hx : Passes CX X E) {pins : List (Addr × Obj)} {s : Shared} {σ : L2.St} {H : Hp} {a : Addr} {y : V} {u : Value} {Q : Bool → Hp → Prop} (I : L2.Inv X pins σ H s) (ry : L2.RelV y u)
    (q : sp [.ref a, y] H (fun z H' => ∃ c : Bool, z = .bl c ∧ Q c H') E) : wpAny (model X.prog X.w) X.A (call (.ref f) [.ref a, u]) (fun v s' => ∃ (c : Bool) (H' : Hp), v = .bool c ∧ L2.Inv X pins σ H' s' ∧ Q c H') X.xe s := by
  have hl := F.len _ _ _ _ q
  refine wpAny_call (codeAny_mono (F.run X.A X.stack s H ⟨[.ref a, u], []⟩ [.ref a, u] [.ref a, y] _ E hr I.env0 (by
    have z := hb s [.ref a, u] I.kIn (by simpa using hl)
    simpa using z) (.cons rfl (.cons ry .nil)) q) fun r s' hq => ?_)
  cases r with
  | error e => exact hx pins σ H s e s' I hq
  | ok fl =>
    cases fl with
    | ret w =>
      obtain ⟨z, H', I', rz, c, ec, qc⟩ := I.after hq
      subst ec
      obtain rfl : w = Value.bool c := rz
      exact ⟨c, H', rfl, I', qc⟩
    | next => exact False.elim hq
    | brk => exact False.elim hq
    | cont => exact False.elim hq
def rEqOwnV (C : Addr) (sp : Sp) (E : XK) : R2 := fun x y H Q => ∃ a dx fs, x = .ref a ∧ H a = some (.ins C dx fs) ∧ ((∃ y', y = .str y') ∨ ∃ b kvs, y = .ref b ∧ H b = some (.dT kvs)) ∧ sp [.ref a, y] H (fun z H' => ∃ c : Bool, z = .bl c ∧ Q (.bl c) H') E
theorem o_eqOwnV (hnS : PySem.W.notFirst X.K C (.type "str") = true) (hnD : PySem.W.notFirst X.K C (.type "dict") = true) (hs : PySem.W.findIn X.K (.ref C) "__eq__" = some (some (.ref f))) (hf : PySem.W.isFn X.K (.ref f) = true) (F : FnOk X.prog X.w X.K X.mg X.base CX n f fd ps sp) (hr : Room n X.A) (hb : Binds X.K fd ps []) (hx : Passes CX X E) : OpR X (compareOp .Eq) (rEqOwnV C sp E) := by
  intro pins s σ H x y v u Q I rx ry h
  obtain ⟨a, dx, fs, rfl, ha, hy, q⟩ := h
  cases rx
  obtain ⟨mA, J, _⟩ := ins_get I.hok ha
  obtain ⟨od, J, _⟩ := J.look
  obtain ⟨m, hF⟩ := I.fr
  have run := own_runV F hr hb hx I ry q
  have fin : ∀ (v : Value) (s' : Shared), (∃ (c : Bool) (H' : Hp), v = .bool c ∧ L2.Inv X pins σ H' s' ∧ Q (.bl c) H') → PySem.W.CmpBack (EP X pins σ Q) v s' := fun v s' z => by
    obtain ⟨c, H', rfl, I', qc⟩ := z
    exact ⟨.bl c, H', I', rfl, qc⟩
  rcases hy with ⟨y', rfl⟩ | ⟨b, kvs, rfl, eb⟩
  · obtain ⟨t, rfl⟩ := (show ∃ t, u = Value.str y' t from ry)
    show wpAny _ _ (richCompare .Eq (.ref a) (.str y' t)) _ _ _
    exact PySem.W.cmp_K (op := .Eq) (tb := .type "str") hr.units0 hF I.ok.mod.kin J (PySem.W.Looks.of_pure rfl) hnS hs hf (wpAny_mono run fin fun _ _ z => z)
  · obtain rfl : u = Value.ref b := ry
    obtain ⟨_, _, xs, _, o, es, ep, h1, h2, _⟩ := (show ObjOk X.prog X.w H s.heap b (.dT kvs) from I.hok b _ eb)
    show wpAny _ _ (richCompare .Eq (.ref a) (.ref b)) _ _ _
    refine PySem.W.cmp_K (op := .Eq) (tb := .type "dict") hr.units0 hF I.ok.mod.kin J ?_ hnD hs hf (wpAny_mono run fin fun _ _ z => z)
    have : PySem.W.Looks (model X.prog X.w) s.heap (typeOf (.ref b)) o.cls := (PySem.W.Looks.ld (M := model X.prog X.w) (part := none) h1).andThen .now
    rw [← h2.1]
    exact this
end
end Bw
set_option Elab.async false
set_option linter.all false
set_option maxRecDepth 100000
set_option maxHeartbeats 4000000
namespace Bw
open PySem PySem.Spec PyProof.Rows L2
theorem same_empty {prog : Program} {w : World} {A : Around} {E : Value → Shared → Prop} {s : Shared} {nm : String} {a b : Addr} {oa ob : Obj} {es : Array DictEntry} {ep ep' : Nat} {Q : Bool → Shared → Prop} (ha : (a == sysModules) = false) (hb : (b == sysModules) = false)
    (hoa : s.heap.get? a = some oa) (hda : oa.data = .dict es ep) (hob : s.heap.get? b = some ob) (hdb : ob.data = .dict #[] ep') (h : Q (es.size == 0) s) : wpAny (model prog w) A (Builtin.Dict.samePairs nm a b) Q E s := by
  unfold Builtin.Dict.samePairs Builtin.Dict.showsAll
  rw [if_neg (show ¬ (a == sysModules) = true by rw [ha]; exact Bool.false_ne_true), if_neg (show ¬ (b == sysModules) = true by rw [hb]; exact Bool.false_ne_true)]
  refine wpAny_bind (wpAny_pure (wpAny_bind (wpAny_pure ?_)))
  refine wpAny_bind (wpAny_dictEntries hoa hda ?_)
  dsimp only
  refine wpAny_bind (wpAny_dictEntries hob hdb ?_)
  by_cases hsz : es.size = 0
  case neg =>
    rw [if_pos (by simpa using hsz)]
    have hbf : (es.size == 0) = false := by simpa using hsz
    rw [hbf] at h
    exact wpAny_bind (wpAny_rule (wpAny_pure h))
  case pos =>
    have h' : Q true s := by simpa [hsz] using h
    rw [if_neg (by rw [hsz]; simp)]
    refine wpAny_bind (wpAny_dictEpoch hoa hda ?_)
    refine wpAny_bind ?_
    rw [Std.Legacy.Range.forIn_eq_forIn_range', hsz]
    simp only [Std.Legacy.Range.size, Nat.sub_zero, Nat.add_sub_cancel, Nat.div_one, List.range'_zero, List.forIn_nil]
    exact wpAny_pure (wpAny_pure h')
theorem ne_empty {prog : Program} {w : World} {A : Around} {E : Value → Shared → Prop} {s : Shared} {a b : Addr} {oa ob : Obj} {es : Array DictEntry} {ep ep' : Nat} {Q : Value → Shared → Prop} (ha : (a == sysModules) = false) (hb : (b == sysModules) = false)
    (hoa : s.heap.get? a = some oa) (xa : oa.ExactDict) (hda : oa.data = .dict es ep) (hob : s.heap.get? b = some ob) (xb : ob.ExactDict) (hdb : ob.data = .dict #[] ep') (hu : A.units < cLine) (h : Q (.bool (!(es.size == 0))) s) :
    wpAny (model prog w) A (compareOp .NotEq (.ref a) (.ref b)) Q E s := by
  have ta : s.TypeIs (.ref a) "dict" := ⟨oa, hoa, xa.1⟩
  have tb : s.TypeIs (.ref b) "dict" := ⟨ob, hob, xb.1⟩
  refine wpAny_richCompare_same_room (op := .NotEq) ta tb PySem.F.slot_dict_ne (wpAny_call_entry PySem.F.slot_dict_ne ta PySem.F.entry_dict_ne ?_ (PySem.F.args_dict_ne_2 _ _)) hu
  show wpAny _ _ (Builtin.Dict.dictSlotArgs "__ne__" ⟨[.ref a, .ref b], []⟩ >>= _) _ _ s
  refine wpAny_bind ?_
  unfold Builtin.Dict.dictSlotArgs
  refine wpAny_bind (wpAny_notOrdered_dict ta ?_)
  show wpAny _ _ (pure (Value.ref a, Value.ref b)) _ _ s
  refine wpAny_pure ?_
  refine wpAny_bind (wpAny_isInstance (T := "dict") tb PySem.F.sub_dict_dict ?_)
  simp only [Bool.not_true, Bool.false_eq_true, if_false]
  refine wpAny_bind (wpAny_pure (wpAny_bind (wpAny_pure ?_)))
  refine wpAny_bind (same_empty ha hb hoa hda hob hdb ?_)
  refine wpAny_pure ⟨_, rfl, ?_, ?_⟩
  · exact fun x => nomatch x
  · simpa using h
/-- d != {}, d with tuples for keys -/
def rNeD0 : R2 := fun x y H Q => ∃ a b kvs, x = .ref a ∧ y = .ref b ∧ H a = some (.dT kvs) ∧ H b = some (.dT []) ∧ Q (.bl (!(kvs.length == 0))) H
theorem o_neD0 {X : Cx} (hu : X.A.units < cLine) : OpR X (compareOp .NotEq) rNeD0 := by
  intro pins s σ H x y v u Q I rx ry h
  obtain ⟨a, b, kvs, rfl, rfl, ha, hb, q⟩ := h
  cases rx
  cases ry
  obtain ⟨_, sa, xs, kt, o, es, ep, h1, h2, h3, h4, _⟩ := (show ObjOk X.prog X.w H s.heap a (.dT kvs) from I.hok a _ ha)
  obtain ⟨_, sb, ys, kt', o', es', ep', g1, g2, g3, g4, _⟩ := (show ObjOk X.prog X.w H s.heap b (.dT []) from I.hok b _ hb)
  have ly : ys = [] := by
    cases kt'
    rfl
  subst ly
  have e0 : es' = #[] := by
    apply Array.toList_inj.mp
    rw [g4]
    rfl
  subst e0
  have le : es.size = kvs.length := by
    rw [← Array.length_toList, h4, List.length_map]
    exact kt.length.symm
  refine ne_empty sa sb h1 h2 h3 g1 g2 g3 hu ?_
  rw [le]
  exact ⟨.bl _, H, I, rfl, q⟩
end Bw
set_option Elab.async false
set_option linter.all false
set_option maxRecDepth 100000
set_option maxHeartbeats 4000000
namespace Bw
open PySem PySem.Spec PyProof.Rows L2
/-! ### zip of an ascii text and a tuple -/
theorem skeep {h h' : Heap} {it : Addr} {ty : String} {x : Str} {t : Tok} {i : Nat} (st : h.IsStrIter it ty x t i) (k : ∀ o, h.get? it = some o → h'.get? it = some o) : h'.IsStrIter it ty x t i := let ⟨o, e, r⟩ := st; ⟨o, k o e, r⟩
section
variable {P : Program} {w : World} {A : Around} {E : Value → Shared → Prop} {s : Shared} {z TI TO i1 i2 l1 l2 : Addr} {U2 : Nat → Heap → Prop} {Z2 : Array Value → Heap → Prop}
theorem nextOf_str_item {it : Addr} {x : Str} {t : Tok} {i c : Nat} {Q : Value → Shared → Prop} (hit : s.heap.IsStrIter it "str_ascii_iterator" x t i) (hx : x.cps[i]? = some c)
    (hQ : ∀ h', h'.IsStrIter it "str_ascii_iterator" x t (i + 1) → Heap.SameBut it s.heap h' → Q (.str ⟨#[c]⟩ s.toks) { s with heap := h', toks := s.toks + 1 }) :
    wpAny (model P w) A (Builtin.SmallTypes.nextOf (.ref it)) Q E s := by
  obtain ⟨o, ho, hc, hd⟩ := id hit
  unfold Builtin.SmallTypes.nextOf
  refine wpAny_bind (wpAny_callSpecial?_slot (name := Str.ofString "__next__") hit.typeIs F.slot_str_ascii_iterator_next
    (wpAny_call_entry F.slot_str_ascii_iterator_next hit.typeIs F.entry_str_ascii_iterator_next ?_ (F.args_str_ascii_iterator_next_1 _)))
  show wpAny _ _ (field (.ref it) 0 >>= _) _ _ s
  refine wpAny_bind (wpAny_field ho hd (x := .str x t) rfl ?_)
  show wpAny _ _ (field (.ref it) 1 >>= _) _ _ s
  refine wpAny_bind (wpAny_field ho hd (x := .int i 0) rfl ?_)
  simp only [Int.toNat_natCast, hx]
  refine wpAny_bind (wpAny_setField ho hd (by simp) (wpAny_bind (wpAny_mkStr (wpAny_pure ⟨_, rfl, wpAny_pure (hQ _ ?_ (Heap.SameBut.update ..))⟩) (by show 1 ≤ sizeLine; decide))))
  exact ⟨_, Heap.get?_update_self _ ho (Obj.isFreed_of_fields (Obj.data_mapFields hd _)), (Obj.cls_mapFields ..).trans hc, by
    rw [Obj.data_mapFields hd]; simp [rawInt]⟩
theorem zipS_item {k ch : Nat} {X : Str} {T : Tok} {ys : Array Value} {y a b : Value} {Q : Value → Shared → Prop} (S2 : Src P w i2 l2 U2 Z2) (D : ZipApart z TI TO i1 i2 l1 l2)
    (hz : IsZip s.heap z TI TO .none) (hTI : IsPair s.heap TI (.ref i1) (.ref i2)) (hTO : IsPair s.heap TO a b) (h1 : s.heap.IsStrIter i1 "str_ascii_iterator" X T k) (h2 : U2 k s.heap) (hl2 : Z2 ys s.heap) (hx : X.cps[k]? = some ch) (hy : ys[k]? = some y)
    (hQ : ∀ h', IsZip h' z TI TO (rawInt s.heap.objs.size) → IsPair h' TO (.str ⟨#[ch]⟩ s.toks) y → h'.IsStrIter i1 "str_ascii_iterator" X T (k + 1) → U2 (k + 1) h' → IsPair h' s.heap.objs.size (.str ⟨#[ch]⟩ s.toks) y →
      (∀ c o, c ≠ z → c ≠ TO → c ≠ i1 → c ≠ i2 → s.heap.get? c = some o → h'.get? c = some o) → Q (.ref s.heap.objs.size) { s with heap := h', toks := s.toks + 1 }) :
    wpAny (model P w) A (Builtin.«zip.__next__» ⟨[.ref z], []⟩) (fun fin s' => ∃ v, fin = .done (.ret v) ∧ Q v s') E s := by
  show wpAny _ _ (field (Value.ref z) 2 >>= _) _ _ _
  refine wpAny_bind (wpAny_field hz (rfl) (x := .bool false) rfl ?_); show wpAny _ _ (field (Value.ref z) 3 >>= _) _ _ _
  refine wpAny_bind (wpAny_field hz (rfl) (x := .ref TI) rfl ?_); refine wpAny_bind (wpAny_seqItems hTI (rfl) ?_)
  show wpAny _ _ (Builtin.SmallTypes.ownedTupleIsFree (Value.ref z) >>= _) _ _ _
  refine wpAny_bind ?_; unfold Builtin.SmallTypes.ownedTupleIsFree
  refine wpAny_bind (wpAny_field hz (rfl) (x := .none) rfl (wpAny_pure ?_)); simp only [if_true]
  refine wpAny_bind (wpAny_rule ?_); refine wpAny_bind (wpAny_field hz (rfl) (x := .ref TO) rfl ?_)
  refine wpAny_bind (wpAny_setField_rec hz (by simp) fun g1 z1 b1 => ?_); replace z1 : IsZip g1 z TI TO .ellipsis := z1
  refine wpAny_bind ?_; simp only [List.zipIdx_cons, List.zipIdx_nil, List.forIn_cons, List.forIn_nil]
  refine wpAny_bind (wpAny_bind (wpAny_onRaise ?_)); show wpAny _ _ (Builtin.SmallTypes.nextOf (Value.ref i1) >>= _) _ _ _
  refine wpAny_bind (nextOf_str_item (skeep h1 fun o e => b1.extBut _ _ D.i1z e) hx fun g2 u1 b2 => wpAny_pure ?_)
  have p2 : IsPair g2 TO a b := b2.extBut _ _ D.TOi1 (b1.extBut _ _ D.TOz hTO)
  refine wpAny_bind (wpAny_seqItems p2 (rfl) ?_); refine wpAny_bind (wpAny_updateSeq_pair p2 fun g3 p3 b3 => ?_); replace p3 : IsPair g3 TO (.str ⟨#[ch]⟩ s.toks) b := p3
  refine wpAny_bind (wpAny_letGo (wpAny_pure ?_)); refine wpAny_bind (wpAny_bind (wpAny_onRaise ?_)); show wpAny _ _ (Builtin.SmallTypes.nextOf (Value.ref i2) >>= _) _ _ _
  refine wpAny_bind (S2.item _ _ _ k ys y _ (S2.keep _ _ _ h2 fun o e => b3.extBut _ _ D.TOi2.symm (b2.extBut _ _ D.i12.symm (b1.extBut _ _ D.i2z e)))
    (S2.keepS _ _ _ hl2 fun o e => b3.extBut _ _ D.l2TO (b2.extBut _ _ D.l2i1 (b1.extBut _ _ D.l2z e))) hy fun g4 u2 b4 => wpAny_pure ?_)
  have p4 : IsPair g4 TO (.str ⟨#[ch]⟩ s.toks) b := b4.extBut _ _ D.TOi2 p3
  refine wpAny_bind (wpAny_seqItems p4 (rfl) ?_); refine wpAny_bind (wpAny_updateSeq_pair p4 fun g5 p5 b5 => ?_); replace p5 : IsPair g5 TO (.str ⟨#[ch]⟩ s.toks) y := p5
  refine wpAny_bind (wpAny_letGo (wpAny_pure (wpAny_pure ?_))); refine wpAny_bind (wpAny_seqItems p5 (rfl) ?_); refine wpAny_bind (wpAny_newTuple ?_)
  have sz : g5.objs.size = s.heap.objs.size := by rw [b5.1, b4.1, b3.1, b2.1, b1.1]
  have z5 : IsZip g5 z TI TO .ellipsis := b5.extBut _ _ D.TOz.symm (b4.extBut _ _ D.i2z.symm (b3.extBut _ _ D.TOz.symm (b2.extBut _ _ D.i1z.symm z1)))
  have k5 : ∀ c o, c ≠ z → c ≠ TO → c ≠ i1 → c ≠ i2 → s.heap.get? c = some o → g5.get? c = some o := fun c o c1 c2 c3 c4 e => b5.extBut _ _ c2 (b4.extBut _ _ c4 (b3.extBut _ _ c2 (b2.extBut _ _ c3 (b1.extBut _ _ c1 e))))
  have v1 : g5.IsStrIter i1 "str_ascii_iterator" X T (k + 1) := skeep u1 fun o e => b5.extBut _ _ D.TOi1.symm (b4.extBut _ _ D.i12 (b3.extBut _ _ D.TOi1.symm e))
  have v2 : U2 (k + 1) g5 := S2.keep _ _ _ u2 fun o e => b5.extBut _ _ D.TOi2.symm e
  have zl : z < g5.objs.size := Heap.lt_size z5
  show wpAny _ _ (Builtin.SmallTypes.ownedTupleHandOut (Value.ref z) (.ref g5.objs.size) >>= _) _ _ _
  refine wpAny_bind ?_; unfold Builtin.SmallTypes.ownedTupleHandOut
  have z6 : IsZip (g5.push { cls := .type "tuple", data := .seq #[.str ⟨#[ch]⟩ s.toks, y] }) z TI TO .ellipsis := Heap.get?_push_of_some _ z5
  refine wpAny_bind (wpAny_setField_rec z6 (by simp) fun g7 z7 b7 => ?_); replace z7 : IsZip g7 z TI TO (rawInt g5.objs.size) := z7
  refine wpAny_setField_rec z7 (by simp) fun g8 z8 b8 => ?_; replace z8 : IsZip g8 z TI TO (rawInt g5.objs.size) := z8
  have up : ∀ c o, c ≠ z → g5.get? c = some o → g8.get? c = some o := fun c o c1 e => b8.extBut _ _ c1 (b7.extBut _ _ c1 (Heap.get?_push_of_some _ e))
  have p8 : IsPair g8 g5.objs.size (.str ⟨#[ch]⟩ s.toks) y := b8.extBut _ _ (Nat.ne_of_gt zl) (b7.extBut _ _ (Nat.ne_of_gt zl) (Heap.get?_push_size _ rfl))
  rw [sz] at z8 p8
  refine wpAny_pure ⟨_, rfl, ?_⟩; show Q (.ref g5.objs.size) _; rw [sz]
  exact hQ g8 z8 (up _ _ D.TOz p5) (skeep v1 fun o e => up _ o D.i1z e) (S2.keep _ _ _ v2 fun o e => up _ o D.i2z e) p8 fun c o c1 c2 c3 c4 e => up c o c1 (k5 c o c1 c2 c3 c4 e)
theorem zipS_end {k ch : Nat} {X : Str} {T : Tok} {ys : Array Value} {a b : Value} {Q : PySem.Fin → Shared → Prop} (S2 : Src P w i2 l2 U2 Z2) (hh : A.handled = none) (D : ZipApart z TI TO i1 i2 l1 l2)
    (hz : IsZip s.heap z TI TO .none) (hTI : IsPair s.heap TI (.ref i1) (.ref i2)) (hTO : IsPair s.heap TO a b) (h1 : s.heap.IsStrIter i1 "str_ascii_iterator" X T k) (h2 : U2 k s.heap) (hl2 : Z2 ys s.heap) (hx : X.cps[k]? = some ch) (hy : ys[k]? = none)
    (hE : ∀ h' e, (∀ c o, c ≠ z → c ≠ TO → c ≠ i1 → c ≠ i2 → s.heap.get? c = some o → h'.get? c = some o) → (∃ o, h'.get? e = some o ∧ o.cls = .type "StopIteration") → E (.ref e) { s with heap := h', toks := s.toks + 1 }) :
    wpAny (model P w) A (Builtin.«zip.__next__» ⟨[.ref z], []⟩) Q E s := by
  show wpAny _ _ (field (Value.ref z) 2 >>= _) _ _ _
  refine wpAny_bind (wpAny_field hz (rfl) (x := .bool false) rfl ?_); show wpAny _ _ (field (Value.ref z) 3 >>= _) _ _ _
  refine wpAny_bind (wpAny_field hz (rfl) (x := .ref TI) rfl ?_); refine wpAny_bind (wpAny_seqItems hTI (rfl) ?_)
  show wpAny _ _ (Builtin.SmallTypes.ownedTupleIsFree (Value.ref z) >>= _) _ _ _
  refine wpAny_bind ?_; unfold Builtin.SmallTypes.ownedTupleIsFree
  refine wpAny_bind (wpAny_field hz (rfl) (x := .none) rfl (wpAny_pure ?_)); simp only [if_true]
  refine wpAny_bind (wpAny_rule ?_); refine wpAny_bind (wpAny_field hz (rfl) (x := .ref TO) rfl ?_)
  refine wpAny_bind (wpAny_setField_rec hz (by simp) fun g1 z1 b1 => ?_); replace z1 : IsZip g1 z TI TO .ellipsis := z1
  refine wpAny_bind ?_; simp only [List.zipIdx_cons, List.zipIdx_nil, List.forIn_cons, List.forIn_nil]
  refine wpAny_bind (wpAny_bind (wpAny_onRaise ?_)); show wpAny _ _ (Builtin.SmallTypes.nextOf (Value.ref i1) >>= _) _ _ _
  refine wpAny_bind (nextOf_str_item (skeep h1 fun o e => b1.extBut _ _ D.i1z e) hx fun g2 u1 b2 => wpAny_pure ?_)
  have p2 : IsPair g2 TO a b := b2.extBut _ _ D.TOi1 (b1.extBut _ _ D.TOz hTO)
  refine wpAny_bind (wpAny_seqItems p2 (rfl) ?_); refine wpAny_bind (wpAny_updateSeq_pair p2 fun g3 p3 b3 => ?_)
  refine wpAny_bind (wpAny_letGo (wpAny_pure ?_)); refine wpAny_bind (wpAny_bind (wpAny_onRaise ?_)); show wpAny _ _ (Builtin.SmallTypes.nextOf (Value.ref i2) >>= _) _ _ _
  refine wpAny_bind (S2.fin _ _ _ k ys _ hh (S2.keep _ _ _ h2 fun o e => b3.extBut _ _ D.TOi2.symm (b2.extBut _ _ D.i12.symm (b1.extBut _ _ D.i2z e)))
    (S2.keepS _ _ _ hl2 fun o e => b3.extBut _ _ D.l2TO (b2.extBut _ _ D.l2i1 (b1.extBut _ _ D.l2z e))) hy fun g4 e b4 he => ?_)
  obtain ⟨oe, hoe, hce⟩ := he
  have z4 : IsZip g4 z TI TO .ellipsis := b4 _ _ D.i2z.symm (b3.extBut _ _ D.TOz.symm (b2.extBut _ _ D.i1z.symm z1))
  have ez : e ≠ z := fun q => by subst q; rw [z4] at hoe; cases hoe; simp at hce
  refine wpAny_setField_rec z4 (by simp) fun g5 _ b5 => hE g5 e (fun c o c1 c2 c3 c4 q => b5.extBut _ _ c1 (b4 _ _ c4 (b3.extBut _ _ c2 (b2.extBut _ _ c3 (b1.extBut _ _ c1 q))))) ⟨oe, b5.extBut _ _ ez hoe, hce⟩
end
/-- the signs of a text beside what a side tells; the text is the longer one -/
def ItzS (x : Str) (R2 : Hp → List V → Prop) : It :=
  ⟨fun i H => ∃ (ys : List V) (y : V) (ch : Nat), x.cps[i]? = some ch ∧ R2 H ys ∧ ys[i]? = some y,
    fun i H v H' => ∃ T ch y, v = .ref T ∧ H T = none ∧ H' = upd H T (.tup [.str ⟨#[ch]⟩, y]) ∧ x.cps[i]? = some ch ∧ ∀ ys, R2 H ys → ys[i]? = some y,
    fun i H => ∃ (ys : List V) (ch : Nat), R2 H ys ∧ x.cps[i]? = some ch ∧ ys.length ≤ i⟩
theorem turn_zipS {P : Program} {w : World} {K : PySem.W.Frag} {elts : List Expr} {kk : Nat} {tpos : Pos} {x : Str} {t : Tok} {a b z TI TO i1 i2 : Addr} {R2 : Hp → List V → Prop} {U2 : Nat → Heap → Prop} {Z2 : Array Value → Heap → Prop}
    (S2 : Src P w i2 b U2 Z2) (L2' : Side b K R2 Z2) (D : ZipApart z TI TO i1 i2 a b) :
    Turn P w K (.Tuple elts kk tpos) (ItzS x R2) [z, TI, TO, i1, i2] z (fun i h => IsZip h z TI TO .none ∧ IsPair h TI (.ref i1) (.ref i2) ∧ (∃ x y, IsPair h TO x y) ∧ h.IsStrIter i1 "str_ascii_iterator" x t i ∧ U2 i h) where
  mem := by simp
  obj := fun i h st c hc => by
    obtain ⟨hz, hTI, ⟨x, y, hTO⟩, e1, e2⟩ := st
    have e' : c = z ∨ c = TI ∨ c = TO ∨ c = i1 ∨ c = i2 := by simpa using hc
    rcases e' with rfl | rfl | rfl | rfl | rfl
    · exact ⟨_, hz, fun v q => nomatch q⟩
    · exact ⟨_, hTI, fun v q => nomatch q⟩
    · exact ⟨_, hTO, fun v q => nomatch q⟩
    · obtain ⟨o, e, _, d⟩ := e1
      exact ⟨o, e, fun v q => by rw [d] at q; cases q⟩
    · exact S2.obj _ _ e2
  keep := fun i h h' st k => by
    obtain ⟨hz, hTI, ⟨x, y, hTO⟩, h1, h2⟩ := st
    exact ⟨k z (by simp) _ hz, k TI (by simp) _ hTI, ⟨x, y, k TO (by simp) _ hTO⟩, skeep h1 (k i1 (by simp)), S2.keep _ _ _ h2 (k i2 (by simp))⟩
  item := by
    intro X hP hw hK hc i pins s σ H E I hf st hg
    obtain ⟨hz, hTI, ⟨x0, y0, hTO⟩, h1, h2⟩ := st
    obtain ⟨ys, y, ch, hx, hqy, hy⟩ := hg
    obtain ⟨its2, rv2, p2, _⟩ := L2'.get X pins σ H s ys hK I hqy
    obtain ⟨u2, hu2, ru2⟩ := rv2.get hy
    have hzl : z < s.heap.objs.size := Heap.lt_size hz
    have hT : s.TypeIs (.ref z) "zip" := ⟨_, hz, rfl⟩
    unfold pyNext
    refine wpAny_bind (wpAny_attempt (wpAny_callSpecial?_slot (name := Str.ofString "__next__") hT F.slot_zip_next (wpAny_call_entry F.slot_zip_next hT F.entry_zip_next
      (zipS_item S2 D hz hTI hTO h1 h2 p2 (y := u2) hx (by simpa using hu2) fun h' z' TO' h1' h2' hT' hk => wpAny_pure ?_) (F.args_zip_next_1 _))))
    refine ⟨_, rfl, wpAny_letOwnedTupleGo_zip (s := { s with heap := h', toks := s.toks + 1 }) z' fun h'' z'' sb => ?_⟩
    have hT2 : h''.get? s.heap.objs.size = some { cls := .type "tuple", data := .seq #[.str ⟨#[ch]⟩ s.toks, u2] } := ((sb.2 _ (Nat.ne_of_gt hzl)).trans hT')
    subst hP hw hK
    have new : ObjOk X.prog X.w (upd H s.heap.objs.size (.tup [.str ⟨#[ch]⟩, y])) h'' s.heap.objs.size (.tup [.str ⟨#[ch]⟩, y]) := ⟨by show 2 ≤ sizeLine; decide, [.str ⟨#[ch]⟩ s.toks, u2], .cons ⟨_, rfl⟩ (.cons ru2 .nil), ⟨_, hT2, rfl, _, rfl⟩⟩
    have kk' : ∀ (c : Addr) (o : Obj), c ∉ [z, TI, TO, i1, i2] → s.heap.get? c = some o → h''.get? c = some o := fun c o hb q => (sb.2 c (fun q' => hb (by simp [q']))).trans (hk c o (fun q' => hb (by simp [q'])) (fun q' => hb (by simp [q'])) (fun q' => hb (by simp [q'])) (fun q' => hb (by simp [q'])) q)
    have I1 : L2.Inv X pins σ (upd H s.heap.objs.size (.tup [.str ⟨#[ch]⟩, y])) { s with heap := h'', toks := s.toks + 1 } := I.turnedNew (t' := s.toks + 1) (ch := [z, TI, TO, i1, i2]) kk' hf (Nat.le_refl _) new
    refine ⟨.ref s.heap.objs.size, _, I1, rfl, ⟨_, ch, y, rfl, I.hok.fresh (Nat.le_refl _), rfl, hx, fun l hl => ?_⟩, ⟨z'', ?_, ⟨.str ⟨#[ch]⟩ s.toks, u2, ?_⟩, ?_, ?_⟩, fun c hcm => ?_⟩
    · rw [L2'.inj X pins σ H s l ys rfl I hl hqy]
      exact hy
    · exact (sb.2 _ D.TIz).trans ((hk _ _ D.TIz D.TITO D.TIi1 D.TIi2 hTI))
    · exact (sb.2 _ D.TOz).trans TO'
    · exact skeep h1' fun o q => (sb.2 _ D.i1z).trans q
    · exact S2.keep _ _ _ h2' fun o q => (sb.2 _ D.i2z).trans q
    · have hlt : c < s.heap.objs.size := by
        have e' : c = z ∨ c = TI ∨ c = TO ∨ c = i1 ∨ c = i2 := by simpa using hcm
        rcases e' with rfl | rfl | rfl | rfl | rfl
        · exact hzl
        · exact Heap.lt_size hTI
        · exact Heap.lt_size hTO
        · obtain ⟨_, e1, _⟩ := h1; exact Heap.lt_size e1
        · obtain ⟨_, e2, _⟩ := S2.obj _ _ h2; exact Heap.lt_size e2
      rw [upd_ne (Nat.ne_of_lt hlt)]
      exact (hf c hcm).1
  done := by
    intro X hP hw hK hc i pins s σ H E I hf st hg
    obtain ⟨hz, hTI, ⟨x0, y0, hTO⟩, h1, h2⟩ := st
    obtain ⟨ys, ch, hqy, hx, hend⟩ := hg
    obtain ⟨its2, rv2, p2, _⟩ := L2'.get X pins σ H s ys hK I hqy
    have l2 := rv2.length
    have he : its2.toArray[i]? = none := by simp; omega
    have hT : s.TypeIs (.ref z) "zip" := ⟨_, hz, rfl⟩
    unfold pyNext
    refine wpAny_bind (wpAny_attempt (wpAny_callSpecial?_slot (name := Str.ofString "__next__") hT F.slot_zip_next
      (wpAny_call_entry F.slot_zip_next hT F.entry_zip_next (zipS_end S2 (I.ok.hd hc) D hz hTI hTO h1 h2 p2 hx he fun h' e hk he => ?_) (F.args_zip_next_1 _))))
    obtain ⟨o, ho, hc'⟩ := he
    refine wpAny_bind (wpAny_isInstance (T := "StopIteration") (b := true) ⟨o, ho, hc'⟩ isSubtype_stop ?_)
    refine wpAny_pure ⟨rfl, I.turnedL (t' := s.toks + 1) (ch := [z, TI, TO, i1, i2]) (fun c o hb q => hk c o (fun q' => hb (by simp [q'])) (fun q' => hb (by simp [q'])) (fun q' => hb (by simp [q'])) (fun q' => hb (by simp [q'])) q) hf⟩
  self := fun A i s Q E st h => wpAny_pyIter_zip st.1 h
/-! ### zip of a text and a tuple made -/
abbrev zST1 (h : Heap) (x : Str) (t : Tok) : Heap := h.push { cls := .type "str_ascii_iterator", data := .fields #[.str x t, .int 0 0] }
abbrev zST2 (h : Heap) (x : Str) (t : Tok) (l2 : Addr) : Heap := (zST1 h x t).push { cls := .type "tuple_iterator", data := .fields #[.ref l2, .int 0 0] }
abbrev zST3 (h : Heap) (x : Str) (t : Tok) (l2 : Addr) : Heap := (zST2 h x t l2).push { cls := .type "tuple", data := .seq #[.ref h.objs.size, .ref (zST1 h x t).objs.size] }
abbrev zST4 (h : Heap) (x : Str) (t : Tok) (l2 : Addr) : Heap := (zST3 h x t l2).push { cls := .type "tuple", data := .seq #[.none, .none] }
abbrev zST5 (h : Heap) (x : Str) (t : Tok) (l2 : Addr) : Heap := (zST4 h x t l2).push { cls := .type "zip", data := .fields #[.none, .bool false, .bool false, .ref (zST2 h x t l2).objs.size, .ref (zST3 h x t l2).objs.size] }
theorem new_zST (x : Str) (t : Tok) (l2 : Addr) (ys : Array Value) (hx : x.cps.all (· < 128) = true) : Meets (Builtin.«zip.__new__» ⟨[.type "zip", .str x t, .ref l2], []⟩) (fun _ R s => s.heap.IsTuple l2 ys ∧ R (.ok (.ret (.ref (zST4 s.heap x t l2).objs.size))) { s with heap := zST5 s.heap x t l2 }) :=
  .of_wp fun prog w A R s h => by
    obtain ⟨hp, g, d, tk, os⟩ := s
    obtain ⟨k2, h⟩ := h
    have hsub := sub_zip
    have e2 : Heap.IsTuple (Shared.heap ⟨hp.push { cls := .type "str_ascii_iterator", data := .fields #[.str x t, .int 0 0] }, g, d, tk, os⟩) l2 ys := Heap.IsTuple.push k2 _
    wp_walk using wpAny_pyIter_ascii hx, wpAny_pyIter_tuple e2
    exact ⟨_, rfl, h⟩
section
variable {P : Program} {w : World} {A : Around} {E : Value → Shared → Prop} {s : Shared}
theorem call_zST {x : Str} {t : Tok} {l2 : Addr} {ys : Array Value} {Q : Value → Shared → Prop} (hx : x.cps.all (· < 128) = true) (k2 : s.heap.IsTuple l2 ys)
    (h : ∀ h', IsZip h' (s.heap.objs.size + 4) (s.heap.objs.size + 2) (s.heap.objs.size + 3) .none → IsPair h' (s.heap.objs.size + 2) (.ref s.heap.objs.size) (.ref (s.heap.objs.size + 1)) → IsPair h' (s.heap.objs.size + 3) .none .none →
      h'.IsStrIter s.heap.objs.size "str_ascii_iterator" x t 0 → h'.IsTupleIter (s.heap.objs.size + 1) l2 0 → (∀ c o, s.heap.get? c = some o → h'.get? c = some o) → Q (.ref (s.heap.objs.size + 4)) { s with heap := h' }) :
    wpAny (model P w) A (call (.type "zip") [.str x t, .ref l2]) Q E s := by
  refine callType_new F.called_zip (by decide) (F.typeCall_zip_2 _ _) (F.newCall_zip_2 _ _) (fun obj => F.args_object_init_3 obj _ _) F.entry_zip_new (new_zST x t l2 ys hx) ⟨k2, ?_⟩
  have z1 : (zST1 s.heap x t).objs.size = s.heap.objs.size + 1 := Heap.size_push ..
  have z2 : (zST2 s.heap x t l2).objs.size = s.heap.objs.size + 2 := by rw [Heap.size_push, z1]
  have z3 : (zST3 s.heap x t l2).objs.size = s.heap.objs.size + 3 := by rw [Heap.size_push, z2]
  have z4 : (zST4 s.heap x t l2).objs.size = s.heap.objs.size + 4 := by rw [Heap.size_push, z3]
  have g5 : (zST5 s.heap x t l2).get? (zST4 s.heap x t l2).objs.size = some _ := Heap.get?_push_size _ rfl
  have g4 : (zST5 s.heap x t l2).get? (zST3 s.heap x t l2).objs.size = some _ := Heap.get?_push_of_some _ (Heap.get?_push_size _ rfl)
  have g3 : (zST5 s.heap x t l2).get? (zST2 s.heap x t l2).objs.size = some _ := Heap.get?_push_of_some _ (Heap.get?_push_of_some _ (Heap.get?_push_size _ rfl))
  have g2 : (zST5 s.heap x t l2).get? (zST1 s.heap x t).objs.size = some _ := Heap.get?_push_of_some _ (Heap.get?_push_of_some _ (Heap.get?_push_of_some _ (Heap.get?_push_size _ rfl)))
  have g1 : (zST5 s.heap x t l2).get? s.heap.objs.size = some _ := Heap.get?_push_of_some _ (Heap.get?_push_of_some _ (Heap.get?_push_of_some _ (Heap.get?_push_of_some _ (Heap.get?_push_size _ rfl))))
  show _ ∧ _
  rw [z2, z3, z4] at g5; rw [z1, z2] at g3; rw [z3] at g4; rw [z1] at g2; rw [z4]
  exact ⟨⟨_, g5, rfl⟩, h _ g5 g3 g4 ⟨_, g1, rfl, rfl⟩ ⟨_, g2, rfl, rfl⟩ fun c o x => Heap.get?_push_of_some _ (Heap.get?_push_of_some _ (Heap.get?_push_of_some _ (Heap.get?_push_of_some _ (Heap.get?_push_of_some _ x))))⟩
end
def iZipS (K : PySem.W.Frag) (ta : TA) : TI := fun σ H R => ta σ H fun vs H1 => ∃ x b ys, vs = [.str x, .ref b] ∧ x.cps.all (· < 128) = true ∧ SqT K H1 b ys ∧ R (ItzS x (fun H xs => SqT K H b xs)) H1
theorem p_zipS {X : Cx} {K : PySem.W.Frag} {e e2 : Expr} {ta : TA} {p pos tpos : Pos} {elts : List Expr} {kk : Nat} (hg : Gl X "zip") (hm : X.mg "zip" = none) (ha : PA X [e, e2] ta) (hK : X.K = K := by rfl)
    (hs : starEach [e, e2] X.env = (false, eval e X.env) :: starEach [e2] X.env := by rfl) (hpl : (backTo pos (starEach [e2] X.env)).any (·.1) = false := by rfl) : PI X (.Tuple elts kk tpos) (.Call (.Name "zip" p) [e, e2] [] pos) (iZipS K ta) := by
  subst hK
  refine ⟨fun pins s σ H R I h => ?_⟩
  refine Call_ (ld_blt I hg hm PyProof.Rows.boot_zip (PyProof.Rows.callWith_type1 (thn (ha.run pos pins s σ H _ I h) fun us s1 ⟨vs, H1, I1, r1, q1⟩ => ?_) hs hpl))
  obtain ⟨x, b, ys, rfl, hx, hqy, q⟩ := q1
  obtain ⟨t, rfl⟩ : ∃ t, us = [.str x t, .ref b] := by
    cases r1 with
    | cons r rr =>
      cases rr with
      | cons r' rr =>
        cases rr
        obtain ⟨t, rfl⟩ := r
        cases r'
        exact ⟨t, rfl⟩
  have fresh5 : ∀ c, c ∈ [s1.heap.objs.size + 4, s1.heap.objs.size + 2, s1.heap.objs.size + 3, s1.heap.objs.size, s1.heap.objs.size + 1] → FpOk X pins H1 c := fun c hcm => by
    have hle : s1.heap.objs.size ≤ c := by
      simp only [List.mem_cons, List.not_mem_nil, or_false] at hcm
      omega
    exact I1.fpOk hle (I1.hok.fresh hle)
  obtain ⟨its2, rv2, p2, lb⟩ := (side_tup (a := b)).get X pins σ H1 s1 ys rfl I1 hqy
  refine call_zST hx p2 fun h' hz hTI hTO h1 h2 hk => wpAny_pyIter_zip hz ?_
  have I2 : L2.Inv X pins σ H1 { s1 with heap := h' } := I1.kept (t' := s1.toks) hk
  exact ⟨s1.heap.objs.size + 4, [s1.heap.objs.size + 4, s1.heap.objs.size + 2, s1.heap.objs.size + 3, s1.heap.objs.size, s1.heap.objs.size + 1], _, _, H1, rfl, I2, turn_zipS src_tup side_tup (PySem.W.ktu_apart s1.heap.objs.size b b lb lb), ⟨hz, hTI, ⟨_, _, hTO⟩, h1, h2⟩, fresh5, q⟩
theorem walk_zipS {K : PySem.W.Frag} {x : Str} {b : Addr} {ys : List V} (hn : ys.length < x.cps.size) : Walk (ItzS x (fun H zs => SqT K H b zs)) ys.length (fun H => SqT K H b ys) (fun i H v H' => ∃ T ch y, v = .ref T ∧ H T = none ∧ H' = upd H T (.tup [.str ⟨#[ch]⟩, y]) ∧ x.cps[i]? = some ch ∧ ys[i]? = some y) := by
  refine ⟨fun i _ hi q => ?_, fun _ q => ?_, fun i H v H' _ q y => ?_⟩
  · have k1 : i < x.cps.size := by omega
    exact ⟨ys, ys[i], x.cps[i], by simp [k1], q, by simp [hi]⟩
  · exact ⟨ys, x.cps[ys.length], q, by simp [hn], Nat.le_refl _⟩
  · obtain ⟨T, ch, y, k1, k2, k3, k4, k5⟩ := y
    exact ⟨T, ch, y, k1, k2, k3, k4, k5 ys q⟩
end Bw
set_option Elab.async false
set_option linter.all false
set_option maxRecDepth 100000
set_option maxHeartbeats 4000000
namespace Bw
open PySem PySem.Spec PyProof.Rows L2
section
variable {X : Cx}
theorem pe_gstr {x : Str} {pos : Pos} {y : Str} (hg : Gl X x) (hm : ∃ t, X.mg x = some (.str y t)) (hdb : (x == ("__debug__" : Str)) = false := by decide) : PE X (.Name x pos) (tC (.str y)) := by
  obtain ⟨t, hm⟩ := hm
  exact pe_glob hg hm ⟨t, rfl⟩ (hd := hdb)
def rJoin (K : PySem.W.Frag) : V → List V → Hp → VK → Prop := fun x xs H Q => ∃ a p, ∃ ys : List Str, x = .str a ∧ xs = [.ref p] ∧ (SqL K H p (ys.map V.str) ∨ SqT K H p (ys.map V.str)) ∧ (ys.map (·.length)).sum + ys.length * a.length ≤ 16777216 ∧ Q (.str (Txt.join a ys)) H
theorem p_join {K : PySem.W.Frag} {o e : Expr} {to te : TE} {apos pos : Pos} (ho : PE X o to) (he : PE X e te) (hK : X.K = K := by rfl) (hs : starEach [e] X.env = [(false, eval e X.env)] := by rfl) (hbase : attributeBase o "join" X.env (eval o X.env) = eval o X.env := by rfl) (hline : (apos.endLine == pos.line) = true := by rfl) :
    PE X (.Call (.Attribute o "join" apos) [e] [] pos) (tM1 (rJoin K) to te) := by
  subst hK
  exact pe_join ho he hs hbase hline
end
theorem join_len : ∀ ys : List Str, (Txt.join ("" : Str) ys).length ≤ (ys.map (·.length)).sum := by
  intro ys
  rw [show Txt.join ("" : Str) ys = Str.join ("" : Str) ys from StrLaws.glued_eq_join _ _]
  have h0 : (("" : Str)).length = 0 := by decide
  have : ∀ ys : List Str, (Str.join ("" : Str) ys).length ≤ (ys.map (·.length)).sum := by
    intro ys
    induction ys with
    | nil => exact Nat.zero_le _
    | cons a r ih =>
      cases r with
      | nil =>
        show a.length ≤ a.length + 0
        omega
      | cons b r =>
        show (a ++ ("" : Str) ++ Str.join ("" : Str) (b :: r)).length ≤ _
        rw [Str.length_append, Str.length_append, h0, List.map_cons, List.sum_cons]
        omega
  exact this ys
theorem sum_le {ys : List Str} {m : Nat} (h : ∀ y ∈ ys, y.length ≤ m) : (ys.map (·.length)).sum ≤ ys.length * m := by
  induction ys with
  | nil => exact Nat.zero_le _
  | cons a r ih =>
    rw [List.map_cons, List.sum_cons, List.length_cons, Nat.succ_mul]
    have := ih fun y hy => h y (List.mem_cons_of_mem _ hy)
    have := h a (List.mem_cons_self ..)
    omega
theorem joinok {sep : Str} {ys : List Str} (h : (ys.map (·.length)).sum + ys.length * sep.length ≤ 16777216) : JoinOk sep ys = true := by
  unfold JoinOk
  rw [StrLaws.joinTotal]
  unfold Builtin.Str.tooLong
  rw [decide_eq_false (by rw [sizeLine_eq]; omega)]
  rfl
theorem log_lt {n k : Nat} (hk : 0 < k) (h : n < 2 ^ k) : n.log2 < k := by
  by_cases z : n = 0
  · subst z
    exact hk
  · exact (Nat.log2_lt z).mpr h
end Bw
set_option Elab.async false
set_option linter.all false
set_option maxRecDepth 100000
set_option maxHeartbeats 4000000
namespace Bw
open PySem PySem.Spec PyProof.Rows L2
/-! ### rows written -/
def numT (z : Int) : Str := Str.ofString (toString z)
def rowT (r : List Int) : Str := Txt.join "," (r.map numT)
def rowsT (rows : List (List Int)) : Str := Txt.join ";" (rows.map rowT)
theorem numT_len {z : Int} (h : z.natAbs < 2 ^ 20) : (numT z).length ≤ 21 := by
  unfold numT
  rw [PySem.ofString_length]
  exact int_text_length_le (by decide) (log_lt (by decide) h)
theorem joinS_len (sep : Str) : ∀ ys : List Str, (Txt.join sep ys).length ≤ (ys.map (·.length)).sum + ys.length * sep.length := by
  intro ys
  rw [show Txt.join sep ys = Str.join sep ys from StrLaws.glued_eq_join _ _]
  have : ∀ ys : List Str, (Str.join sep ys).length ≤ (ys.map (·.length)).sum + ys.length * sep.length := by
    intro ys
    induction ys with
    | nil => exact Nat.zero_le _
    | cons a r ih =>
      cases r with
      | nil =>
        show a.length ≤ a.length + 0 + 1 * sep.length
        omega
      | cons b r =>
        show (a ++ sep ++ Str.join sep (b :: r)).length ≤ _
        rw [Str.length_append, Str.length_append, List.map_cons, List.sum_cons, List.length_cons, Nat.succ_mul]
        omega
  exact this ys
theorem rowT_len {r : List Int} (h : ∀ z ∈ r, z.natAbs < 2 ^ 20) (l : r.length ≤ 100) : (rowT r).length ≤ 2200 := by
  unfold rowT
  have h1 := joinS_len "," (r.map numT)
  have h2 : ((r.map numT).map (·.length)).sum ≤ (r.map numT).length * 21 := sum_le fun y hy => by
    obtain ⟨z, hz, rfl⟩ := List.mem_map.mp hy
    exact numT_len (h z hz)
  have h3 : (("," : Str)).length = 1 := by decide
  rw [List.length_map] at h1 h2
  rw [h3] at h1
  omega
section
variable {P : Program} {w : World} {K : PySem.W.Frag} {mg : Str → Option Value} {base : Heap}
abbrev s_row_text : Stmt := topS 16
abbrev n_row_text : List Str := ["numbers", "number"]
theorem sc_row_text : FnScope n_row_text ["numbers"] (defScope s_row_text) := ⟨rfl, rfl, rfl, by decide +kernel, rfl, by decide +kernel, by decide +kernel⟩
def spRowText : Sp := fun vs H Q _ => ∃ (a : Addr) (r : List Int), vs = [.ref a] ∧ H a = some (.tup (r.map V.int)) ∧ r.length ≤ 100 ∧ (∀ z ∈ r, z.natAbs < 2 ^ 20) ∧ ∀ H', Same H H' → Q (.str (rowT r)) H'
theorem ok_rowtext {f : Addr} {fd : FuncData} (F : Fun K "row_text" "row_text" s_row_text f fd) (T : Tx mg) : FnOk P w K mg base CX0 1 f fd ["numbers"] spRowText := by
  refine F.ok sc_row_text (fun vs H Q E h => ?_) (fun cdv A outer s H vs Q E hr h => ?_)
  · obtain ⟨a, r, rfl, _⟩ := h
    rfl
  · obtain ⟨a, r, rfl, ha, lr, hz, q⟩ := h
    refine ⟨_, (pss_one (ps_ret (p_join (K := K) pe_str (pe_lc (own := [("number", 1)]) (by rfl) sc_row_text.nd (p_tup (K := K) (pv 0)) (blkOk_by (own := [("number", 1)]) (N := n_row_text) (sc := defScope s_row_text) (by decide +kernel)) (fun _ _ _ _ _ => (pg_name (i := 1) sc_row_text.nd rfl (.inl rfl))) (fun _ _ _ _ _ => pts_nil) (fun _ _ _ _ _ => (pe_callTy call_str_int (by rfl) T.str (by decide +kernel) (pa_cons (pv 1) pa_nil))))))), ?_⟩
    refine ⟨⟨_, rfl⟩, .ref a, rfl, a, rfl, ⟨_, SqT.of ha⟩, fun D eD => ?_⟩
    refine lc_tup (K := K) (a := a) (xs := r.map V.int) (fun j H' => H' D = some (.lst (((r.take j).map numT).map V.str)) ∧ Same H H') ⟨upd_same, same_upd eD⟩ (fun j H' _ ⟨_, s⟩ => SqT.of (s _ _ ha)) ?_ ?_
    · rintro j v H1 hv ⟨e1, s1⟩
      obtain ⟨z, ez, rfl⟩ := int_at hv
      have hj := (List.getElem?_eq_some_iff.mp ez).1
      refine ⟨rfl, .int z, rfl, z, rfl, Nat.lt_trans (log_lt (by decide) (hz z (List.mem_of_getElem? ez))) (by decide), _, e1, by rw [List.length_map, List.length_map, List.length_take]; exact small1000 (by omega), ?_, Same.updN s1 eD⟩
      rw [upd_same, List.take_succ, ez, List.map_append, List.map_append]
      rfl
    · rintro H1 ⟨e1, s1⟩
      rw [List.length_map, List.take_length] at e1
      refine ⟨_, D, r.map numT, rfl, rfl, .inl (SqL.of e1), ?_, q H1 s1⟩
      have h2 : ((r.map numT).map (·.length)).sum ≤ (r.map numT).length * 21 := sum_le fun y hy => by
        obtain ⟨z, h, rfl⟩ := List.mem_map.mp hy
        exact numT_len (hz z h)
      have h3 : (("," : Str)).length = 1 := by decide
      rw [List.length_map] at h2
      rw [h3, List.length_map]
      omega
abbrev s_rows_text : Stmt := topS 17
abbrev n_rows_text : List Str := ["rows", "row"]
theorem sc_rows_text : FnScope n_rows_text ["rows"] (defScope s_rows_text) := ⟨rfl, rfl, rfl, by decide +kernel, rfl, by decide +kernel, by decide +kernel⟩
def WrT (rows : List (List Int)) : Prop := rows.length ≤ 200 ∧ ∀ r ∈ rows, r.length ≤ 100 ∧ ∀ z ∈ r, z.natAbs < 2 ^ 20
theorem rows_fit {rows : List (List Int)} (h : WrT rows) : ((rows.map rowT).map (·.length)).sum + (rows.map rowT).length * ((";" : Str)).length ≤ 16777216 := by
  have h2 : ((rows.map rowT).map (·.length)).sum ≤ (rows.map rowT).length * 2200 := sum_le fun y hy => by
    obtain ⟨r, hr, rfl⟩ := List.mem_map.mp hy
    exact rowT_len (h.2 r hr).2 (h.2 r hr).1
  have h3 : ((";" : Str)).length = 1 := by decide
  have h4 := h.1
  rw [List.length_map] at h2
  rw [h3, List.length_map]
  omega
def spRowsText : Sp := fun vs H Q _ => ∃ (a : Addr) (rows : List (List Int)), vs = [.ref a] ∧ TabAt H a rows ∧ WrT rows ∧ ∀ H', Same H H' → Q (.str (rowsT rows)) H'
theorem ok_rowstext {f : Addr} {fd : FuncData} (F : Fun K "rows_text" "rows_text" s_rows_text f fd) (T : Tx mg) (c_row_text : Cal P w K mg base CX0 1 "row_text" ["numbers"] spRowText) : FnOk P w K mg base CX0 2 f fd ["rows"] spRowsText := by
  refine F.ok sc_rows_text (fun vs H Q E h => ?_) (fun cdv A outer s H vs Q E hr h => ?_)
  · obtain ⟨a, rows, rfl, _⟩ := h
    rfl
  · obtain ⟨a, rows, rfl, hT, hw, q⟩ := h
    obtain ⟨ts, ha, hts⟩ := id hT
    refine ⟨_, (pss_one (ps_ret (p_join (K := K) pe_str (pe_lc (own := [("row", 1)]) (by rfl) sc_rows_text.nd (p_tup (K := K) (pv 0)) (blkOk_by (own := [("row", 1)]) (N := n_rows_text) (sc := defScope s_rows_text) (by decide +kernel)) (fun _ _ _ _ _ => (pg_name (i := 1) sc_rows_text.nd rfl (.inl rfl))) (fun _ _ _ _ _ => pts_nil) (fun _ _ _ _ _ => (pe_cal c_row_text hr (by rfl) (pa_cons (pv 1) pa_nil))))))), ?_⟩
    obtain ⟨lts, hts⟩ := hts
    refine ⟨⟨_, rfl⟩, .ref a, rfl, a, rfl, ⟨_, SqT.of ha⟩, fun D eD => ?_⟩
    refine lc_tup (K := K) (a := a) (xs := ts.map V.ref) (fun j H' => H' D = some (.lst (((rows.take j).map rowT).map V.str)) ∧ Same H H') ⟨upd_same, same_upd eD⟩ (fun j H' _ ⟨_, s⟩ => SqT.of (s _ _ ha)) ?_ ?_
    · rintro j v H1 hv ⟨e1, s1⟩
      obtain ⟨t, et, rfl⟩ := ref_at hv
      have hj : j < rows.length := by
        have := (List.getElem?_eq_some_iff.mp et).1
        omega
      obtain ⟨b, eb, hb⟩ := hts j _ (List.getElem?_eq_getElem hj)
      cases (Option.some.inj (et.symm.trans eb))
      have hr' := hw.2 rows[j] (List.getElem_mem hj)
      have hl := hw.1
      refine ⟨rfl, .ref t, rfl, t, _, rfl, s1 _ _ hb, hr'.1, hr'.2, fun H2 s2 => ⟨_, s2 _ _ e1, by rw [List.length_map, List.length_map, List.length_take]; exact small1000 (by omega), ?_, Same.updN (s1.trans s2) eD⟩⟩
      rw [upd_same, List.take_succ, List.getElem?_eq_getElem hj, List.map_append, List.map_append]
      rfl
    · rintro H1 ⟨e1, s1⟩
      rw [List.length_map, lts, List.take_length] at e1
      exact ⟨_, D, rows.map rowT, rfl, rfl, .inl (SqL.of e1), rows_fit hw, q H1 s1⟩
abbrev s_law_rows_text : Stmt := topS 89
abbrev n_law_rows_text : List Str := ["_law_rows", "_law_row", "_law_one"]
theorem sc_law_rows_text : FnScope n_law_rows_text ["_law_rows"] (defScope s_law_rows_text) := ⟨rfl, rfl, rfl, by decide +kernel, rfl, by decide +kernel, by decide +kernel⟩
theorem ok_lrowstext {f : Addr} {fd : FuncData} (F : Fun K "_law_rows_text" "_law_rows_text" s_law_rows_text f fd) (T : Tx mg) : FnOk P w K mg base CX0 1 f fd ["_law_rows"] spRowsText := by
  refine F.ok sc_law_rows_text (fun vs H Q E h => ?_) (fun cdv A outer s H vs Q E hr h => ?_)
  · obtain ⟨a, rows, rfl, _⟩ := h
    rfl
  · obtain ⟨a, rows, rfl, hT, hw, q⟩ := h
    obtain ⟨ts, ha, lts, hts⟩ := id hT
    refine ⟨_, (pss_one (ps_ret (p_join (K := K) pe_str (pe_lc (own := [("_law_row", 1)]) (by rfl) sc_law_rows_text.nd (p_tup (K := K) (pv 0)) (blkOk_by (own := [("_law_row", 1)]) (N := n_law_rows_text) (sc := defScope s_law_rows_text) (by decide +kernel)) (fun _ _ _ _ _ => (pg_name (i := 1) sc_law_rows_text.nd rfl (.inl rfl))) (fun _ _ _ _ _ => pts_nil) (fun _ _ _ _ _ => (p_join (K := K) pe_str (pe_lc (own := [("_law_one", 2)]) (by rfl) sc_law_rows_text.nd (p_tup (K := K) (pv 1)) (blkOk_by (own := [("_law_one", 2)]) (N := n_law_rows_text) (sc := { kind := .function, names := [(".0", .local), ("_law_row", .local)], isGenerator := false, isCoroutine := false }) (by decide +kernel)) (fun _ _ _ _ _ => (pg_name (i := 2) sc_law_rows_text.nd rfl (.inl rfl))) (fun _ _ _ _ _ => pts_nil) (fun _ _ _ _ _ => (pe_callTy call_str_int (by rfl) T.str (by decide +kernel) (pa_cons (pv 2) pa_nil)))))))))), ?_⟩
    refine ⟨⟨_, rfl⟩, .ref a, rfl, a, rfl, ⟨_, SqT.of ha⟩, fun D eD => ?_⟩
    refine lc_tup (K := K) (a := a) (xs := ts.map V.ref) (fun j H' => H' D = some (.lst (((rows.take j).map rowT).map V.str)) ∧ Same H H') ⟨upd_same, same_upd eD⟩ (fun j H' _ ⟨_, s⟩ => SqT.of (s _ _ ha)) ?_ ?_
    · rintro j v H1 hv ⟨e1, s1⟩
      obtain ⟨t, et, rfl⟩ := ref_at hv
      have hj : j < rows.length := by
        have := (List.getElem?_eq_some_iff.mp et).1
        omega
      obtain ⟨b, eb, hb⟩ := hts j _ (List.getElem?_eq_getElem hj)
      cases (Option.some.inj (et.symm.trans eb))
      obtain ⟨lr, hz⟩ := hw.2 rows[j] (List.getElem_mem hj)
      have hl := hw.1
      have hb := s1 _ _ hb
      refine ⟨rfl, ⟨_, rfl⟩, .ref t, rfl, t, rfl, ⟨_, SqT.of hb⟩, fun D2 eD2 => ?_⟩
      refine lc_tup (K := K) (a := t) (xs := rows[j].map V.int) (fun i H' => H' D2 = some (.lst (((rows[j].take i).map numT).map V.str)) ∧ Same H1 H') ⟨upd_same, same_upd eD2⟩ (fun i H' _ ⟨_, s⟩ => SqT.of (s _ _ hb)) ?_ ?_
      · rintro i v H2 hv ⟨e2, s2⟩
        obtain ⟨z, ez, rfl⟩ := int_at hv
        have hi := (List.getElem?_eq_some_iff.mp ez).1
        refine ⟨rfl, .int z, rfl, z, rfl, Nat.lt_trans (log_lt (by decide) (hz z (List.mem_of_getElem? ez))) (by decide), _, e2, by rw [List.length_map, List.length_map, List.length_take]; exact small1000 (by omega), ?_, Same.updN s2 eD2⟩
        rw [upd_same, List.take_succ, ez, List.map_append, List.map_append]
        rfl
      · rintro H2 ⟨e2, s2⟩
        rw [List.length_map, List.take_length] at e2
        refine ⟨_, D2, rows[j].map numT, rfl, rfl, .inl (SqL.of e2), ?_, _, s2 _ _ e1, by rw [List.length_map, List.length_map, List.length_take]; exact small1000 (by omega), ?_, Same.updN (s1.trans s2) eD⟩
        · have h2 : ((rows[j].map numT).map (·.length)).sum ≤ (rows[j].map numT).length * 21 := sum_le fun y hy => by
            obtain ⟨z, h, rfl⟩ := List.mem_map.mp hy
            exact numT_len (hz z h)
          have h3 : (("," : Str)).length = 1 := by decide
          rw [List.length_map] at h2
          rw [h3, List.length_map]
          omega
        · rw [upd_same, List.take_succ, List.getElem?_eq_getElem hj, List.map_append, List.map_append]
          rfl
    · rintro H1 ⟨e1, s1⟩
      rw [List.length_map, lts, List.take_length] at e1
      exact ⟨_, D, rows.map rowT, rfl, rfl, .inl (SqL.of e1), rows_fit hw, q H1 s1⟩
end
end Bw
set_option Elab.async false
set_option linter.all false
set_option maxRecDepth 100000
set_option maxHeartbeats 4000000
namespace Bw
open PySem PySem.Spec PyProof.Rows L2
/-! ### rows of numbers and products as data -/
theorem ints_lay : ∀ p : List Int, PyData.canLayAll0 (p.map PyData.int) = true
  | [] => by simp [PyData.canLayAll0]
  | a :: p => by
    have ih := ints_lay p
    simp only [List.map_cons, PyData.canLayAll0, PyData.canLay0, ih, Bool.and_self]
theorem ints_depth : ∀ p : List Int, PyData.depthAll (p.map PyData.int) ≤ 1
  | [] => by simp [PyData.depthAll]
  | a :: p => by
    have ih := ints_depth p
    simp only [List.map_cons, PyData.depthAll, PyData.depth]
    omega
theorem ints_eqv : ∀ p q : List Int, PyData.eqvAll (p.map PyData.int) (q.map PyData.int) = decide (p = q)
  | [], [] => by simp [PyData.eqvAll]
  | [], b :: q => by simp [PyData.eqvAll]
  | a :: p, [] => by simp [PyData.eqvAll]
  | a :: p, b :: q => by
    have ih := ints_eqv p q
    simp only [List.map_cons, PyData.eqvAll, PyData.eqv, ih]
    by_cases e : a = b
    · subst e
      by_cases z : p = q
      · subst z
        simp
      · simp [z]
    · simp [e]
def rowD (p : List Int) : PyData := .tuple (p.map .int)
theorem rowD_lay (p : List Int) : (rowD p).canLay0 = true := by
  simp only [rowD, PyData.canLay0]
  exact ints_lay p
theorem rowD_depth (p : List Int) : (rowD p).depth ≤ 2 := by
  have := ints_depth p
  simp only [rowD, PyData.depth]
  omega
theorem rowD_eqv (p q : List Int) : PyData.eqv (rowD p) (rowD q) = decide (p = q) := by
  simp only [rowD, PyData.eqv]
  exact ints_eqv p q
theorem all_lay {α : Type} {d : α → PyData} (h : ∀ a, (d a).canLay0 = true) : ∀ r : List α, PyData.canLayAll0 (r.map d) = true
  | [] => by simp [PyData.canLayAll0]
  | a :: r => by
    have ih := all_lay h r
    simp only [List.map_cons, PyData.canLayAll0, h a, ih, Bool.and_self]
theorem all_depth {α : Type} {d : α → PyData} {n : Nat} (h : ∀ a, (d a).depth ≤ n) : ∀ r : List α, PyData.depthAll (r.map d) ≤ n
  | [] => by simp [PyData.depthAll]
  | a :: r => by
    have ih := all_depth h r
    have := h a
    simp only [List.map_cons, PyData.depthAll]
    omega
theorem all_eqv {α : Type} [DecidableEq α] {d : α → PyData} (h : ∀ a b, PyData.eqv (d a) (d b) = decide (a = b)) : ∀ r r' : List α, PyData.eqvAll (r.map d) (r'.map d) = decide (r = r')
  | [], [] => by simp [PyData.eqvAll]
  | [], b :: q => by simp [PyData.eqvAll]
  | a :: p, [] => by simp [PyData.eqvAll]
  | a :: p, b :: q => by
    have ih := all_eqv h p q
    simp only [List.map_cons, PyData.eqvAll, h a b, ih]
    by_cases e : a = b
    · subst e
      by_cases z : p = q
      · subst z
        simp
      · simp [z]
    · simp [e]
def tmD (a : Tm) : PyData := .tuple [rowD a.1, .int a.2]
theorem tmD_lay (a : Tm) : (tmD a).canLay0 = true := by
  have := rowD_lay a.1
  simp only [tmD, PyData.canLay0, PyData.canLayAll0, this, Bool.and_self]
theorem tmD_depth (a : Tm) : (tmD a).depth ≤ 3 := by
  have := rowD_depth a.1
  simp only [tmD, PyData.depth, PyData.depthAll]
  omega
theorem tmD_eqv (a b : Tm) : PyData.eqv (tmD a) (tmD b) = decide (a = b) := by
  obtain ⟨p, c⟩ := a
  obtain ⟨q, d⟩ := b
  have := rowD_eqv p q
  simp only [tmD, PyData.eqv, PyData.eqvAll, this]
  by_cases e : p = q
  · subst e
    by_cases z : c = d
    · subst z
      simp
    · simp [z]
  · simp [e]
theorem shaped_tup {ds : List PyData} (h1 : PyData.canLayAll0 ds = true) (h2 : PyData.depthAll ds ≤ 50) : SeqAt.shaped (.tuple ds) = true := by
  have h3 : PyData.depth (.tuple ds) ≤ 64 := by
    simp only [PyData.depth]
    omega
  show (PyData.canLay0 (.tuple ds) && decide (PyData.depth (.tuple ds) ≤ 64)) = true
  rw [Bool.and_eq_true]
  exact ⟨by simp only [PyData.canLay0]; exact h1, decide_eq_true h3⟩
theorem shaped_lst {ds : List PyData} (h1 : PyData.canLayAll0 ds = true) (h2 : PyData.depthAll ds ≤ 50) : SeqAt.shaped (.list ds) = true := by
  have h3 : PyData.depth (.list ds) ≤ 64 := by
    simp only [PyData.depth]
    omega
  show (PyData.canLay0 (.list ds) && decide (PyData.depth (.list ds) ≤ 64)) = true
  rw [Bool.and_eq_true]
  exact ⟨by simp only [PyData.canLay0]; exact h1, decide_eq_true h3⟩
theorem dp_ints {K : PySem.W.Frag} {H : Hp} : ∀ p : List Int, DpAll K H (p.map V.int) (p.map PyData.int)
  | [] => .nil
  | a :: p => .cons (.int a) (dp_ints p)
theorem o_eqD {X : Cx} {K : PySem.W.Frag} (hu : X.A.units + 64 < cLine) (hK : X.K = K := by rfl) : OpR X (compareOp .Eq) (rEqD K) := by
  subst hK
  exact op_eqD hu
theorem o_neD {X : Cx} {K : PySem.W.Frag} (hu : X.A.units + 64 < cLine) (hK : X.K = K := by rfl) : OpR X (compareOp .NotEq) (rNeD K) := by
  subst hK
  exact op_neD hu
end Bw
set_option Elab.async false
set_option linter.all false
set_option maxRecDepth 100000
set_option maxHeartbeats 4000000
namespace Bw
open PySem PySem.Spec PyProof.Rows L2
/-! ### tables as data -/
def tabD (c : List (List Int)) : PyData := .tuple (c.map rowD)
theorem tabD_eqv (a b : List (List Int)) : PyData.eqv (tabD a) (tabD b) = decide (a = b) := by
  simp only [tabD, PyData.eqv]
  exact all_eqv rowD_eqv a b
theorem shaped_tab (c : List (List Int)) : SeqAt.shaped (tabD c) = true := shaped_tup (all_lay rowD_lay c) (Nat.le_trans (all_depth rowD_depth c) (by decide))
theorem ints_dp {K : PySem.W.Frag} {H : Hp} : ∀ l : List Int, DpAll K H (l.map V.int) (l.map PyData.int)
  | [] => .nil
  | x :: l => .cons (.int _) (ints_dp l)
theorem refs_dp {K : PySem.W.Frag} {H : Hp} : ∀ {as : List Addr} {rows : List (List Int)}, RefsAt H as rows → DpAll K H (as.map V.ref) (rows.map rowD)
  | [], [], _ => .nil
  | [], _ :: _, h => by cases h.1
  | _ :: _, [], h => by cases h.1
  | a :: as, r :: rows, h => by
    obtain ⟨b, e1, e2⟩ := h.2 0 r rfl
    cases (Option.some.inj e1)
    refine .cons (.tup (SqT.of e2) (ints_dp r)) (refs_dp ⟨Nat.succ.inj h.1, fun i r' e => h.2 (i + 1) r' e⟩)
theorem TabAt.dp {K : PySem.W.Frag} {H : Hp} {a : Addr} {rows : List (List Int)} (h : TabAt H a rows) : Dp K H (.ref a) (tabD rows) := by
  obtain ⟨as, e, hR⟩ := h.refs
  exact .tup (SqT.of e) (refs_dp hR)
theorem shaped_row (p : List Int) : SeqAt.shaped (rowD p) = true := shaped_tup (ints_lay p) (Nat.le_trans (ints_depth p) (by decide))
theorem terms_dp {K : PySem.W.Frag} {H : Hp} : ∀ {us : List Addr} {r : List Tm}, TermsAt H us r → DpAll K H (us.map V.ref) (r.map tmD)
  | [], [], _ => .nil
  | [], _ :: _, h => by cases h.1
  | _ :: _, [], h => by cases h.1
  | t :: us, a :: r, h => by
    obtain ⟨t', e1, q, h1, h2⟩ := h.2 0 a rfl
    cases (Option.some.inj e1)
    refine .cons (.tup (SqT.of h1) (.cons (.tup (SqT.of h2) (ints_dp a.1)) (.cons (.int _) .nil))) (terms_dp ⟨Nat.succ.inj h.1, fun i a' e => h.2 (i + 1) a' e⟩)
section
variable {P : Program} {w : World} {K : PySem.W.Frag} {mg : Str → Option Value} {base : Heap} {C CS CP fP CB : Addr} {cs : List Value}
/-! ### NoPlace, bud -/
abbrev s_place_init : Stmt := inClass (topS 10) 0
theorem sc_place_init : FnScope ["self", "place"] ["self", "place"] (defScope s_place_init) := ⟨rfl, rfl, rfl, by decide +kernel, rfl, by decide +kernel, by decide +kernel⟩
theorem ok_placeinit {f : Addr} {fd : FuncData} {k : Nat} (F : Fun K "__init__" "NoPlace.__init__" s_place_init f fd) (T : Tx mg) (v : PySem.W.findCls K (.type ixB) (.type "type") "__init__" = some (.val (.builtin ixI))) : FnOk P w K mg base CX0 (k + 1) f fd ["self", "place"] (spErrInitB1 K ixB ixN ixI ixL "no place" "place") := by
  refine F.ok sc_place_init (fun vs H Q E h => ?_) (fun cdv A outer s H vs Q E hr h => ?_)
  · obtain ⟨a, C, x, rfl, _⟩ := h
    rfl
  · obtain ⟨a, C, x, rfl, O, nw, np, ha, q⟩ := h
    refine ⟨_, pss_cons (ps_expr (pe_beinit (B := ixB) (nw := ixN) (ini := ixI) (tl := ixL) (by rfl) T.IndexError (by decide +kernel) (by kernel_rfl) (by decide +kernel) v (by decide +kernel) (pa_cons (pv 0) (pa_cons pe_str pa_nil)))) (pss_cons (ps_osB (B := ixB) (nw := ixN) (ini := ixI) (tl := ixL) (pv 0) pe_str) (pss_one (ps_osB (B := ixB) (nw := ixN) (ini := ixI) (tl := ixL) (pv 0) (pv 1)))), ?_⟩
    refine ⟨.ref a, rfl, a, C, [.str "no place"], rfl, by show 1 ≤ 1000; decide, O, ha, ?_⟩
    refine ⟨.ref a, rfl, a, C, rfl, O, nw, .inl ⟨ha, fun dx ed nd => ?_⟩⟩
    refine ⟨x, rfl, .ref a, rfl, a, C, rfl, O, np, .inr ⟨dx, [("word", .str "no place")], upd_same, ?_, by show 1 ≤ 900; decide, ?_⟩⟩
    · rw [upd_ne nd, upd_same]
    · refine q dx _ ed nd ?_ upd_same fun b n1 n2 => ?_
      · rw [upd_ne (Ne.symm nd), upd_same]
      · rw [upd_ne n2, upd_ne n1, upd_ne n2]
abbrev s_bud : Stmt := inClass (topS 76) 7
abbrev n_bud : List Str := ["self", "place"]
theorem sc_bud : FnScope n_bud ["self", "place"] (defScope s_bud) := ⟨rfl, rfl, rfl, by decide +kernel, rfl, by decide +kernel, by decide +kernel⟩
def spBud (C CS CP : Addr) : Sp := fun vs H Q E => ∃ (x : Addr) (W : Wb) (z : Int), vs = [.ref x, .int z] ∧ WebG C CS H x W ∧ (∀ (c : Addr) (r : List Tm), 0 ≤ z → W.sums[z.toNat]? = some r → SumAt CS H c W.rows.length r → Q (.ref c) H) ∧
  (¬ (0 ≤ z ∧ z < W.sums.length) → ∀ (d : Addr) (H' : Hp), Same H H' → H' d = some (.xd (fldFs "place" "no place" (.int z))) → E (.ref CP) (some d) H')
theorem ok_bud {f : Addr} {fd fdP : FuncData} (F : Fun K "bud" "Web.bud" s_bud f fd) (T : Tx mg) (WC : WebC K mg C) (TP : ErrB K mg "NoPlace" CP fP CB cs ixB ixN ixI ixL) (nP : PySem.W.findIn K (.ref CP) "place" = some none) (FP : FnOk P w K mg base CX0 1 fP fdP ["self", "place"] (spErrInitB1 K ixB ixN ixI ixL "no place" "place")) (bP : Binds K fdP ["self", "place"] [])
    (c_is_number : Cal P w K mg base CX0 1 "is_number" ["thing"] spIsNum) : FnOk P w K mg base (L2.CX P w) 3 f fd ["self", "place"] (spBud C CS CP) := by
  refine F.okX sc_bud (fun vs H Q E h => ?_) (fun cdv A outer s H vs Q E hr h => ?_)
  · obtain ⟨x, W, z, rfl, _⟩ := h
    rfl
  · obtain ⟨x, W, z, rfl, hW, q1, q2⟩ := h
    have hr1 := hr.mono (show 1 ≤ 2 by decide)
    refine ⟨_, (pss_cons (ps_if (PW.pt (pw_or (pt_not (pt_val (pe_cal c_is_number hr1 (by rfl) (pa_cons (pv 1) pa_nil)))) (pw_or1 (pt_not (pt_chain op_le op_lt pe_int (pv 1) (pe_callB (c_len (K := K)) (by rfl) T.len PySem.boot_len (pa_cons (pf (K := K) (pv 0)) pa_nil)))))))
    (pss_one (ps_raise rfl (takes_of rfl rfl rfl rfl) (pmkB TP.oex TP.iC TP.tI FP hr bP pass0 (by rfl) TP.g (pa_cons (pv 1) pa_nil))))
    pss_nil)
  (pss_one (ps_ret (pe_ix (i_tup (K := K)) (pf (K := K) (pv 0)) (pv 1) (fun _ _ => rfl))))), ?_⟩
    obtain ⟨dx, s0, t, m, k, a, u, v, ss, h1, h⟩ := hW
    have ls := h.sums.1
    refine ⟨.int z, rfl, z, rfl, true, rfl, iteF ?_⟩
    refine ⟨.int z, rfl, _, _, rfl, rfl, _, rfl, ite2 (fun g1 => ?_) (fun g1 => ?_)⟩
    · have g1 := of_decide_eq_true g1
      refine ⟨.ref x, rfl, x, C, dx, _, _, rfl, h1, WC.cls, WC.n2, rfl, t, _, rfl, .inr (SqT.of h.stand), _, _, rfl, rfl, _, rfl, ?_⟩
      rw [List.length_map, ls]
      refine ite2 (fun g2 => ?_) (fun g2 => ?_)
      · have hz : ¬ (0 ≤ z ∧ z < (W.sums.length : Int)) := fun y => by
          rw [decide_eq_true (show z < (W.sums.length : Int) from y.2)] at g2
          exact absurd g2 (by decide)
        exact ⟨.int z, rfl, mk_doneB1 TP nP fun d H2 s2 hd => q2 hz d H2 s2 hd⟩
      · have y : z < (W.sums.length : Int) := by
          by_cases y : z < (W.sums.length : Int)
          · exact y
          · rw [decide_eq_false y] at g2
            exact absurd rfl g2
        obtain ⟨j, rfl⟩ : ∃ j : Nat, z = (j : Int) := ⟨z.toNat, by omega⟩
        have hj : j < W.sums.length := by omega
        obtain ⟨c, e1, e2⟩ := h.sums.2 j _ (List.getElem?_eq_getElem hj)
        exact ⟨.ref x, rfl, x, C, dx, _, _, rfl, h1, WC.cls, WC.n2, rfl, .int j, rfl, t, _, j, .ref c, rfl, rfl, SqT.of h.stand, atI_nat (by rw [List.getElem?_map, e1]; rfl), q1 c _ g1 (by rw [Int.toNat_natCast]; exact List.getElem?_eq_getElem hj) e2⟩
    · have hz : ¬ (0 ≤ z ∧ z < (W.sums.length : Int)) := fun y => g1 (decide_eq_true y.1)
      exact ⟨false, rfl, ite2 (fun _ => ⟨.int z, rfl, mk_doneB1 TP nP fun d H2 s2 hd => q2 hz d H2 s2 hd⟩) (fun y => absurd rfl y)⟩
/-! ### buds -/
abbrev s_buds : Stmt := inClass (topS 76) 8
theorem sc_buds : FnScope ["self"] ["self"] (defScope s_buds) := ⟨rfl, rfl, rfl, by decide +kernel, rfl, by decide +kernel, by decide +kernel⟩
def spBudsM (C CS : Addr) : Sp := fun vs H Q _ => ∃ (x : Addr) (W : Wb) (n : Nat), vs = [.ref x] ∧ WebG C CS H x W ∧ 0 < W.rows.length ∧ (∀ r ∈ W.rows, r.length = n) ∧ n ≤ 1000 ∧ ∀ (L : Addr) (ss : List Addr) (H' : Hp), Same H H' → H L = none → H' L = some (.lst (ss.map V.ref)) → SumsAt CS H' ss W.rows.length (W.sums.take n) → Q (.ref L) H'
theorem ok_budsM {f fl : Addr} {fd fdl : FuncData} (F : Fun K "buds" "Web.buds" s_buds f fd) (T : Tx mg) (WC : WebC K mg C) (hs : PySem.W.findIn K (.ref C) "__len__" = some (some (.ref fl))) (hf : PySem.W.isFn K (.ref fl) = true) (Fl : FnOk P w K mg base CX0 1 fl fdl ["self"] (spWLen C CS)) (bl : Binds K fdl ["self"] []) : FnOk P w K mg base CX0 3 f fd ["self"] (spBudsM C CS) := by
  refine F.ok sc_buds (fun vs H Q E h => ?_) (fun cdv A outer s H vs Q E hr h => ?_)
  · obtain ⟨x, W, n, rfl, _⟩ := h
    rfl
  · obtain ⟨x, W, n, rfl, hW, l0, hw, n1000, q⟩ := h
    refine ⟨_, (pss_one (ps_ret (pe_callTy (c_lst (K := K)) (by rfl) T.list (by decide +kernel) (pa_cons (pe_slice l_tupR (pf (K := K) (pv 0)) po_none (po_some (pe_callB (c_lenOwn hs hf Fl hr bl pass0) (by rfl) T.len PySem.boot_len (pa_cons (pv 0) pa_nil)))) pa_nil)))), ?_⟩
    obtain ⟨dx, s0, t, m, k, a, u, v, ss, h1, h⟩ := id hW
    refine ⟨.ref x, rfl, x, C, dx, _, _, rfl, h1, WC.cls, WC.n2, rfl, .ref x, rfl, x, dx, _, rfl, h1, x, W, n, rfl, hW, l0, hw, n, rfl, Int.natCast_nonneg _, by omega, n, rfl, ?_⟩
    refine ⟨t, _, rfl, .inl h.stand, fun p H1 s1 h1' => ⟨p, _, rfl, .inr (.inl h1'), fun L eL => ?_⟩⟩
    have ec : cutV (ss.map V.ref) none (some (n : Int)) = (ss.take n).map V.ref := by rw [cut_take, List.map_take]
    rw [ec]
    refine q L (ss.take n) _ (s1.trans (same_upd eL)) (s1.free eL) upd_same ((h.sums.same (s1.trans (same_upd eL))).take n)
/-! ### texts -/
abbrev s_wstr : Stmt := inClass (topS 76) 20
theorem sc_wstr : FnScope ["self"] ["self"] (defScope s_wstr) := ⟨rfl, rfl, rfl, by decide +kernel, rfl, by decide +kernel, by decide +kernel⟩
def spWStr (C CS : Addr) : Sp := fun vs H Q _ => ∃ (x : Addr) (W : Wb), vs = [.ref x] ∧ WebG C CS H x W ∧ WrT W.rows ∧ ∀ H', Same H H' → Q (.str (rowsT W.rows)) H'
theorem ok_wstr {f : Addr} {fd : FuncData} (F : Fun K "__str__" "Web.__str__" s_wstr f fd) (T : Tx mg) (WC : WebC K mg C) (c_rows_text : Cal P w K mg base CX0 2 "rows_text" ["rows"] spRowsText) : FnOk P w K mg base CX0 3 f fd ["self"] (spWStr C CS) := by
  refine F.ok sc_wstr (fun vs H Q E h => ?_) (fun cdv A outer s H vs Q E hr h => ?_)
  · obtain ⟨x, W, rfl, _⟩ := h
    rfl
  · obtain ⟨x, W, rfl, hW, wr, q⟩ := h
    refine ⟨_, (pss_one (ps_ret (pe_callTy SkE.call_str_str (by rfl) T.str (by decide +kernel) (pa_cons (pe_cal c_rows_text hr (by rfl) (pa_cons (pe_ix (i_tup (K := K)) (pf (K := K) (pv 0)) pe_int (fun _ _ => rfl)) pa_nil)) pa_nil)))), ?_⟩
    obtain ⟨dx, s0, t, m, k, a, u, v, ss, h1, h⟩ := hW
    exact ⟨.ref x, rfl, x, C, dx, _, _, rfl, h1, WC.cls, WC.n1, rfl, s0, _, 0, .ref a, rfl, rfl, SqT.of h.seed, atI_nat (j := 0) rfl, a, W.rows, rfl, h.tab, wr, fun H' s' => ⟨_, rfl, q H' s'⟩⟩
abbrev s_wrepr : Stmt := inClass (topS 76) 21
theorem sc_wrepr : FnScope ["self"] ["self"] (defScope s_wrepr) := ⟨rfl, rfl, rfl, by decide +kernel, rfl, by decide +kernel, by decide +kernel⟩
def wreprT (n m : Nat) : Str := Str.empty ++ "Web(" ++ Str.ofString (toString (n : Int)) ++ " buds, " ++ Str.ofString (toString ((m : Int) - n)) ++ " roots)"
def spWRepr (C CS : Addr) : Sp := fun vs H Q _ => ∃ (x : Addr) (W : Wb) (n : Nat), vs = [.ref x] ∧ WebG C CS H x W ∧ 0 < W.rows.length ∧ (∀ r ∈ W.rows, r.length = n) ∧ n ≤ 1000 ∧ n ≤ W.sums.length ∧ W.sums.length ≤ 1000 ∧ Q (.str (wreprT n W.sums.length)) H
theorem tx1000 {n : Nat} (h : n ≤ 1000) : ((n : Int)).natAbs.log2 < 10 ∧ (Str.ofString (toString (n : Int))).length ≤ 11 := by
  have hlog : ((n : Int)).natAbs.log2 < 10 := log_lt (by decide) (by rw [Int.natAbs_natCast]; exact Nat.lt_of_le_of_lt h (by decide))
  refine ⟨hlog, ?_⟩
  rw [PySem.ofString_length]
  exact int_text_length_le (by decide) hlog
theorem ok_wrepr {f fl : Addr} {fd fdl : FuncData} (F : Fun K "__repr__" "Web.__repr__" s_wrepr f fd) (T : Tx mg) (WC : WebC K mg C) (hs : PySem.W.findIn K (.ref C) "__len__" = some (some (.ref fl))) (hf : PySem.W.isFn K (.ref fl) = true) (Fl : FnOk P w K mg base CX0 1 fl fdl ["self"] (spWLen C CS)) (bl : Binds K fdl ["self"] []) : FnOk P w K mg base CX0 3 f fd ["self"] (spWRepr C CS) := by
  refine F.ok sc_wrepr (fun vs H Q E h => ?_) (fun cdv A outer s H vs Q E hr h => ?_)
  · obtain ⟨x, W, n, rfl, _⟩ := h
    rfl
  · obtain ⟨x, W, n, rfl, hW, l0, hw, hn, hnm, hm, q⟩ := h
    refine ⟨_, (pss_one (ps_ret (pe_joined (.cons pe_str (.cons (pe_fmt (pe_callB (c_lenOwn hs hf Fl hr bl pass0) (by rfl) T.len PySem.boot_len (pa_cons (pv 0) pa_nil))) (.cons pe_str (.cons (pe_fmt (pe_op op_sub (pe_callB (c_len (K := K)) (by rfl) T.len PySem.boot_len (pa_cons (pf (K := K) (pv 0)) pa_nil)) (pe_callB (c_lenOwn hs hf Fl hr bl pass0) (by rfl) T.len PySem.boot_len (pa_cons (pv 0) pa_nil)))) (.cons pe_str .nil)))))))), ?_⟩
    obtain ⟨dx, s0, t, m, k, a, u, v, ss, h1, h⟩ := id hW
    have ls := h.sums.1
    obtain ⟨g1, t1⟩ := tx1000 hn
    have e2 : (W.sums.length : Int) - n = ((W.sums.length - n : Nat) : Int) := by omega
    obtain ⟨g2, t2⟩ := tx1000 (n := W.sums.length - n) (by omega)
    rw [← e2] at g2 t2
    have el : ∀ a b : Str, (a ++ b).length = a.length + b.length := fun a b => Str.length_append a b
    have l0' : (Str.empty).length = 0 := rfl
    have l2 : (("Web(" : Str)).length = 4 := by decide
    have l3 : ((" buds, " : Str)).length = 7 := by decide
    have l4 : ((" roots)" : Str)).length = 7 := by decide
    refine ⟨_, rfl, ?_, .ref x, rfl, x, dx, _, rfl, h1, x, W, n, rfl, hW, l0, hw, n, rfl, Int.natCast_nonneg _, by omega, .inr ⟨n, rfl, Nat.lt_trans g1 (by decide), _, rfl, ?_, _, rfl, ?_, .ref x, rfl, x, C, dx, _, _, rfl, h1, WC.cls, WC.n2, rfl, t, _, rfl, .inr (SqT.of h.stand), .ref x, rfl, x, dx, _, rfl, h1, x, W, n, rfl, hW, l0, hw, n, rfl, Int.natCast_nonneg _, by omega, _, _, rfl, rfl, ?_⟩⟩
    · rw [el, l0', l2]; decide
    · rw [el, el, l0', l2, sizeLine_eq]; omega
    · rw [el, el, el, l0', l2, l3, sizeLine_eq]; omega
    · rw [List.length_map, ls]
      refine .inr ⟨_, rfl, Nat.lt_trans g2 (by decide), _, rfl, ?_, _, rfl, ?_, q⟩
      · rw [el, el, el, el, l0', l2, l3, sizeLine_eq]; omega
      · rw [el, el, el, el, el, l0', l2, l3, l4, sizeLine_eq]; omega
end
end Bw
set_option Elab.async false
set_option linter.all false
set_option maxRecDepth 100000
set_option maxHeartbeats 4000000
/-! ### x != y, x an own instance, y a text or a tuple; the truth of an own instance by its len -/
namespace Bw
open PySem PySem.Spec PyProof.Rows L2
section
variable {prog : Program} {w : World} {A : Around} {E : Value → Shared → Prop} {s : Shared} {K : PySem.W.Frag} {x C f : Addr} {ox : Obj} {od : Option Obj} {b tb : Value}
theorem rich_neV {Q : Value → Shared → Prop} (hu : A.units + 1 < cLine) (X : K.In s.heap) (I : PySem.W.InstAt s.heap x ox C od) (hb : PySem.W.Looks (model prog w) s.heap (typeOf b) tb) (nf : PySem.W.notFirst K C tb = true) (hob : PySem.W.mroIn K C (.type "object") = some true)
    (hn : PySem.W.findIn K (.ref C) "__ne__" = some (some (.builtin "object.__ne__"))) (hs : PySem.W.findIn K (.ref C) "__eq__" = some (some (.ref f))) (hf : PySem.W.isFn K (.ref f) = true)
    (h : wpAny (model prog w) A.in1 (call (.ref f) [.ref x, b]) (fun v s' => ∃ c, v = .bool c ∧ Q (.bool !c) s') E s) : wpAny (model prog w) A (richCompare .NotEq (.ref x) b) Q E s := by
  have one : wpAny (model prog w) A (tryCompare (.ref x) (cmpInfo .NotEq).2.1 b) (fun r s' => ∃ c : Bool, r = some (.bool !c) ∧ Q (.bool !c) s') E s := by
    unfold tryCompare
    have two : wpAny (model prog w) A (call (.builtin "object.__ne__") [.ref x, b]) (fun v s' => ∃ c : Bool, v = .bool !c ∧ Q (.bool !c) s') E s := by
      refine call_ne hu X I hob hs hf (wpAny_mono h (fun v s' z => ?_) fun _ _ z => z)
      obtain ⟨c, e, q⟩ := z
      exact ⟨c, e, c, rfl, q⟩
    refine wpAny_bind (ifBound_ne X I hn (wpAny_mono two (fun v s' y => ?_) fun _ _ y => y))
    obtain ⟨c, rfl, q⟩ := y
    exact wpAny_pure ⟨c, rfl, q⟩
  unfold richCompare
  simp only [oneThing_ref]
  refine wpAny_holding (wpAny_bind (wpAny_cRoomFor (by omega) ?_))
  refine wpAny_bind (I.type.here (wpAny_bind (hb.here ?_)))
  split
  · rename_i q
    have e : PySem.W.subIn K tb (.ref C) = some false := by
      rcases Bool.or_eq_true_iff.mp nf with e | e
      · rw [beq_iff_eq.mp e] at q
        simp at q
      · exact beq_iff_eq.mp e
    refine wpAny_bind ((PySem.W.looks_subIn X e).here ?_)
    simp only [Bool.false_eq_true, if_false]
    refine wpAny_bind (wpAny_mono one (fun r s' z => ?_) fun _ _ e => e)
    obtain ⟨c, rfl, hq⟩ := z
    exact wpAny_pure hq
  · refine wpAny_bind (wpAny_pure ?_)
    simp only [Bool.false_eq_true, if_false]
    refine wpAny_bind (wpAny_mono one (fun r s' z => ?_) fun _ _ e => e)
    obtain ⟨c, rfl, hq⟩ := z
    exact wpAny_pure hq
end
section
variable {X : Cx} {CX : CXT} {C f : Addr} {fd : FuncData} {ps : List Str} {sp : Sp} {n : Nat} {E : XK}
theorem own_runA (F : FnOk X.prog X.w X.K X.mg X.base CX n f fd ps sp) {A : Around} (hr : Room n A) (hfr : A.frames = X.A.frames) (hb : Binds X.K fd ps []) (hx : Passes CX X E) {pins : List (Addr × Obj)} {s : Shared} {σ : L2.St} {H : Hp} {a : Addr} {y : V} {u : Value} {Q : Bool → Hp → Prop} (I : L2.Inv X pins σ H s) (ry : L2.RelV y u)
    (q : sp [.ref a, y] H (fun z H' => ∃ c : Bool, z = .bl c ∧ Q c H') E) : wpAny (model X.prog X.w) A (call (.ref f) [.ref a, u]) (fun v s' => ∃ (c : Bool) (H' : Hp), v = .bool c ∧ L2.Inv X pins σ H' s' ∧ Q c H') X.xe s := by
  have hl := F.len _ _ _ _ q
  have e0 : Env0 X.prog X.w X.K X.mg X.base A X.stack s H := by
    have e := I.env0
    exact ⟨by rw [hfr]; exact e.frames, e.mod, e.bs, e.bsz, e.funs, e.frf, e.hok, e.bare⟩
  refine wpAny_call (codeAny_mono (F.run A X.stack s H ⟨[.ref a, u], []⟩ [.ref a, u] [.ref a, y] _ E hr e0 (by
    have z := hb s [.ref a, u] I.kIn (by simpa using hl)
    simpa using z) (.cons rfl (.cons ry .nil)) q) fun r s' hq => ?_)
  cases r with
  | error e => exact hx pins σ H s e s' I hq
  | ok fl =>
    cases fl with
    | ret w =>
      obtain ⟨z, H', I', rz, c, ec, qc⟩ := I.after hq
      subst ec
      obtain rfl : w = Value.bool c := rz
      exact ⟨c, H', rfl, I', qc⟩
    | next => exact False.elim hq
    | brk => exact False.elim hq
    | cont => exact False.elim hq
def rNeOwnV (C : Addr) (sp : Sp) (E : XK) : R2 := fun x y H Q => ∃ a dx fs, x = .ref a ∧ H a = some (.ins C dx fs) ∧ ((∃ y', y = .str y') ∨ ∃ b ys, y = .ref b ∧ H b = some (.tup ys)) ∧ sp [.ref a, y] H (fun z H' => ∃ c : Bool, z = .bl c ∧ Q (.bl !c) H') E
theorem o_neOwnV (hnS : PySem.W.notFirst X.K C (.type "str") = true) (hnT : PySem.W.notFirst X.K C (.type "tuple") = true) (hob : PySem.W.mroIn X.K C (.type "object") = some true) (hn : PySem.W.findIn X.K (.ref C) "__ne__" = some (some (.builtin "object.__ne__"))) (hs : PySem.W.findIn X.K (.ref C) "__eq__" = some (some (.ref f))) (hf : PySem.W.isFn X.K (.ref f) = true)
    (F : FnOk X.prog X.w X.K X.mg X.base CX n f fd ps sp) (hr : Room (n + 1) X.A) (hb : Binds X.K fd ps []) (hx : Passes CX X E) : OpR X (compareOp .NotEq) (rNeOwnV C sp E) := by
  intro pins s σ H x y v u Q I rx ry h
  obtain ⟨a, dx, fs, rfl, ha, hy, q⟩ := h
  cases rx
  obtain ⟨mA, J, _⟩ := ins_get I.hok ha
  obtain ⟨od, J, _⟩ := J.look
  have hu : X.A.units + 1 < cLine := by
    have z := hr.un
    omega
  have run := own_runA F hr.in1 rfl hb hx I ry q
  have fin : ∀ (v : Value) (s' : Shared), (∃ (c : Bool) (H' : Hp), v = .bool c ∧ L2.Inv X pins σ H' s' ∧ Q (.bl !c) H') → ∃ c, v = .bool c ∧ EP X pins σ Q (.bool !c) s' := fun v s' z => by
    obtain ⟨c, H', rfl, I', qc⟩ := z
    exact ⟨c, rfl, .bl !c, H', I', rfl, qc⟩
  rcases hy with ⟨y', rfl⟩ | ⟨b, ys, rfl, eb⟩
  · obtain ⟨t, rfl⟩ := (show ∃ t, u = Value.str y' t from ry)
    show wpAny _ _ (richCompare .NotEq (.ref a) (.str y' t)) _ _ _
    exact rich_neV (tb := .type "str") hu I.kIn J (PySem.W.Looks.of_pure rfl) hnS hob hn hs hf (wpAny_mono run fin fun _ _ z => z)
  · obtain rfl : u = Value.ref b := ry
    obtain ⟨_, its, _, o, h1, h2, _⟩ := (show ObjOk X.prog X.w H s.heap b (.tup ys) from I.hok b _ eb)
    show wpAny _ _ (richCompare .NotEq (.ref a) (.ref b)) _ _ _
    refine rich_neV (tb := .type "tuple") hu I.kIn J ?_ hnT hob hn hs hf (wpAny_mono run fin fun _ _ z => z)
    have : PySem.W.Looks (model X.prog X.w) s.heap (typeOf (.ref b)) o.cls := (PySem.W.Looks.ld (M := model X.prog X.w) (part := none) h1).andThen .now
    rw [← h2]
    exact this
/-- the truth of an own instance, by its len -/
def rTruOwn (C : Addr) (sp : Sp) (E : XK) : V → Hp → (Bool → Hp → Prop) → Prop := fun x H Q => ∃ a dx fs, x = V.ref a ∧ H a = some (.ins C dx fs) ∧ sp [.ref a] H (fun z H' => ∃ i : Int, z = .int i ∧ 0 ≤ i ∧ i < 2 ^ 63 ∧ Q (i != 0) H') E
theorem tru_own (hs0 : PySem.W.findIn X.K (.ref C) "__bool__" = some none) (hs : PySem.W.findIn X.K (.ref C) "__len__" = some (some (.ref f))) (hf : PySem.W.isFn X.K (.ref f) = true) (F : FnOk X.prog X.w X.K X.mg X.base CX n f fd ps sp) (hr : Room (n + 1) X.A) (hb : Binds X.K fd ps []) (hx : Passes CX X E) : TruR X (rTruOwn C sp E) := by
  intro pins s σ H x v Q I rx h
  obtain ⟨a, dx, fs, rfl, ha, q⟩ := h
  obtain rfl : v = Value.ref a := rx
  obtain ⟨mA, J, _⟩ := ins_get I.hok ha
  obtain ⟨od, J, _⟩ := J.look
  refine truthy_len I.kIn J hs0 hs hf ?_
  have hl := F.len _ _ _ _ q
  refine wpAny_call (codeAny_mono (F.run _ X.stack s H ⟨[.ref a], []⟩ [.ref a] [.ref a] _ E hr.in1 I.env0.in1 (by
    have z := hb s [.ref a] I.kIn (by simpa using hl)
    simpa using z) (.cons rfl .nil) q) fun r s' hq => ?_)
  cases r with
  | error e => exact hx pins σ H s e s' I hq
  | ok fl =>
    cases fl with
    | ret w =>
      obtain ⟨z, H', I', rz, i, ei, i0, i1, qz⟩ := I.after hq
      subst ei
      obtain ⟨t, rfl⟩ := (show ∃ t, w = Value.int i t from rz)
      exact ⟨i, t, rfl, i0, i1, fun tk => ⟨H', I'.tok _, qz⟩⟩
    | next => exact False.elim hq
    | brk => exact False.elim hq
    | cont => exact False.elim hq
end
end Bw
set_option Elab.async false
set_option linter.all false
set_option maxRecDepth 100000
set_option maxHeartbeats 4000000
namespace Bw
open PySem PySem.Spec PyProof.Rows L2
section
variable {P : Program} {w : World} {K : PySem.W.Frag} {mg : Str → Option Value} {base : Heap} {C CS CP fP CB : Addr} {cs : List Value}
/-! ### sums alike -/
abbrev s_seq : Stmt := inClass (topS 66) 14
theorem sc_seq : FnScope ["self", "other"] ["self", "other"] (defScope s_seq) := ⟨rfl, rfl, rfl, by decide +kernel, rfl, by decide +kernel, by decide +kernel⟩
def spSEq (C : Addr) : Sp := fun vs H Q _ => ∃ (a b : Addr) (n m : Nat) (r r' : List Tm), vs = [.ref a, .ref b] ∧ SumAt C H a n r ∧ SumAt C H b m r' ∧ Q (.bl (decide (n = m ∧ r = r'))) H
theorem ok_seq {f : Addr} {fd : FuncData} (F : Fun K "__eq__" "Sum.__eq__" s_seq f fd) (T : Tx mg) (S : SumC K mg C) : FnOk P w K mg base CX0 1 f fd ["self", "other"] (spSEq C) := by
  refine F.ok sc_seq (fun vs H Q E h => ?_) (fun cdv A outer s H vs Q E hr h => ?_)
  · obtain ⟨a, b, n, m, r, r', rfl, _⟩ := h
    rfl
  · have hu := hr.units
    refine ⟨_, (pss_one (ps_ret (pe_and (pe_callB (c_isi (K := K)) (by rfl) T.isinstance (by decide +kernel) (pa_cons (pv 1) (pa_cons (pe_glob (v := .ref C) (by rfl) S.gl rfl) pa_nil))) (pe_and (pe_cmpR op_eq (pf (K := K) (pv 0)) (pf (K := K) (pv 1)) (nomark _)) (pe_one (pe_cmpR (op_eqD hu) (pf (K := K) (pv 0)) (pf (K := K) (pv 1)) (nomark _))))))), ?_⟩
    obtain ⟨a, b, n, m, r, r', rfl, ⟨dx, p, us, h1, h2, h3⟩, ⟨dy, p', us', g1, g2, g3⟩, q⟩ := h
    refine ⟨.ref b, rfl, .ref b, .ref C, .ref C, .ref C, true, rfl, .own C, .base (.ins g1 S.cls S.ha S.hn S.htk S.hm), S.self, true, rfl, iteT ?_⟩
    refine ⟨.ref a, rfl, a, C, dx, _, .int n, rfl, h1, S.cls, S.nw, rfl, .ref b, rfl, b, C, dy, _, .int m, rfl, g1, S.cls, S.nw, rfl, rfl, ?_⟩
    by_cases e : n = m
    · subst e
      rw [decide_eq_true rfl]
      refine ⟨true, rfl, iteT ?_⟩
      refine ⟨.ref a, rfl, a, C, dx, _, .ref p, rfl, h1, S.cls, S.np, rfl, .ref b, rfl, b, C, dy, _, .ref p', rfl, g1, S.cls, S.np, rfl, .tuple (r.map tmD), .tuple (r'.map tmD), .tup (SqT.of h2) (terms_dp h3), .tup (SqT.of g2) (terms_dp g3), ?_, ?_, ?_⟩
      · exact shaped_tup (all_lay tmD_lay r) (Nat.le_trans (all_depth tmD_depth r) (by decide))
      · exact shaped_tup (all_lay tmD_lay r') (Nat.le_trans (all_depth tmD_depth r') (by decide))
      · have e : PyData.eqv (.tuple (r.map tmD)) (.tuple (r'.map tmD)) = decide (n = n ∧ r = r') := by
          simp only [PyData.eqv]
          rw [all_eqv tmD_eqv]
          simp
        rw [e]
        exact q
    · rw [decide_eq_false (fun z => by injection z with z; exact e (by omega))]
      rw [decide_eq_false (fun z => e z.1)] at q
      exact ⟨false, rfl, q⟩
/-- two sums with the same products -/
def SmR (CS : Addr) : Addr → Addr → Hp → Prop := fun a b H => ∃ n r, SumAt CS H a n r ∧ SumAt CS H b n r
theorem smr_ext {CS : Addr} : ∀ a b H H', Ext H H' → SmR CS a b H → SmR CS a b H' := fun a b H H' e h => by
  obtain ⟨n, r, h1, h2⟩ := h
  exact ⟨n, r, h1.same e, h2.same e⟩
/-! ### webs alike -/
structure WebI (K : PySem.W.Frag) (C : Addr) : Prop where
  ha : PySem.W.findIn K (.ref C) "__class__" = some (some (.builtin "object.__class__"))
  hm : PySem.W.mroIn K C (.type "object") = some true
  self : PySem.W.kitOne K (.ref C) (.ref C) = some true
  kS : PySem.W.kitOne K (.type "str") (.ref C) = some false
  kT : PySem.W.kitOne K (.type "tuple") (.ref C) = some false
abbrev s_weq : Stmt := inClass (topS 76) 19
theorem sc_weq : FnScope ["self", "other"] ["self", "other"] (defScope s_weq) := ⟨rfl, rfl, rfl, by decide +kernel, rfl, by decide +kernel, by decide +kernel⟩
def spWEq (C CS : Addr) : Sp := fun vs H Q _ => ∃ (x : Addr) (W : Wb), WebG C CS H x W ∧ ((∃ y, vs = [.ref x, y] ∧ ((∃ t, y = .str t) ∨ ∃ b xs, y = .ref b ∧ H b = some (.tup xs)) ∧ Q (.bl false) H) ∨
  ∃ (y : Addr) (W2 : Wb), vs = [.ref x, .ref y] ∧ WebG C CS H y W2 ∧ (W.rows = W2.rows → W.sums = W2.sums ∧ W.kept = W2.kept) ∧ ∀ H', Same H H' → Q (.bl (decide (W.rows = W2.rows))) H')
theorem ok_weq {f fe : Addr} {fd fde : FuncData} (F : Fun K "__eq__" "Web.__eq__" s_weq f fd) (T : Tx mg) (WC : WebC K mg C) (WI : WebI K C) (S : SumC K mg CS) (hse : PySem.W.findIn K (.ref CS) "__eq__" = some (some (.ref fe))) (hfe : PySem.W.isFn K (.ref fe) = true) (Fe : FnOk P w K mg base CX0 1 fe fde ["self", "other"] (spSEq CS)) (be : Binds K fde ["self", "other"] []) : FnOk P w K mg base CX0 4 f fd ["self", "other"] (spWEq C CS) := by
  refine F.ok sc_weq (fun vs H Q E h => ?_) (fun cdv A outer s H vs Q E hr h => ?_)
  · obtain ⟨x, W, _, ⟨y, rfl, _⟩ | ⟨y, W2, rfl, _⟩⟩ := h <;> rfl
  · have hu := hr.units
    have Fe' : FnOk P w K mg base CX0 1 fe fde ["self", "other"] (L2.spEq (SmR CS)) := Fe.imp fun vs H Q E h => by
      obtain ⟨a, b, rfl, ⟨n, r, h1, h2⟩, q⟩ := h
      refine ⟨a, b, n, n, r, r, rfl, h1, h2, ?_⟩
      rw [decide_eq_true ⟨rfl, rfl⟩]
      exact q H (fun _ _ h => h)
    refine ⟨_, (pss_one (ps_ret (pe_and (pe_callB (c_isi (K := K)) (by rfl) T.isinstance (by decide +kernel) (pa_cons (pv 1) (pa_cons (pe_glob (v := .ref C) (by rfl) WC.gl rfl) pa_nil))) (pe_and (pe_cmpR (op_eqD hu) (pe_ix (i_tup (K := K)) (pf (K := K) (pv 0)) pe_int (fun _ _ => rfl)) (pe_ix (i_tup (K := K)) (pf (K := K) (pv 1)) pe_int (fun _ _ => rfl)) (nomark _)) (pe_and (pe_cmpR (op_eqG (rcG_tup (mon_ins smr_ext) (eqG_ins Fe' hse hfe be pass0)) (hr.mono (by decide))) (pf (K := K) (pv 0)) (pf (K := K) (pv 1)) (nomark _)) (pe_one (pe_cmpR (op_eqD hu) (pf (K := K) (pv 0)) (pf (K := K) (pv 1)) (nomark _)))))))), ?_⟩
    obtain ⟨x, W, ⟨dx, s0, t, m, k, a, u, v, ss, h1, h⟩, ⟨y, rfl, hy, q⟩ | ⟨y, W2, rfl, ⟨dy, s0', t', m', k', a', u', v', ss', g1, g⟩, hsame, q⟩⟩ := h
    · rcases hy with ⟨y', rfl⟩ | ⟨b, xs, rfl, eb⟩
      · exact ⟨_, rfl, _, .ref C, .type "str", .ref C, false, rfl, .own C, .base (.str y'), WI.kS, false, rfl, q⟩
      · exact ⟨_, rfl, _, .ref C, .type "tuple", .ref C, false, rfl, .own C, .base (.tup eb), WI.kT, false, rfl, q⟩
    · refine ⟨.ref y, rfl, .ref y, .ref C, .ref C, .ref C, true, rfl, .own C, .base (.ins g1 WC.cls WI.ha S.hn S.htk WI.hm), WI.self, true, rfl, iteT ?_⟩
      refine ⟨.ref x, rfl, x, C, dx, _, _, rfl, h1, WC.cls, WC.n1, rfl, s0, _, 0, .ref a, rfl, rfl, SqT.of h.seed, atI_nat (j := 0) rfl, .ref y, rfl, y, C, dy, _, _, rfl, g1, WC.cls, WC.n1, rfl, s0', _, 0, .ref a', rfl, rfl, SqT.of g.seed, atI_nat (j := 0) rfl, tabD W.rows, tabD W2.rows, h.tab.dp, g.tab.dp, shaped_tab _, shaped_tab _, ?_⟩
      rw [tabD_eqv]
      by_cases e : W.rows = W2.rows
      · obtain ⟨e1, e2⟩ := hsame e
        rw [decide_eq_true e] at q ⊢
        refine ⟨true, rfl, iteT ?_⟩
        have hS := h.sums
        have gS := g.sums
        rw [← e, ← e1] at gS
        refine ⟨.ref x, rfl, x, C, dx, _, _, rfl, h1, WC.cls, WC.n2, rfl, .ref y, rfl, y, C, dy, _, _, rfl, g1, WC.cls, WC.n2, rfl, ⟨t, t', _, _, rfl, rfl, SqT.of h.stand, SqT.of g.stand, ?_, ?_⟩, fun H' eH => ⟨true, rfl, iteT ?_⟩⟩
        · rw [List.length_map, List.length_map, hS.1, gS.1]
        · intro i vx vy ex ey
          obtain ⟨c, ec, rfl⟩ := ref_at ex
          obtain ⟨c', ec', rfl⟩ := ref_at ey
          obtain ⟨r, er, h2⟩ := hS.at ec
          obtain ⟨r', er', g2⟩ := gS.at ec'
          rw [er] at er'
          cases er'
          obtain ⟨d1, p1, us1, k1, k2, k3⟩ := id h2
          obtain ⟨d2, p2, us2, l1, l2, l3⟩ := id g2
          exact ⟨c, c', d1, d2, _, _, rfl, rfl, k1, l1, _, r, h2, g2⟩
        · refine ⟨.ref x, rfl, x, C, dx, _, _, rfl, eH _ _ h1, WC.cls, WC.n4, rfl, .ref y, rfl, y, C, dy, _, _, rfl, eH _ _ g1, WC.cls, WC.n4, rfl, rowD W.kept, rowD W2.kept, .tup (SqT.of (eH _ _ h.kept)) (ints_dp _), .tup (SqT.of (eH _ _ g.kept)) (ints_dp _), shaped_row _, shaped_row _, ?_⟩
          rw [rowD_eqv, decide_eq_true e2]
          exact q H' eH
      · rw [decide_eq_false e] at q ⊢
        exact ⟨false, rfl, q H (.refl _)⟩
end
end Bw
set_option Elab.async false
set_option linter.all false
set_option maxRecDepth 100000
set_option maxHeartbeats 2000000
/-! ### a method that may raise, called inside a try -/
namespace Bw
open PySem PySem.Spec PyProof.Rows L2
def tMethAt (C : Addr) (m : Str) (sp : Sp) (E : L2.St → XK) (ta : TE) (t : TA) : TE := fun σ H Q => ta σ H fun x H1 => ∃ a dx fs, x = .ref a ∧ H1 a = some (.ins C dx fs) ∧ fs.lookup m = none ∧ t σ H1 fun vs H2 => sp (x :: vs) H2 Q (E σ)
theorem pe_methAt {X : Cx} {CX : CXT} {k : Nat} {C f : Addr} {fd : FuncData} {ps : List Str} {sp : Sp} {E : L2.St → XK} {m : Str} {o e : Expr} {es : List Expr} {ta : TE} {t : TA} {apos pos : Pos} {pl : Sem Bool} (he : PE X o ta) (c : Cls X.K C) (hm : Meth X.K C m f) (F : FnOk X.prog X.w X.K X.mg X.base CX k f fd ps sp) (hr : Room k X.A) (hb : Binds X.K fd ps []) (hx : ∀ σ, PassesAt CX X σ (E σ)) (ha : PA X (e :: es) t)
    (hst : starEach (e :: es) X.env = (false, eval e X.env) :: starEach es X.env := by rfl) (hpl : (backTo pos (starEach es X.env)).any (·.1) = false := by rfl)
    (ht : eval (.Call (.Attribute o m apos) (e :: es) [] pos) X.env = (do
      let ov ← eval o X.env
      standAt apos.atName
      let (f, first) ← holding [ov] (getMethod ov m pl)
      callWith pos f first (backTo pos (starEach (e :: es) X.env)) (backToKw pos (keywordEach [] X.env))) := by rfl) : PE X (.Call (.Attribute o m apos) (e :: es) [] pos) (tMethAt C m sp E ta t) := by
  refine ⟨fun pins s σ H Q I h => ?_⟩
  refine PySem.W.methodCall_KW (pl := pl) (thn (he.run pins s σ H _ I h) fun u s1 ⟨x, H1, I1, rx, a, dx, fs, ex, ea, l, q⟩ => ?_) ht
  subst ex
  obtain rfl : u = Value.ref a := rx
  refine getmeth_ok I1 ea c hm l (PySem.W.callWith_K (first := [.ref a]) (h₀ := X.base) I.ok.mod.kin hm.kp (thn (ha.run pos pins s1 σ H1 _ I1 q) fun us s2 ⟨vs, H2, I2, r, q2⟩ => ⟨I2.kIn, ?_⟩) hst hpl)
  exact run_fnS (us := .ref a :: us) (vs := .ref a :: vs) F hr hb (hx σ) I2 (.cons rfl r) q2
end Bw
set_option Elab.async false
set_option linter.all false
set_option maxRecDepth 100000
set_option maxHeartbeats 4000000
namespace Bw
open PySem PySem.Spec PyProof.Rows L2
/-! ### what stays where a list is drawn from -/
def KpT (H H' : Hp) : Prop := ∀ b o, H b = some o → (∀ xs, o ≠ .lst xs) → H' b = some o
theorem KpT.but {H H' : Hp} {f l : Addr} (s : SameBut f H H') (hf : FeedAt H f l) : KpT H H' := fun b o e n => s _ _ (fun z => by
  obtain ⟨_, _, _, _, _, _, e2, _⟩ := hf
  rw [z, e2] at e
  cases e
  exact n _ rfl) e
theorem KpT.put {H : Hp} {L : Addr} {xs : List V} {o : HO} (e : H L = some (.lst xs)) : KpT H (upd H L o) := fun b u eb n => by
  rw [upd_ne (fun z => by rw [z, e] at eb; cases eb; exact n _ rfl)]
  exact eb
theorem TabAt.kt {H H' : Hp} {a : Addr} {rows : List (List Int)} (k : KpT H H') (h : TabAt H a rows) : TabAt H' a rows := by
  obtain ⟨as, h1, h2, h3⟩ := h
  refine ⟨as, k _ _ h1 (fun xs z => by cases z), h2, fun i r e => ?_⟩
  obtain ⟨b, e1, e2⟩ := h3 i r e
  exact ⟨b, e1, k _ _ e2 (fun xs z => by cases z)⟩
theorem SumAt.kt {C : Addr} {H H' : Hp} {c : Addr} {n : Nat} {r : List Tm} (k : KpT H H') (h : SumAt C H c n r) : SumAt C H' c n r := by
  obtain ⟨dx, p, us, h1, h2, h3⟩ := h
  refine ⟨dx, p, us, k _ _ h1 (fun xs z => by cases z), k _ _ h2 (fun xs z => by cases z), h3.1, fun i a e => ?_⟩
  obtain ⟨t, e1, q, g1, g2⟩ := h3.2 i a e
  exact ⟨t, e1, q, k _ _ g1 (fun xs z => by cases z), k _ _ g2 (fun xs z => by cases z)⟩
theorem WebG.kt {C CS : Addr} {H H' : Hp} {x : Addr} {W : Wb} (z : KpT H H') (h : WebG C CS H x W) : WebG C CS H' x W := by
  obtain ⟨dx, s, t, m, k, a, u, v, ss, h1, h⟩ := h
  refine ⟨dx, s, t, m, k, a, u, v, ss, z _ _ h1 (fun xs z => by cases z), z _ _ h.seed (fun xs z => by cases z), h.tab.kt z, h.hue.kt z, h.lean.kt z, z _ _ h.stand (fun xs z => by cases z), ⟨h.sums.1, fun i r e => ?_⟩, z _ _ h.made (fun xs z => by cases z), z _ _ h.kept (fun xs z => by cases z)⟩
  obtain ⟨c, e1, e2⟩ := h.sums.2 i r e
  exact ⟨c, e1, e2.kt z⟩
theorem WebG.ins {C CS : Addr} {H : Hp} {x : Addr} {W : Wb} (h : WebG C CS H x W) : ∃ dx fs, H x = some (.ins C dx fs) ∧ (∀ m : Str, m ≠ "seed" → m ≠ "standing" → m ≠ "made" → m ≠ "kept" → fs.lookup m = none) := by
  obtain ⟨dx, s0, t, m, k, a, u, v, ss, h1, _⟩ := h
  refine ⟨dx, _, h1, fun y a1 a2 a3 a4 => ?_⟩
  have e1 : (y == ("seed" : Str)) = false := by simpa using a1
  have e2 : (y == ("standing" : Str)) = false := by simpa using a2
  have e3 : (y == ("made" : Str)) = false := by simpa using a3
  have e4 : (y == ("kept" : Str)) = false := by simpa using a4
  unfold webFs
  rw [List.lookup_cons, e1, List.lookup_cons, e2, List.lookup_cons, e3, List.lookup_cons, e4]
  rfl
section
variable {P : Program} {w : World} {K : PySem.W.Frag} {mg : Str → Option Value} {base : Heap} {C CS CP fP CB : Addr} {cs : List Value}
abbrev s_law_no_bud : Stmt := topS 90
abbrev n_law_no_bud : List Str := ["_law_feed_here", "_law_web", "_law_wide", "_law_odd", "_law_where", "e"]
theorem sc_law_no_bud : FnScope n_law_no_bud ["_law_feed_here", "_law_web", "_law_wide"] (defScope s_law_no_bud) := ⟨rfl, rfl, rfl, by decide +kernel, rfl, by decide +kernel, by decide +kernel⟩
def spNoBud (C CS : Addr) : Sp := fun vs H Q _ => ∃ (f l x : Addr) (W : Wb), vs = [.ref f, .ref x, .int (W.sums.length : Nat)] ∧ FeedAt H f l ∧ WebG C CS H x W ∧ ∀ H', SameBut f H H' → FeedAt H' f l → Q (.bl true) H'
theorem ok_nobud {f fb : Addr} {fd fdb : FuncData} (F : Fun K "_law_no_bud" "_law_no_bud" s_law_no_bud f fd) (T : Tx mg) (WC : WebC K mg C) (TP : ErrB K mg "NoPlace" CP fP CB cs ixB ixN ixI ixL) (nP : PySem.W.findIn K (.ref CP) "place" = some none) (teP : PySem.W.exmOne K (.ref CP) (.ref CP) = some true) (c_law_draw : Cal P w K mg base CX0 1 "_law_draw" ["_law_feed_here", "_law_many"] spDraw)
    (mB : Meth K C "bud" fb) (FB : FnOk P w K mg base (L2.CX P w) 3 fb fdb ["self", "place"] (spBud C CS CP)) (bB : Binds K fdb ["self", "place"] []) : FnOk P w K mg base CX0 4 f fd ["_law_feed_here", "_law_web", "_law_wide"] (spNoBud C CS) := by
  refine F.ok sc_law_no_bud (fun vs H Q E h => ?_) (fun cdv A outer s H vs Q E hr h => ?_)
  · obtain ⟨f, l, x, W, rfl, _⟩ := h
    rfl
  · obtain ⟨f, l, x, W, rfl, hf, hW, q⟩ := h
    refine ⟨_, (pss_cons (ps_for PassesOwn.never rfl (p_list (K := K) (pe_lst (pa_cons (pe_un un_neg pe_int) (pa_cons (pv 2) (pa_cons (pe_op op_add (pv 2) (pe_cal c_law_draw (hr.mono (by decide)) (by rfl) (pa_cons (pv 0) (pa_cons (pe_op op_pow pe_int pe_int) pa_nil)))) (pa_cons (pe_op op_sub (pe_un un_neg pe_int) (pe_cal c_law_draw (hr.mono (by decide)) (by rfl) (pa_cons (pv 0) (pa_cons (pe_op op_pow pe_int pe_int) pa_nil)))) pa_nil)))))) (pg_name (i := 3) sc_law_no_bud.nd rfl (.inl rfl))
    (pss_cons (ps_set (i := 4) sc_law_no_bud.nd rfl (.inl rfl) pe_non)
    (pss_cons (ps_try_as (i := 5) rfl rfl sc_law_no_bud.nd rfl rfl ⟨rfl, by decide, .inl TP.g⟩ L2.takes0 (fun W pn xe tk _ => pss_one (ps_expr (pe_methAt (pv 1) WC.cls mB FB hr bB (fun σ => passAt tk σ) (pa_cons (pv 3) pa_nil)))) (fun a oe cls d pn hz hf => pss_one (ps_set (i := 4) sc_law_no_bud.nd rfl (.inl rfl) (pe_xf TP.xf nP hz hf (pv 5)))))
    (pss_one (ps_if (pt_cmpR op_ne (pv 4) (pv 3) (nomark _))
      (pss_one (ps_ret pe_bl))
      pss_nil)))))
  (pss_one (ps_ret pe_bl))), ?_⟩
    refine ⟨1, rfl, .int (W.sums.length : Nat), rfl, .int (W.sums.length : Nat), rfl, .ref f, rfl, _, _, rfl, rfl, ⟨by decide, by decide, by decide⟩, f, l, _, rfl, hf, by decide, by decide, fun v1 H6 v0 _ sb6 hf6 => ⟨_, _, rfl, rfl, ?_⟩⟩
    refine ⟨1, rfl, .ref f, rfl, _, _, rfl, rfl, ⟨by decide, by decide, by decide⟩, f, l, _, rfl, hf6, by decide, by decide, fun v2 H7 w0 _ sb7 hf7 => ⟨_, _, rfl, rfl, ?_⟩⟩
    have hW7 := (hW.kt (KpT.but sb6 hf)).kt (KpT.but sb7 hf6)
    have sb := sb6.trans sb7
    refine ⟨by show 4 ≤ sizeLine; decide, fun L eL => ?_⟩
    have hzs : ∀ z ∈ [-1, (W.sums.length : Int), (W.sums.length : Int) + v1, -1 - v2], ¬ (0 ≤ z ∧ z < (W.sums.length : Int)) := fun z hz => by
      simp only [List.mem_cons, List.not_mem_nil, or_false] at hz
      rcases hz with rfl | rfl | rfl | rfl <;> omega
    have sL := same_upd (o := .lst ([-1, (W.sums.length : Int), (W.sums.length : Int) + v1, -1 - v2].map V.int)) eL
    have eL8 : (upd H7 L (.lst ([-1, (W.sums.length : Int), (W.sums.length : Int) + v1, -1 - v2].map V.int))) L = some (.lst ([-1, (W.sums.length : Int), (W.sums.length : Int) + v1, -1 - v2].map V.int)) := upd_same
    refine ⟨L, rfl, ⟨_, SqL.of eL8⟩, for_list (K := K) (a := L) (xs := ([-1, (W.sums.length : Int), (W.sums.length : Int) + v1, -1 - v2] : List Int).map V.int) (fun i σ H' => ∃ y3 y4 : Option V, σ = [some (.ref f), some (.ref x), some (.int (W.sums.length : Nat)), y3, y4, none] ∧ WebG C CS H' x W ∧ FeedAt H' f l ∧ SameBut f H H' ∧ H' L = some (.lst (([-1, (W.sums.length : Int), (W.sums.length : Int) + v1, -1 - v2] : List Int).map V.int))) ⟨_, _, rfl, hW7.same sL, hf7.same sL, sb.trans sL.but, eL8⟩ (fun i σ H' _ ⟨_, _, _, _, _, _, e⟩ => SqL.of e) ?_ ?_⟩
    · rintro i y σ H9 hy ⟨y3, y4, rfl, W9, f9, b9, e9⟩
      obtain ⟨z, ez, rfl⟩ := int_at hy
      have hz := hzs z (List.mem_of_getElem? ez)
      obtain ⟨dx, fs, h1, hfs⟩ := W9.ins
      refine ⟨.ref x, rfl, x, dx, _, rfl, h1, hfs "bud" (by decide) (by decide) (by decide) (by decide), .int z, rfl, x, W, z, rfl, W9, fun c r z0 er _ => absurd ⟨z0, (by have := (List.getElem?_eq_some_iff.mp er).1; omega)⟩ hz, fun _ d H10 s10 hd => ⟨true, teP, fun _ x' hx => ?_, fun g => nomatch g⟩⟩
      refine ⟨.ref x', rfl, rfl, rfl, d, _, .int z, rfl, hd, rfl, ?_⟩
      exact ⟨.int z, rfl, .int z, rfl, rfl, _, rfl, ite2 (fun g => absurd g (by rw [decide_eq_true rfl]; decide)) (fun _ => ⟨_, _, rfl, W9.same s10, f9.same s10, b9.trans s10.but, s10 _ _ e9⟩)⟩
    · rintro σ H9 ⟨y3, y4, rfl, W9, f9, b9, e9⟩
      exact q H9 b9 f9
end
end Bw
set_option Elab.async false
set_option linter.all false
set_option maxRecDepth 100000
set_option maxHeartbeats 1500000
namespace Bw
open PySem PySem.Spec PyProof.Rows L2
theorem em (a : Str) : Str.empty ++ a = a := by
  exact Str.empty_append a
def catL {α : Type} : List α → List α → List α
  | [a], [b] => [a, b]
  | _, _ => []
theorem al_rows {H : Hp} {L M : Addr} {ts us : List Addr} {R : List (List Int)} (hL : H L = some (.lst (ts.map V.ref))) (hM : H M = some (.lst (us.map V.ref))) (h1 : RefsAt H ts R) (h2 : RefsAt H us R) (hz : R.length ≤ 1000) (hw : ∀ r ∈ R, r.length ≤ 1000) : Al 3 H (.ref L) (.ref M) := by
  refine .inr (.inr ⟨L, M, _, _, rfl, rfl, hL, hM, by rw [List.length_map, List.length_map, h1.1, h2.1], by rw [List.length_map, h1.1]; exact hz, fun j u v e1 e2 => ?_⟩)
  obtain ⟨t, et, rfl⟩ := ref_at e1
  obtain ⟨t', et', rfl⟩ := ref_at e2
  have hj : j < R.length := by
    rw [← h1.1]
    exact (List.getElem?_eq_some_iff.mp et).1
  obtain ⟨b, x1, x2⟩ := h1.2 j _ (List.getElem?_eq_getElem hj)
  obtain ⟨b', y1, y2⟩ := h2.2 j _ (List.getElem?_eq_getElem hj)
  cases (Option.some.inj (et.symm.trans x1))
  cases (Option.some.inj (et'.symm.trans y1))
  have hl := hw _ (List.getElem_mem hj)
  refine .inr (.inl ⟨t, t', _, _, rfl, rfl, x2, y2, rfl, by rw [List.length_map]; exact hl, fun i x y f1 f2 => ?_⟩)
  rw [f1] at f2
  cases (Option.some.inj f2)
  obtain ⟨z, _, rfl⟩ := int_at f1
  exact .inl ⟨rfl, .inl ⟨z, rfl⟩⟩
theorem al_nil {n : Nat} {H : Hp} {L M : Addr} (hL : H L = some (.lst [])) (hM : H M = some (.lst [])) : Al (n + 1) H (.ref L) (.ref M) := .inr (.inr ⟨L, M, [], [], rfl, rfl, hL, hM, rfl, Nat.zero_le _, fun j u v e1 _ => by simp at e1⟩)
def unitL (n : Nat) : List (List Int) := (List.range n).map fun (k : Nat) => byL n (k : Int) 1
theorem unitL_u (n : Nat) : unitL n = uRows n := by
  unfold unitL uRows
  refine List.map_congr_left fun k hk => ?_
  unfold byL uRow
  try unfold matRow
  refine List.map_congr_left fun i hi => ?_
  by_cases h : i = k
  · subst h
    simp
  · have : ¬ ((i : Int) = k) := by omega
    simp [h, this]
    try omega
structure Ws (C CS : Addr) (f l t x : Addr) (rows : List (List Int)) (n : Nat) (H : Hp) : Prop where
  feed : FeedAt H f l
  tab : TabAt H t rows
  web : WebG C CS H x (wb0 rows n)
theorem Ws.same {C CS : Addr} {f l t x : Addr} {rows : List (List Int)} {n : Nat} {H H' : Hp} (s : Same H H') (h : Ws C CS f l t x rows n H) : Ws C CS f l t x rows n H' := ⟨h.feed.same s, h.tab.same s, h.web.same s⟩
theorem Ws.but {C CS : Addr} {f l t x : Addr} {rows : List (List Int)} {n : Nat} {H H' : Hp} (s : SameBut f H H') (hf : FeedAt H' f l) (h : Ws C CS f l t x rows n H) : Ws C CS f l t x rows n H' := ⟨hf, h.tab.but s h.feed, h.web.kt (KpT.but s h.feed)⟩
section
variable {P : Program} {w : World} {K : PySem.W.Frag} {mg : Str → Option Value} {base : Heap} {C CS CP : Addr}
abbrev s_law : Stmt := topS 91
abbrev n_law : List Str := ["_law_script", "_law_feed_here", "_law_ties", "_law_many", "_law_wide", "_law_web", "_law_turn", "_law_due", "_law_found", "_law_k", "_law_told_here", "_law_texts", "_law_other"]
theorem sc_law : FnScope n_law ["_law_script"] (defScope s_law) := ⟨rfl, rfl, rfl, by decide +kernel, rfl, by decide +kernel, by decide +kernel⟩
def spLaw (K : PySem.W.Frag) : Sp := fun vs H Q _ => ∃ (a : Addr) (ns : List Int), vs = [.ref a] ∧ SqL K H a (ns.map V.int) ∧ ns.length ≤ 63 ∧ ∀ H', Q (.bl true) H'
theorem ok_law {f fW fB fL fS fE fR fT : Addr} {fd fdW fdB fdL fdS fdE fdR fdT : FuncData} (F : Fun K "law" "law" s_law f fd) (T : Tx mg) (tRepr : mg "repr" = none) (WC : WebC K mg C) (WI : WebI K C) (S : SumC K mg CS) (nCC : C ≠ CS)
    (c_law_feed : Cal P w K mg base CX0 1 "_law_feed" ["_law_script"] (spFeed K)) (c_law_table : Cal P w K mg base CX0 4 "_law_table" ["_law_feed_here", "_law_most_buds", "_law_most_roots"] spTable) (c_law_same : Cal P w K mg base CX0 5 "_law_same" ["_law_found", "_law_due"] (spSame 4))
    (c_law_unit : Cal P w K mg base CX0 1 "_law_unit" ["_law_many", "_law_k"] spUnit) (c_law_rows_text : Cal P w K mg base CX0 1 "_law_rows_text" ["_law_rows"] spRowsText) (c_law_sum_is : Cal P w K mg base CX0 6 "_law_sum_is" ["_law_found", "_law_width", "_law_book"] (spIs CS)) (c_law_no_bud : Cal P w K mg base CX0 4 "_law_no_bud" ["_law_feed_here", "_law_web", "_law_wide"] (spNoBud C CS))
    (c_weights_tables : Cal P w K mg base CX0 6 "weights_tables" ["table"] spWeights)
    (m_table : MetS P w K mg base 1 C "table" ["self"] (spWTable C CS)) (m_hues : MetS P w K mg base 1 C "hues" ["self"] (spHues C CS)) (m_leans : MetS P w K mg base 1 C "leans" ["self"] (spLeans C CS)) (m_done : MetS P w K mg base 1 C "done" ["self"] (spDone C CS)) (m_held : MetS P w K mg base 1 C "held" ["self"] (spHeldM C CS)) (m_places : MetS P w K mg base 1 C "places" ["self"] (spPlaces C CS)) (m_weights : MetS P w K mg base 7 C "weights" ["self"] (spWWeights C CS)) (m_buds : MetS P w K mg base 3 C "buds" ["self"] (spBudsM C CS)) (m_bud : MetX P w K mg base 3 C "bud" ["self", "place"] (spBud C CS CP))
    (mB : Meth K C "bud" fB) (FB : FnOk P w K mg base (L2.CX P w) 3 fB fdB ["self", "place"] (spBud C CS CP)) (kbB : KBinds K fdB ["self", "place"] ["place"] catL catL)
    (mkW : Mk K C fW) (FW : FnOk P w K mg base CX0 6 fW fdW ["self", "table"] (spWInitG C CS)) (bW : Binds K fdW ["self", "table"] []) (kbW : KBn K fdW ["self", "table"] 1 ["table"] catL catL)
    (hsL : PySem.W.findIn K (.ref C) "__len__" = some (some (.ref fL))) (hfL : PySem.W.isFn K (.ref fL) = true) (FL : FnOk P w K mg base CX0 1 fL fdL ["self"] (spWLen C CS)) (bL : Binds K fdL ["self"] []) (hsB : PySem.W.findIn K (.ref C) "__bool__" = some none)
    (hnS : PySem.W.findIn K (.ref CS) "__ne__" = some (some (.builtin "object.__ne__"))) (hsS : PySem.W.findIn K (.ref CS) "__eq__" = some (some (.ref fS))) (hfS : PySem.W.isFn K (.ref fS) = true) (FS : FnOk P w K mg base CX0 1 fS fdS ["self", "other"] (spSEq CS)) (bS : Binds K fdS ["self", "other"] [])
    (nfS : PySem.W.notFirst K C (.type "str") = true) (nfT : PySem.W.notFirst K C (.type "tuple") = true) (hnW : PySem.W.findIn K (.ref C) "__ne__" = some (some (.builtin "object.__ne__"))) (hsE : PySem.W.findIn K (.ref C) "__eq__" = some (some (.ref fE))) (hfE : PySem.W.isFn K (.ref fE) = true) (FE : FnOk P w K mg base CX0 4 fE fdE ["self", "other"] (spWEq C CS)) (bE : Binds K fdE ["self", "other"] [])
    (hsR : PySem.W.findIn K (.ref C) "__repr__" = some (some (.ref fR))) (hfR : PySem.W.isFn K (.ref fR) = true) (FRp : FnOk P w K mg base CX0 3 fR fdR ["self"] (spWRepr C CS)) (bRp : Binds K fdR ["self"] [])
    (hsT : PySem.W.findIn K (.ref C) "__str__" = some (some (.ref fT))) (hfT : PySem.W.isFn K (.ref fT) = true) (FSt : FnOk P w K mg base CX0 3 fT fdT ["self"] (spWStr C CS)) (bSt : Binds K fdT ["self"] []) : FnOk P w K mg base CX0 8 f fd ["_law_script"] (spLaw K) := by
  refine F.ok sc_law (fun vs H Q E h => ?_) (fun cdv A outer s H vs Q E hr h => ?_)
  · obtain ⟨a, ns, rfl, _⟩ := h
    rfl
  · obtain ⟨a, ns, rfl, hS, hlen, q⟩ := h
    have hu := hr.units
    refine ⟨_, (pss_cons (ps_set (i := 1) sc_law.nd rfl (.inl rfl) (pe_cal c_law_feed (hr.mono (by decide)) (by rfl) (pa_cons (pv 0) pa_nil)))
  (pss_cons (ps_set (i := 2) sc_law.nd rfl (.inl rfl) (pe_cal c_law_table (hr.mono (by decide)) (by rfl) (pa_cons (pv 1) (pa_cons pe_int (pa_cons pe_int pa_nil)))))
  (pss_cons (ps_asg (pe_tup (pa_cons (pe_callB (c_len (K := K)) (by rfl) T.len PySem.boot_len (pa_cons (pe_ix (i_tup (K := K)) (pv 2) pe_int (fun _ _ => rfl)) pa_nil)) (pa_cons (pe_callB (c_len (K := K)) (by rfl) T.len PySem.boot_len (pa_cons (pv 2) pa_nil)) pa_nil))) (g_tup (K := K) (n := 2) rfl (pgs_cons (pg_name (i := 3) sc_law.nd rfl (.inr rfl)) (pgs_cons (pg_name (i := 4) sc_law.nd rfl (.inl rfl)) pgs_nil))))
  (pss_cons (ps_set (i := 5) sc_law.nd rfl (.inl rfl) (pe_makeK0 mkW FW hr (by rfl) WC.gl kbW pass0 (pk_cons (pv 2) pk_nil)))
  (pss_cons (ps_for PassesOwn.never rfl (pi_range1 (by rfl) T.range (pa_cons pe_int pa_nil)) (pg_name (i := 6) sc_law.nd rfl (.inl rfl))
    (pss_cons (ps_set (i := 7) sc_law.nd rfl (.inl rfl) (pe_lst (pa_cons (pv 2) (pa_cons (pe_lc (own := [("_law_k", 9)]) (by rfl) sc_law.nd (pi_range1 (by rfl) T.range (pa_cons (pv 3) pa_nil)) (blkOk_by (own := [("_law_k", 9)]) (N := n_law) (sc := defScope s_law) (by decide +kernel)) (fun _ _ _ _ _ => (pg_name (i := 9) sc_law.nd rfl (.inl rfl))) (fun _ _ _ _ _ => pts_nil) (fun _ _ _ _ _ => (pe_cal c_law_unit (hr.mono (by decide)) (by rfl) (pa_cons (pv 3) (pa_cons (pv 9) pa_nil))))) (pa_cons (pe_lc (own := [("_law_k", 9)]) (by rfl) sc_law.nd (pi_range1 (by rfl) T.range (pa_cons (pv 3) pa_nil)) (blkOk_by (own := [("_law_k", 9)]) (N := n_law) (sc := defScope s_law) (by decide +kernel)) (fun _ _ _ _ _ => (pg_name (i := 9) sc_law.nd rfl (.inl rfl))) (fun _ _ _ _ _ => pts_nil) (fun _ _ _ _ _ => (pe_cal c_law_unit (hr.mono (by decide)) (by rfl) (pa_cons (pv 3) (pa_cons (pv 9) pa_nil))))) (pa_cons (pe_lst pa_nil) (pa_cons (pe_lst pa_nil) (pa_cons (pv 4) pa_nil))))))))
    (pss_cons (ps_set (i := 8) sc_law.nd rfl (.inl rfl) (pe_lst (pa_cons (pe_mtS0 m_table (hr.mono (by decide)) (pv 5)) (pa_cons (pe_mtS0 m_hues (hr.mono (by decide)) (pv 5)) (pa_cons (pe_mtS0 m_leans (hr.mono (by decide)) (pv 5)) (pa_cons (pe_mtS0 m_done (hr.mono (by decide)) (pv 5)) (pa_cons (pe_mtS0 m_held (hr.mono (by decide)) (pv 5)) (pa_cons (pe_mtS0 m_places (hr.mono (by decide)) (pv 5)) pa_nil))))))))
    (pss_cons (ps_if (PW.pt (pw_or (pt_not (pt_val (pe_cal c_law_same (hr.mono (by decide)) (by rfl) (pa_cons (pv 8) (pa_cons (pv 7) pa_nil))))) (pw_or1 (pt_not (pt_val (pe_cal c_law_same (hr.mono (by decide)) (by rfl) (pa_cons (pe_mtS0 m_weights (hr.mono (by decide)) (pv 5)) (pa_cons (pe_cal c_weights_tables (hr.mono (by decide)) (by rfl) (pa_cons (pv 2) pa_nil)) pa_nil))))))))
      (pss_one (ps_ret pe_bl))
      pss_nil)
    (pss_cons (ps_if (PW.pt (pw_or (pt_cmpR op_ne (pe_callB (c_len (K := K)) (by rfl) T.len PySem.boot_len (pa_cons (pe_mtS0 m_buds (hr.mono (by decide)) (pv 5)) pa_nil)) (pv 3) (nomark _)) (pw_or (pt_not (pt_val (pe_cal c_law_same (hr.mono (by decide)) (by rfl) (pa_cons (pe_callB (c_lenOwn hsL hfL FL (hr.mono (by decide)) bL pass0) (by rfl) T.len PySem.boot_len (pa_cons (pv 5) pa_nil)) (pa_cons (pv 3) pa_nil))))) (pw_or1 (pt_not (pt_truthR (pv 5) (tru_own hsB hsL hfL FL (hr.mono (by decide)) bL pass0) (by intro _; rfl)))))))
      (pss_one (ps_ret pe_bl))
      pss_nil)
    (pss_cons (ps_for PassesOwn.never rfl (pi_range1 (by rfl) T.range (pa_cons (pv 4) pa_nil)) (pg_name (i := 9) sc_law.nd rfl (.inl rfl))
      (pss_cons (ps_if (pt_not (pt_val (pe_cal c_law_sum_is (hr.mono (by decide)) (by rfl) (pa_cons (pe_mtX m_bud (hr.mono (by decide)) passL (pv 5) (pa_cons (pv 9) pa_nil)) (pa_cons (pv 4) (pa_cons (pe_disp1T hr.units0 (pe_cal c_law_unit (hr.mono (by decide)) (by rfl) (pa_cons (pv 4) (pa_cons (pv 9) pa_nil))) pe_int) pa_nil))))))
        (pss_one (ps_ret pe_bl))
        pss_nil)
      (pss_one (ps_if (PW.pt (pw_and (pt_cmpR op_lt (pv 9) (pv 3) (nomark _)) (pw_and1 (pt_cmpR (o_neOwn S.hm hnS hsS hfS FS (hr.mono (by decide)) bS pass0) (pe_ix (i_list (K := K)) (pe_mtS0 m_buds (hr.mono (by decide)) (pv 5)) (pv 9) (fun _ _ => rfl)) (pe_methK0 (pv 5) WC.cls mB FB (hr.mono (by decide)) kbB passL (pk_cons (pv 9) pk_nil)) (nomark _)))))
        (pss_one (ps_ret pe_bl))
        pss_nil))))
    (pss_one (ps_for PassesOwn.never rfl (p_list (K := K) (pe_lst (pa_cons (pe_mtS0 m_hues (hr.mono (by decide)) (pv 5)) (pa_cons (pe_mtS0 m_leans (hr.mono (by decide)) (pv 5)) (pa_cons (pe_mtS0 m_done (hr.mono (by decide)) (pv 5)) (pa_cons (pe_mtS0 m_held (hr.mono (by decide)) (pv 5)) (pa_cons (pe_mtS0 m_buds (hr.mono (by decide)) (pv 5)) pa_nil))))))) (pg_name (i := 10) sc_law.nd rfl (.inl rfl))
      (pss_cons (ps_expr (pe_bm PySem.F.plainAttrs_list PySem.F.slot_list_append PySem.F.type_list_append mt_append (pv 10) (pa_cons pe_int pa_nil)))
      (pss_one (ps_expr (pe_bm0 PySem.F.plainAttrs_list PySem.F.slot_list_reverse PySem.F.type_list_reverse mt_reverse (pv 10)))))))))))))
  (pss_cons (ps_set (i := 11) sc_law.nd rfl (.inl rfl) (pe_lst (pa_cons (pe_op op_add_str (pe_op op_add_str (pe_op op_add_str (pe_op op_add_str pe_str (pe_callTy call_str_int (by rfl) T.str (by decide +kernel) (pa_cons (pv 3) pa_nil))) pe_str) (pe_callTy call_str_int (by rfl) T.str (by decide +kernel) (pa_cons (pe_op op_sub (pv 4) (pv 3)) pa_nil))) pe_str) (pa_cons (pe_cal c_law_rows_text (hr.mono (by decide)) (by rfl) (pa_cons (pv 2) pa_nil)) pa_nil))))
  (pss_cons (ps_if (pt_not (pt_val (pe_cal c_law_same (hr.mono (by decide)) (by rfl) (pa_cons (pe_lst (pa_cons (pe_callB (c_reprOwn hsR hfR FRp (hr.mono (by decide)) bRp pass0) (by rfl) tRepr (by decide +kernel) (pa_cons (pv 5) pa_nil)) (pa_cons (pe_callTy (c_strOwn hsT hfT FSt (hr.mono (by decide)) bSt pass0) (by rfl) T.str (by decide +kernel) (pa_cons (pv 5) pa_nil)) pa_nil))) (pa_cons (pv 11) pa_nil)))))
    (pss_one (ps_ret pe_bl))
    pss_nil)
  (pss_cons (ps_if (pt_not (pt_val (pe_cal c_law_no_bud (hr.mono (by decide)) (by rfl) (pa_cons (pv 1) (pa_cons (pv 5) (pa_cons (pv 4) pa_nil))))))
    (pss_one (ps_ret pe_bl))
    pss_nil)
  (pss_cons (ps_set (i := 12) sc_law.nd rfl (.inl rfl) (pe_cal c_law_table (hr.mono (by decide)) (by rfl) (pa_cons (pv 1) (pa_cons pe_int (pa_cons pe_int pa_nil)))))
  (pss_cons (ps_if (pt_not (PW.pt (pw_and (pt_cmpR (o_eqOwn hsE hfE FE (hr.mono (by decide)) bE pass0) (pv 5) (pe_make mkW FW hr (by rfl) WC.gl bW .nil pass0 (pa_cons (pv 2) pa_nil)) (nomark _)) (pw_and (pt_cmpR op_eq (pe_cmpR (o_eqOwn hsE hfE FE (hr.mono (by decide)) bE pass0) (pv 5) (pe_make mkW FW hr (by rfl) WC.gl bW .nil pass0 (pa_cons (pv 12) pa_nil)) (nomark _)) (pe_cmpR (op_eqD hu) (pv 2) (pv 12) (nomark _)) (nomark _)) (pw_and1 (pt_cmpR (o_neOwnV nfS nfT WI.hm hnW hsE hfE FE (hr.mono (by decide)) bE pass0) (pv 5) (pv 2) (nomark _)))))))
    (pss_one (ps_ret pe_bl))
    pss_nil)
  (pss_one (ps_ret (pe_cmpR (o_neOwnV nfS nfT WI.hm hnW hsE hfE FE (hr.mono (by decide)) bE pass0) (pv 5) (pe_callTy (c_strOwn hsT hfT FSt (hr.mono (by decide)) bSt pass0) (by rfl) T.str (by decide +kernel) (pa_cons (pv 5) pa_nil)) (nomark _)))))))))))))), ?_⟩
    refine ⟨.ref a, rfl, a, ns, rfl, hS, fun f l H1 s1 nf hf1 => ?_⟩
    refine ⟨.ref f, rfl, f, l, 4, 4, rfl, hf1, by decide, by decide, by decide, fun t rows n H2 sb2 hf2 hT O m2 l2 => ?_⟩
    clear hf1 sb2 s1 hS hlen
    have n1 := O.n1
    have n4 := O.n4
    have ln := O.len
    have l4 := O.len4
    obtain ⟨as, b0, e1, e2, e3⟩ := hT.row (show 0 < rows.length by omega)
    refine ⟨.ref t, rfl, t, _, 0, .ref b0, rfl, rfl, SqT.of e1, atI_nat (j := 0) e2, b0, _, rfl, .inr (SqT.of e3), ?_⟩
    rw [List.length_map, row_len O.wide (show 0 < rows.length by omega)]
    refine ⟨.ref t, rfl, t, _, rfl, .inr (SqT.of e1), ?_⟩
    have las : as.length = rows.length := by
      obtain ⟨as', k1, k2, _⟩ := hT
      rw [e1] at k1
      have := congrArg List.length (HO.tup.inj (Option.some.inj k1))
      rw [List.length_map, List.length_map] at this
      omega
    rw [List.length_map, las]
    refine ⟨by show 2 ≤ sizeLine; decide, fun pr epr => ⟨pr, _, rfl, SqT.of upd_same, rfl, _, _, rfl, _, _, rfl, rfl, ?_⟩⟩
    have spr := same_upd (o := .tup [.int n, .int (rows.length : Nat)]) epr
    have hf3 := hf2.same spr
    have hT3 := hT.same spr
    generalize upd H2 pr (.tup [.int n, .int (rows.length : Nat)]) = H3 at hf3 hT3
    clear hf2 hT e1 e2 e3 epr spr las
    -- a web
    refine ⟨.ref t, rfl, rfl, rfl, fun wx dx0 wx0 dx00 nxd => ?_⟩
    have sm := made_same (C := C) wx0 dx00 nxd
    refine ⟨wx, dx0, t, rows, n, rfl, upd_same, hT3.same sm, O, fun H4 sb4 hW4 => ⟨rfl, ?_⟩⟩
    have s4 := sb4.same wx0 sm
    have W4 : Ws C CS f l t wx rows n H4 := ⟨hf3.same s4, hT3.same s4, hW4⟩
    clear hf3 hT3 sm wx0 dx00 nxd sb4 hW4 s4
    have lw : (wb0 rows n).sums.length = rows.length := by
      show (lettersL rows.length).length = _
      unfold lettersL
      rw [List.length_map, List.length_range]
    have l0 : 0 < (wb0 rows n).rows.length := by show 0 < rows.length; omega
    have hw : ∀ r ∈ (wb0 rows n).rows, r.length = n := O.wide
    have uw : ∀ r ∈ unitL n, r.length ≤ 1000 := fun r hr => by
      obtain ⟨k, _, rfl⟩ := List.mem_map.mp hr
      rw [byL_len]
      omega
    have ul : (unitL n).length ≤ 1000 := by
      unfold unitL
      rw [List.length_map, List.length_range]
      omega
    refine ⟨2, rfl, by omega, by omega, for_range (fun i σ H' => ∃ (y6 y7 y8 y9 y10 : Option V), σ = [some (.ref a), some (.ref f), some (.ref t), some (.int n), some (.int (rows.length : Nat)), some (.ref wx), y6, y7, y8, y9, y10, none, none] ∧ Ws C CS f l t wx rows n H') ⟨_, _, _, _, _, rfl, W4⟩ ?_ ?_⟩
    · rintro i σ H5 hi ⟨y6, y7, y8, y9, y10, rfl, W5⟩
      clear W4
      -- what is due
      refine ⟨.ref t, rfl, .int n, rfl, n, rfl, by omega, by omega, fun D1 eD1 => ?_⟩
      refine lc_range (fun j H' => Acc H5 H' D1 (fun k => byL n (k : Int) 1) j) Acc.zero ?_ ?_
      · rintro j H6 hj hA
        have hj : j < n := hj
        have e0 : (0 : Int) + (j : Int) = (j : Int) := by omega
        rw [e0]
        exact ⟨rfl, .int n, rfl, .int j, rfl, n, j, rfl, by omega, fun b H7 s7 hb => hA.next s7 hb (by omega)⟩
      rintro H6 hA
      have hA : Acc H5 H6 D1 (fun k => byL n (k : Int) 1) n := hA
      obtain ⟨ts1, eT1, hR1⟩ := hA.get
      have s6 : Same H5 H6 := fun b o e => hA.stay eD1 e
      have W6 := W5.same s6
      clear hA eD1 s6 W5
      refine ⟨.int n, rfl, n, rfl, by omega, by omega, fun D2 eD2 => ?_⟩
      refine lc_range (fun j H' => Acc H6 H' D2 (fun k => byL n (k : Int) 1) j) Acc.zero ?_ ?_
      · rintro j H7 hj hA
        have hj : j < n := hj
        have e0 : (0 : Int) + (j : Int) = (j : Int) := by omega
        rw [e0]
        exact ⟨rfl, .int n, rfl, .int j, rfl, n, j, rfl, by omega, fun b H8 s8 hb => hA.next s8 hb (by omega)⟩
      rintro H7 hA
      have hA : Acc H6 H7 D2 (fun k => byL n (k : Int) 1) n := hA
      obtain ⟨ts2, eT2, hR2⟩ := hA.get
      have s7 : Same H6 H7 := fun b o e => hA.stay eD2 e
      have W7 := W6.same s7
      have eT1 := s7 _ _ eT1
      have hR1 := hR1.same s7
      clear hA eD2 s7 W6
      refine ⟨Nat.zero_le _, fun p1 ep1 => ⟨Nat.zero_le _, fun p2 ep2 => ⟨.int (rows.length : Nat), rfl, by show 6 ≤ sizeLine; decide, fun Du eDu => ?_⟩⟩⟩
      have s8 := same_upd (o := .lst []) ep1
      have s9 := same_upd (o := .lst []) ep2
      have s10 := same_upd (o := .lst [.ref t, .ref D1, .ref D2, .ref p1, .ref p2, .int (rows.length : Nat)]) eDu
      have sA := (s8.trans s9).trans s10
      have W10 := W7.same sA
      have eT1 := sA _ _ eT1
      have hR1 := hR1.same sA
      have eT2 := sA _ _ eT2
      have hR2 := hR2.same sA
      have e1' := (s9.trans s10) _ _ (upd_same (H := H7) (a := p1) (o := .lst []))
      have e2' := s10 _ _ (upd_same (H := upd H7 p1 (.lst [])) (a := p2) (o := .lst []))
      have eDu' := upd_same (H := upd (upd H7 p1 (.lst [])) p2 (.lst [])) (a := Du) (o := .lst [.ref t, .ref D1, .ref D2, .ref p1, .ref p2, .int (rows.length : Nat)])
      show tSeq _ _ _ _ (upd (upd (upd H7 p1 (.lst [])) p2 (.lst [])) Du (.lst [.ref t, .ref D1, .ref D2, .ref p1, .ref p2, .int (rows.length : Nat)]))
      generalize upd (upd (upd H7 p1 (.lst [])) p2 (.lst [])) Du (.lst [.ref t, .ref D1, .ref D2, .ref p1, .ref p2, .int (rows.length : Nat)]) = H10 at W10 eT1 hR1 eT2 hR2 e1' e2' eDu'
      clear s8 s9 s10 sA ep1 ep2 eDu W7
      -- what is found
      obtain ⟨dx, fs, h1, hfs⟩ := W10.web.ins
      refine ⟨.ref wx, rfl, wx, dx, _, rfl, h1, hfs "table" (by decide) (by decide) (by decide) (by decide), wx, _, rfl, W10.web, fun a2 ha2 => ?_⟩
      have ha2 : TabAt H10 a2 rows := ha2
      refine ⟨.ref wx, rfl, wx, dx, _, rfl, h1, hfs "hues" (by decide) (by decide) (by decide) (by decide), wx, _, rfl, W10.web, fun L1 u1 H11 s11 n11 e11 r11 => ?_⟩
      have W11 := W10.same s11
      obtain ⟨dx, fs, h1, hfs⟩ := W11.web.ins
      refine ⟨.ref wx, rfl, wx, dx, _, rfl, h1, hfs "leans" (by decide) (by decide) (by decide) (by decide), wx, _, rfl, W11.web, fun L2 u2 H12 s12 n12 e12 r12 => ?_⟩
      have W12 := W11.same s12
      obtain ⟨dx, fs, h1, hfs⟩ := W12.web.ins
      refine ⟨.ref wx, rfl, wx, dx, _, rfl, h1, hfs "done" (by decide) (by decide) (by decide) (by decide), wx, _, rfl, W12.web, fun L3 H13 s13 n13 e13 => ?_⟩
      have W13 := W12.same s13
      obtain ⟨dx, fs, h1, hfs⟩ := W13.web.ins
      refine ⟨.ref wx, rfl, wx, dx, _, rfl, h1, hfs "held" (by decide) (by decide) (by decide) (by decide), wx, _, rfl, W13.web, fun L4 H14 s14 n14 e14 => ?_⟩
      have W14 := W13.same s14
      obtain ⟨dx, fs, h1, hfs⟩ := W14.web.ins
      refine ⟨.ref wx, rfl, wx, dx, _, rfl, h1, hfs "places" (by decide) (by decide) (by decide) (by decide), wx, wb0 rows n, rfl, W14.web, ?_⟩
      rw [lw]
      refine ⟨by show 6 ≤ sizeLine; decide, fun Fo eFo => ?_⟩
      have s15 := same_upd (o := .lst [.ref a2, .ref L1, .ref L2, .ref L3, .ref L4, .int (rows.length : Nat)]) eFo
      have W15 := W14.same s15
      have sB := (((s11.trans s12).trans s13).trans s14).trans s15
      refine ⟨.ref Fo, rfl, .ref Du, rfl, _, _, rfl, ?_, fun H16 s16 => ⟨true, rfl, iteF ?_⟩⟩
      · refine .inr (.inr ⟨Fo, Du, _, _, rfl, rfl, upd_same, sB _ _ eDu', rfl, by show 6 ≤ 1000; decide, fun j u v g1 g2 => ?_⟩)
        have sC := ((s12.trans s13).trans s14).trans s15
        have sD := (s13.trans s14).trans s15
        match j, g1, g2 with
        | 0, g1, g2 =>
          cases (Option.some.inj g1)
          cases (Option.some.inj g2)
          exact al_tab (ha2.same sB) W15.tab (by omega) (fun r hr => by have := O.wide r hr; omega)
        | 1, g1, g2 =>
          cases (Option.some.inj g1)
          cases (Option.some.inj g2)
          have r11 : RefsAt H11 u1 (unitL n) := by rw [unitL_u]; exact r11
          exact al_rows (sC _ _ e11) (sB _ _ eT1) (r11.same sC) (hR1.same sB) ul uw
        | 2, g1, g2 =>
          cases (Option.some.inj g1)
          cases (Option.some.inj g2)
          have r12 : RefsAt H12 u2 (unitL n) := by rw [unitL_u]; exact r12
          exact al_rows (sD _ _ e12) (sB _ _ eT2) (r12.same sD) (hR2.same sB) ul uw
        | 3, g1, g2 =>
          cases (Option.some.inj g1)
          cases (Option.some.inj g2)
          exact al_nil ((s14.trans s15) _ _ e13) (sB _ _ e1')
        | 4, g1, g2 =>
          cases (Option.some.inj g1)
          cases (Option.some.inj g2)
          exact al_nil (s15 _ _ e14) (sB _ _ e2')
        | 5, g1, g2 =>
          cases (Option.some.inj g1)
          cases (Option.some.inj g2)
          exact .inl ⟨rfl, .inl ⟨_, rfl⟩⟩
        | j + 6, g1, g2 => simp at g1
      have W16 := W15.same s16
      clear W10 W11 W12 W13 W14 W15 eT1 hR1 eT2 hR2 e1' e2' eDu' ha2 s11 e11 r11 s12 e12 r12 s13 e13 s14 e14 s15 sB eFo s16 h1 hfs n11 n12 n13 n14
      -- weights
      obtain ⟨dx, fs, h1, hfs⟩ := W16.web.ins
      refine ⟨.ref wx, rfl, wx, dx, _, rfl, h1, hfs "weights" (by decide) (by decide) (by decide) (by decide), wx, wb0 rows n, n, rfl, W16.web, O, fun w1 V1 H17 s17 e17 wt1 => ?_⟩
      have W17 := W16.same s17
      refine ⟨.ref t, rfl, t, rows, n, rfl, W17.tab, O, fun w2 V2 H18 s18 e18 wt2 => ?_⟩
      refine ⟨_, _, rfl, ?_, fun H19 s19 => ⟨true, rfl, iteF ?_⟩⟩
      · refine .inr (.inl ⟨w1, w2, _, _, rfl, rfl, s18 _ _ e17, e18, by rw [List.length_map, List.length_map], by rw [List.length_map, List.length_range]; omega, fun j u v g1 g2 => .inl ?_⟩)
        rw [List.getElem?_map] at g1 g2
        obtain ⟨i1, f1, rfl⟩ := Option.map_eq_some_iff.mp g1
        obtain ⟨i2, f2, rfl⟩ := Option.map_eq_some_iff.mp g2
        rw [f1] at f2
        cases f2
        rw [wt1.uniq wt2 i1 (List.mem_range.mp (List.mem_of_getElem? f1))]
        exact ⟨rfl, .inl ⟨_, rfl⟩⟩
      have W19 := (W17.same s18).same s19
      clear W16 W17 s17 e17 s18 e18 s19 h1 hfs wt1 wt2
      -- how many
      obtain ⟨dx, fs, h1, hfs⟩ := W19.web.ins
      refine ⟨.ref wx, rfl, wx, dx, _, rfl, h1, hfs "buds" (by decide) (by decide) (by decide) (by decide), wx, wb0 rows n, n, rfl, W19.web, l0, hw, by omega, fun L ss H20 s20 n20 e20 S20 => ⟨L, _, rfl, .inl (SqL.of e20), .int n, rfl, rfl, _, rfl, ?_⟩⟩
      have lss : ((ss.map V.ref).length : Int) = (n : Int) := by
        rw [List.length_map, S20.1, List.length_take, lw]
        omega
      rw [lss, decide_eq_true rfl]
      have W20 := W19.same s20
      clear W19 s20 n20 e20 S20 lss h1 hfs
      obtain ⟨dx, fs, h1, hfs⟩ := W20.web.ins
      refine iteF ⟨.ref wx, rfl, wx, dx, _, rfl, h1, wx, wb0 rows n, n, rfl, W20.web, l0, hw, n, rfl, Int.natCast_nonneg _, by omega, .int n, rfl, _, _, rfl, .inl ⟨rfl, .inl ⟨_, rfl⟩⟩, fun H21 s21 => ⟨true, rfl, iteF ?_⟩⟩
      have W21 := W20.same s21
      refine ⟨.ref wx, rfl, wx, dx, _, rfl, s21 _ _ h1, wx, wb0 rows n, n, rfl, W21.web, l0, hw, n, rfl, Int.natCast_nonneg _, by omega, ?_⟩
      have nz : ((n : Int) != 0) = true := by
        simp
        omega
      rw [nz]
      refine iteF ?_
      clear W20 s21 h1 hfs
      -- each sum
      refine ⟨.int (rows.length : Nat), rfl, rows.length, rfl, by omega, by omega, for_range (fun i σ H' => ∃ (y9 : Option V), σ = [some (.ref a), some (.ref f), some (.ref t), some (.int n), some (.int (rows.length : Nat)), some (.ref wx), _, _, _, y9, y10, none, none] ∧ Ws C CS f l t wx rows n H') ⟨_, rfl, W21⟩ ?_ ?_⟩
      · rintro k σ H22 hk ⟨y9', rfl, W22⟩
        have hk : k < rows.length := hk
        have e0 : (0 : Int) + (k : Int) = (k : Int) := by omega
        rw [e0]
        clear W21
        have er0 : (wb0 rows n).sums[k]? = some [(byL rows.length (k : Int) 1, 1)] := by
          show (lettersL rows.length)[k]? = _
          unfold lettersL
          rw [List.getElem?_map, List.getElem?_range hk]
          rfl
        obtain ⟨dx, fs, h1, hfs⟩ := W22.web.ins
        refine ⟨.ref wx, rfl, wx, dx, _, rfl, h1, hfs "bud" (by decide) (by decide) (by decide) (by decide), .int k, rfl, wx, wb0 rows n, k, rfl, W22.web, fun c r z0 er hc => ?_, fun z => absurd ⟨by omega, by rw [lw]; omega⟩ z⟩
        rw [Int.toNat_natCast, er0] at er
        cases (Option.some.inj er)
        refine ⟨.int (rows.length : Nat), rfl, ?_⟩
        intro p ep
        have sp := same_upd (o := .dT []) ep
        refine ⟨.int (rows.length : Nat), rfl, .int k, rfl, rows.length, k, rfl, by omega, fun b H23 s23 hb => ?_⟩
        have ep3 := s23 _ _ (upd_same (H := H22) (a := p) (o := .dT []))
        have nbp : b ≠ p := fun z => by
          rw [z, ep3] at hb
          cases hb
        refine ⟨ep3, b, (byL rows.length (k : Int) 1).map Sum.inl, rfl, by rw [hb, List.map_map]; rfl, ?_⟩
        have s22 := sp.trans s23
        have sE : Same H22 (upd H23 p (.dT [((byL rows.length (k : Int) 1).map Sum.inl, .int 1)])) := Same.updN s22 ep
        refine ⟨c, p, rows.length, 1, [(byL rows.length (k : Int) 1, 1)], [(byL rows.length (k : Int) 1, 1)], Lf [(byL rows.length (k : Int) 1, 1)], rfl, hc.same sE, by omega, by unfold BkAt; rw [upd_same]; rfl, cn_one _ (by decide), ⟨by unfold NdB; simp, fun a ha => by rw [List.mem_singleton.mp ha]; exact ⟨byL_len _ _ _, by show (1 : Int).natAbs ≤ 1; decide⟩, fun a ha => by rw [List.mem_singleton.mp ha]; show (1 : Int) ≠ 0; decide, fun φ => rfl⟩, by show 1 ≤ 1000; decide, fun H24 s24 => ⟨true, rfl, iteF ?_⟩⟩
        have W24 := (W22.same sE).same s24
        clear W22 h1 hfs sp s23 hb ep3 nbp s22 sE s24 hc er
        refine ⟨.int k, rfl, .int n, rfl, _, _, rfl, rfl, _, rfl, ite2 (fun g => ?_) (fun g => iteF ⟨_, rfl, W24⟩)⟩
        have hkn : k < n := by
          have := of_decide_eq_true g
          omega
        obtain ⟨dx, fs, h1, hfs⟩ := W24.web.ins
        refine ⟨.ref wx, rfl, wx, dx, _, rfl, h1, hfs "buds" (by decide) (by decide) (by decide) (by decide), wx, wb0 rows n, n, rfl, W24.web, l0, hw, by omega, fun L ss H25 s25 n25 e25 S25 => ?_⟩
        have W25 := W24.same s25
        obtain ⟨c1, ec1, hc1⟩ := S25.2 k [(byL rows.length (k : Int) 1, 1)] (by rw [List.getElem?_take, if_pos hkn]; exact er0)
        obtain ⟨dx, fs, h1, hfs⟩ := W25.web.ins
        refine ⟨.int k, rfl, L, _, k, .ref c1, rfl, rfl, SqL.of e25, atI_nat (by rw [List.getElem?_map, ec1]; rfl), .ref wx, rfl, wx, dx, _, rfl, h1, hfs "bud" (by decide) (by decide) (by decide) (by decide), .int k, rfl, wx, wb0 rows n, k, rfl, W25.web, fun c2 r2 z0 er2 hc2 => ?_, fun z => absurd ⟨by omega, by rw [lw]; omega⟩ z⟩
        rw [Int.toNat_natCast, er0] at er2
        cases (Option.some.inj er2)
        obtain ⟨d1, p1, us1, k1, _⟩ := id hc1
        obtain ⟨d2, p2, us2, k2, _⟩ := id hc2
        refine ⟨c1, d1, _, c2, d2, _, rfl, rfl, k1, k2, c1, c2, _, _, _, _, rfl, hc1, hc2, _, rfl, _, rfl, ?_⟩
        rw [decide_eq_true ⟨rfl, rfl⟩]
        exact iteF ⟨_, rfl, W25⟩
      · rintro σ H22 ⟨y9', rfl, W22⟩
        clear W21
        -- told lists, spoiled
        obtain ⟨dx, fs, h1, hfs⟩ := W22.web.ins
        refine ⟨.ref wx, rfl, wx, dx, _, rfl, h1, hfs "hues" (by decide) (by decide) (by decide) (by decide), wx, wb0 rows n, rfl, W22.web, fun L1 u1 H23 s23 n1' e23 r23 => ?_⟩
        have W23 := W22.same s23
        obtain ⟨dx, fs, h1, hfs⟩ := W23.web.ins
        refine ⟨.ref wx, rfl, wx, dx, _, rfl, h1, hfs "leans" (by decide) (by decide) (by decide) (by decide), wx, wb0 rows n, rfl, W23.web, fun L2 u2 H24 s24 n2' e24 r24 => ?_⟩
        have W24 := W23.same s24
        obtain ⟨dx, fs, h1, hfs⟩ := W24.web.ins
        refine ⟨.ref wx, rfl, wx, dx, _, rfl, h1, hfs "done" (by decide) (by decide) (by decide) (by decide), wx, wb0 rows n, rfl, W24.web, fun L3 H25 s25 n3' e25 => ?_⟩
        have W25 := W24.same s25
        obtain ⟨dx, fs, h1, hfs⟩ := W25.web.ins
        refine ⟨.ref wx, rfl, wx, dx, _, rfl, h1, hfs "held" (by decide) (by decide) (by decide) (by decide), wx, wb0 rows n, rfl, W25.web, fun L4 H26 s26 n4' e26 => ?_⟩
        have W26 := W25.same s26
        obtain ⟨dx, fs, h1, hfs⟩ := W26.web.ins
        refine ⟨.ref wx, rfl, wx, dx, _, rfl, h1, hfs "buds" (by decide) (by decide) (by decide) (by decide), wx, wb0 rows n, n, rfl, W26.web, l0, hw, by omega, fun L5 u5 H27 s27 n5' e27 S27 => ?_⟩
        have W27 := W26.same s27
        refine ⟨by show 5 ≤ sizeLine; decide, fun LL eLL => ?_⟩
        have s28 := same_upd (o := .lst ([L1, L2, L3, L4, L5].map V.ref)) eLL
        have W28 := W27.same s28
        have nu : ∀ {H' : Hp} {x : Addr} {o : HO}, H' x = some o → Same H' H27 → x ≠ LL := fun e ss => ne_of_none (ss _ _ e) eLL
        have T28 : ∀ L ∈ [L1, L2, L3, L4, L5], L ≠ f ∧ L ≠ l ∧ L ≠ LL ∧ ∃ xs, (upd H27 LL (.lst ([L1, L2, L3, L4, L5].map V.ref))) L = some (.lst xs) ∧ xs.length ≤ 100 + 0 := fun L hL => by
          have ul4 : (uRows n).length ≤ 100 := by
            rw [← unitL_u]
            unfold unitL
            rw [List.length_map, List.length_range]
            omega
          have b1 : (u1.map V.ref).length ≤ 100 + 0 := by rw [List.length_map, r23.1]; exact ul4
          have b2 : (u2.map V.ref).length ≤ 100 + 0 := by rw [List.length_map, r24.1]; exact ul4
          have b5 : (u5.map V.ref).length ≤ 100 + 0 := by rw [List.length_map, S27.1, List.length_take]; omega
          simp only [List.mem_cons, List.not_mem_nil, or_false] at hL
          rcases hL with rfl | rfl | rfl | rfl | rfl
          · exact ⟨W22.feed.ne n1', W22.feed.ne2 n1', nu e23 (((s24.trans s25).trans s26).trans s27), _, ((((s24.trans s25).trans s26).trans s27).trans s28) _ _ e23, b1⟩
          · exact ⟨W23.feed.ne n2', W23.feed.ne2 n2', nu e24 ((s25.trans s26).trans s27), _, (((s25.trans s26).trans s27).trans s28) _ _ e24, b2⟩
          · exact ⟨W24.feed.ne n3', W24.feed.ne2 n3', nu e25 (s26.trans s27), _, ((s26.trans s27).trans s28) _ _ e25, by show 0 ≤ 100 + 0; omega⟩
          · exact ⟨W25.feed.ne n4', W25.feed.ne2 n4', nu e26 s27, _, (s27.trans s28) _ _ e26, by show 0 ≤ 100 + 0; omega⟩
          · exact ⟨W26.feed.ne n5', W26.feed.ne2 n5', nu e27 (.refl _), _, s28 _ _ e27, b5⟩
        have eLL' : (upd H27 LL (.lst ([L1, L2, L3, L4, L5].map V.ref))) LL = some (.lst ([L1, L2, L3, L4, L5].map V.ref)) := upd_same
        show ∃ a_1, V.ref LL = V.ref a_1 ∧ _
        have l5 : [L1, L2, L3, L4, L5].length = 5 := rfl
        have eh : H27 = H27 := rfl
        refine ⟨LL, rfl, ⟨_, SqL.of eLL'⟩, ?_⟩
        clear W22 W23 W24 W25 W26 W27 s23 s24 s25 s26 s27 s28 e23 e24 e25 e26 e27 r23 r24 S27 n1' n2' n3' n4' n5' h1 hfs nu eh
        refine for_it (walk_list (K := K) (a := LL) (xs := [L1, L2, L3, L4, L5].map V.ref)) (fun i σ H' => ∃ (y10 : Option V), σ = [some (.ref a), some (.ref f), some (.ref t), some (.int n), some (.int (rows.length : Nat)), some (.ref wx), _, _, _, y9', y10, none, none] ∧ Ws C CS f l t wx rows n H' ∧ i ≤ 5 ∧ (∀ L ∈ [L1, L2, L3, L4, L5], L ≠ f ∧ L ≠ l ∧ L ≠ LL ∧ ∃ xs, H' L = some (.lst xs) ∧ xs.length ≤ 100 + i) ∧ H' LL = some (.lst ([L1, L2, L3, L4, L5].map V.ref))) ⟨_, rfl, W28, by omega, T28, eLL'⟩ (fun i σ H' _ ⟨_, _, _, _, _, e⟩ => SqL.of e) ?_ ?_
        · rintro i x σ H29 H29' hi ⟨y10', rfl, W29, i5, T29, e29⟩ ⟨rfl, hx⟩
          have hi : i < 5 := hi
          obtain ⟨L, eL, rfl⟩ := ref_at hx
          obtain ⟨nLf, nLl, nLL, xs, eX, lX⟩ := T29 L (List.mem_of_getElem? eL)
          refine ⟨.ref L, rfl, .inl ⟨rfl, _, SqL.of eX⟩, L, xs, _, rfl, rfl, eX, Nat.lt_of_le_of_lt (show xs.length ≤ 1000 by omega) (by decide), ?_⟩
          refine ⟨.ref L, rfl, .inl ⟨rfl, _, SqL.of upd_same⟩, L, _, rfl, rfl, upd_same, ?_⟩
          rw [upd_upd]
          have kt : KpT H29' (upd H29' L (.lst (xs ++ [V.int 3]).reverse)) := KpT.put eX
          refine ⟨_, rfl, ⟨W29.feed.put nLf nLl, W29.tab.kt kt, W29.web.kt kt⟩, by omega, fun L' hL' => ?_, by rw [upd_ne (Ne.symm nLL)]; exact e29⟩
          obtain ⟨m1, m2, m3, ys, eY, lY⟩ := T29 L' hL'
          refine ⟨m1, m2, m3, ?_⟩
          by_cases z : L' = L
          · rw [z]
            exact ⟨_, upd_same, by rw [List.length_reverse, List.length_append]; show xs.length + 1 ≤ _; omega⟩
          · exact ⟨ys, by rw [upd_ne z]; exact eY, by omega⟩
        · rintro σ H29 ⟨y10', rfl, W29, _⟩
          exact ⟨_, _, _, _, _, rfl, W29⟩
    · rintro σ H5 ⟨y6, y7, y8, y9, y10, rfl, W5⟩
      clear W4
      have g1 : ((n : Int)).natAbs.log2 < 1920 := Nat.lt_trans (tx1000 (n := n) (by omega)).1 (by decide)
      have e2 : ((rows.length : Nat) : Int) - n = ((rows.length - n : Nat) : Int) := by omega
      have g2 : (((rows.length : Nat) : Int) - n).natAbs.log2 < 1920 := by
        rw [e2]
        exact Nat.lt_trans (tx1000 (n := rows.length - n) (by omega)).1 (by decide)
      have t1 := (tx1000 (n := n) (by omega)).2
      have t2 := (tx1000 (n := rows.length - n) (by omega)).2
      rw [← e2] at t2
      have el : ∀ a b : Str, (a ++ b).length = a.length + b.length := fun a b => Str.length_append a b
      have k2 : (("Web(" : Str)).length = 4 := by decide
      have k3 : ((" buds, " : Str)).length = 7 := by decide
      have k4 : ((" roots)" : Str)).length = 7 := by decide
      have wr : WrT rows := ⟨by omega, fun r hr => ⟨by rw [O.wide r hr]; omega, fun z hz => by have := O.tie r hr z hz; omega⟩⟩
      refine ⟨.int n, rfl, n, rfl, g1, _, _, rfl, rfl, ?_, _, _, rfl, rfl, ?_, .int (rows.length : Nat), rfl, .int n, rfl, _, _, rfl, rfl, _, rfl, g2, _, _, rfl, rfl, ?_, _, _, rfl, rfl, ?_, ?_⟩
      · exact Nat.le_trans (m := 1000) (by rw [k2]; omega) (by decide)
      · exact Nat.le_trans (m := 1000) (by rw [el, k2, k3]; omega) (by decide)
      · exact Nat.le_trans (m := 1000) (by rw [el, el, k2, k3]; omega) (by decide)
      · exact Nat.le_trans (m := 1000) (by rw [el, el, el, k2, k3, k4]; omega) (by decide)
      refine ⟨.ref t, rfl, t, rows, rfl, W5.tab, wr, fun H6 s6 => ⟨by show 2 ≤ sizeLine; decide, fun TX eTX => ?_⟩⟩
      have W6 := (W5.same s6).same (same_upd (o := .lst [.str (Str.ofString "Web(" ++ Str.ofString (toString (n : Int)) ++ Str.ofString " buds, " ++ Str.ofString (toString (((rows.length : Nat) : Int) - n)) ++ Str.ofString " roots)"), .str (rowsT rows)]) eTX)
      have e6 := upd_same (H := H6) (a := TX) (o := .lst [.str (Str.ofString "Web(" ++ Str.ofString (toString (n : Int)) ++ Str.ofString " buds, " ++ Str.ofString (toString (((rows.length : Nat) : Int) - n)) ++ Str.ofString " roots)"), .str (rowsT rows)])
      show tSeq _ _ _ _ (upd H6 TX (.lst [.str (Str.ofString "Web(" ++ Str.ofString (toString (n : Int)) ++ Str.ofString " buds, " ++ Str.ofString (toString (((rows.length : Nat) : Int) - n)) ++ Str.ofString " roots)"), .str (rowsT rows)]))
      generalize upd H6 TX (.lst [.str (Str.ofString "Web(" ++ Str.ofString (toString (n : Int)) ++ Str.ofString " buds, " ++ Str.ofString (toString (((rows.length : Nat) : Int) - n)) ++ Str.ofString " roots)"), .str (rowsT rows)]) = H7 at W6 e6
      clear W5 s6 eTX
      obtain ⟨dx, fs, h1, hfs⟩ := W6.web.ins
      refine ⟨.ref wx, rfl, wx, dx, _, rfl, h1, wx, wb0 rows n, n, rfl, W6.web, l0, hw, by omega, by rw [lw]; omega, by rw [lw]; omega, _, rfl, .ref wx, rfl, wx, dx, _, rfl, h1, wx, wb0 rows n, rfl, W6.web, wr, fun H8 s8 => ⟨_, rfl, by show 2 ≤ sizeLine; decide, fun R1 eR1 => ?_⟩⟩
      have W8 := W6.same s8
      have wT : wreprT n (wb0 rows n).sums.length = Str.ofString "Web(" ++ Str.ofString (toString (n : Int)) ++ Str.ofString " buds, " ++ Str.ofString (toString (((rows.length : Nat) : Int) - n)) ++ Str.ofString " roots)" := by
        rw [lw]
        unfold wreprT
        rw [em]
      refine ⟨.ref TX, rfl, _, _, rfl, ?_, fun H10 s10 => ⟨true, rfl, iteF ?_⟩⟩
      · refine .inr (.inr ⟨R1, TX, _, _, rfl, rfl, upd_same, same_upd eR1 _ _ (s8 _ _ e6), (show (2 : Nat) = 2 from rfl), by show 2 ≤ 1000; decide, fun j u v g1 g2 => ?_⟩)
        match j, g1, g2 with
        | 0, g1, g2 =>
          cases (Option.some.inj g1)
          cases (Option.some.inj g2)
          exact .inl ⟨congrArg V.str wT, .inr (.inl ⟨_, rfl⟩)⟩
        | 1, g1, g2 =>
          cases (Option.some.inj g1)
          cases (Option.some.inj g2)
          exact .inl ⟨rfl, .inr (.inl ⟨_, rfl⟩)⟩
        | j + 2, g1, g2 => simp at g1
      have W10 := (W8.same (same_upd eR1)).same s10
      clear W6 W8 s8 s10 e6 h1 hfs eR1 wT
      -- no bud
      refine ⟨.ref f, rfl, .ref wx, rfl, .int (rows.length : Nat), rfl, f, l, wx, wb0 rows n, by rw [lw]; rfl, W10.feed, W10.web, fun H11 sb11 hf11 => ⟨true, rfl, iteF ?_⟩⟩
      have W11 := W10.but sb11 hf11
      clear W10 sb11 hf11
      -- another table
      refine ⟨.ref f, rfl, f, l, 4, 4, rfl, W11.feed, by decide, by decide, by decide, fun t2 rows2 n2 H12 sb12 hf12 hT2 O2 m3 l3 => ?_⟩
      have W12 := W11.but sb12 hf12
      clear W11 sb12 hf12
      -- alike
      obtain ⟨dx, fs, h1, hfs⟩ := W12.web.ins
      refine ⟨.ref wx, rfl, .ref t, rfl, fun w2 d2 w20 d20 nwd => ?_⟩
      have sm := made_same (C := C) w20 d20 nwd
      refine ⟨w2, d2, t, rows, n, rfl, upd_same, W12.tab.same sm, O, fun H13 sb13 hW13 => ⟨rfl, ?_⟩⟩
      have s13 := sb13.same w20 sm
      have W13 := W12.same s13
      have hT2 := hT2.same s13
      obtain ⟨dy, gs, k1, kfs⟩ := hW13.ins
      obtain ⟨dx, fs, h1, hfs⟩ := W13.web.ins
      clear W12 sb13 s13 sm w20 d20 nwd
      refine ⟨wx, dx, _, w2, dy, _, rfl, rfl, h1, k1, wx, wb0 rows n, W13.web, .inr ⟨w2, wb0 rows n, rfl, hW13, fun _ => ⟨rfl, rfl⟩, fun H14 s14 => ⟨_, rfl, _, rfl, ?_⟩⟩⟩
      rw [decide_eq_true rfl]
      have W14 := W13.same s14
      have hT2 := hT2.same s14
      clear W13 h1 k1 hfs kfs hW13 s14
      refine iteT ⟨.ref wx, rfl, .ref t2, rfl, fun w3 d3 w30 d30 nwd => ?_⟩
      have sm := made_same (C := C) w30 d30 nwd
      refine ⟨w3, d3, t2, rows2, n2, rfl, upd_same, hT2.same sm, O2, fun H15 sb15 hW15 => ⟨rfl, ?_⟩⟩
      have s15 := sb15.same w30 sm
      have W15 := W14.same s15
      have hT2 := hT2.same s15
      obtain ⟨dy, gs, k1, kfs⟩ := hW15.ins
      obtain ⟨dx, fs, h1, hfs⟩ := W15.web.ins
      clear W14 sb15 s15 sm w30 d30 nwd
      refine ⟨wx, dx, _, w3, dy, _, rfl, rfl, h1, k1, wx, wb0 rows n, W15.web, .inr ⟨w3, wb0 rows2 n2, rfl, hW15, fun e => ?_, fun H16 s16 => ⟨_, rfl, ?_⟩⟩⟩
      · have e : rows = rows2 := e
        subst e
        exact ⟨rfl, rfl⟩
      have W16 := W15.same s16
      have hT2 := hT2.same s16
      clear W15 h1 k1 hfs kfs hW15 s16
      refine ⟨.ref t, rfl, .ref t2, rfl, tabD rows, tabD rows2, W16.tab.dp, hT2.dp, shaped_tab _, shaped_tab _, ?_⟩
      rw [tabD_eqv]
      refine ⟨rfl, _, rfl, ?_⟩
      have ed : decide (V.bl (if false = true then !decide ((wb0 rows n).rows = (wb0 rows2 n2).rows) else decide ((wb0 rows n).rows = (wb0 rows2 n2).rows)) = V.bl (decide (rows = rows2))) = true := decide_eq_true rfl
      rw [ed]
      obtain ⟨dx, fs, h1, hfs⟩ := W16.web.ins
      obtain ⟨xs, hx, _⟩ := id W16.tab
      refine iteT ⟨.ref wx, rfl, .ref t, rfl, wx, dx, _, rfl, h1, .inr ⟨t, _, rfl, hx⟩, wx, wb0 rows n, W16.web, .inl ⟨.ref t, rfl, .inr ⟨t, _, rfl, hx⟩, false, rfl, true, rfl, iteF ?_⟩⟩
      refine ⟨.ref wx, rfl, .ref wx, rfl, wx, dx, _, rfl, h1, wx, wb0 rows n, rfl, W16.web, wr, fun H17 s17 => ⟨_, rfl, ?_⟩⟩
      exact ⟨wx, dx, _, rfl, s17 _ _ h1, .inl ⟨_, rfl⟩, wx, wb0 rows n, (W16.same s17).web, .inl ⟨_, rfl, .inl ⟨_, rfl⟩, false, rfl, q _⟩⟩
end
end Bw
set_option Elab.async false
set_option linter.all false
set_option maxRecDepth 100000
set_option maxHeartbeats 4000000
namespace Bw
open PySem PySem.Spec PyProof.Rows L2
theorem all_mk {l : PySem.W.OpenLaw} {w : World} {K : PySem.W.Frag} {h : Heap} {mg : Str → Option Value} {fa : Addr} (X : K.In h) (G : h.Ns mainGlobals mg) (hfa : mg "law" = some (.ref fa))
    {C_BudError : Addr}
    {C_NoPlace : Addr}
    {C_Sum : Addr}
    {C_Web : Addr}
    {od_is_number an_is_number : Option Addr} {sl_is_number : Array (Option Value)} {oc_is_number kV_is_number dc_is_number pm_is_number cd_is_number ct_is_number : Value} {f_is_number : Addr}
    {od_row_text an_row_text : Option Addr} {sl_row_text : Array (Option Value)} {oc_row_text kV_row_text dc_row_text pm_row_text cd_row_text ct_row_text : Value} {f_row_text : Addr}
    {od_rows_text an_rows_text : Option Addr} {sl_rows_text : Array (Option Value)} {oc_rows_text kV_rows_text dc_rows_text pm_rows_text cd_rows_text ct_rows_text : Value} {f_rows_text : Addr}
    {od_is_row an_is_row : Option Addr} {sl_is_row : Array (Option Value)} {oc_is_row kV_is_row dc_is_row pm_is_row cd_is_row ct_is_row : Value} {f_is_row : Addr}
    {od_check_form an_check_form : Option Addr} {sl_check_form : Array (Option Value)} {oc_check_form kV_check_form dc_check_form pm_check_form cd_check_form ct_check_form : Value} {f_check_form : Addr}
    {od_check_table an_check_table : Option Addr} {sl_check_table : Array (Option Value)} {oc_check_table kV_check_table dc_check_table pm_check_table cd_check_table ct_check_table : Value} {f_check_table : Addr}
    {od_bud_count an_bud_count : Option Addr} {sl_bud_count : Array (Option Value)} {oc_bud_count kV_bud_count dc_bud_count pm_bud_count cd_bud_count ct_bud_count : Value} {f_bud_count : Addr}
    {od_unlike_rows an_unlike_rows : Option Addr} {sl_unlike_rows : Array (Option Value)} {oc_unlike_rows kV_unlike_rows dc_unlike_rows pm_unlike_rows cd_unlike_rows ct_unlike_rows : Value} {f_unlike_rows : Addr}
    {od_pair_bars an_pair_bars : Option Addr} {sl_pair_bars : Array (Option Value)} {oc_pair_bars kV_pair_bars dc_pair_bars pm_pair_bars cd_pair_bars ct_pair_bars : Value} {f_pair_bars : Addr}
    {od_ring_bars an_ring_bars : Option Addr} {sl_ring_bars : Array (Option Value)} {oc_ring_bars kV_ring_bars dc_ring_bars pm_ring_bars cd_ring_bars ct_ring_bars : Value} {f_ring_bars : Addr}
    {od_barred an_barred : Option Addr} {sl_barred : Array (Option Value)} {oc_barred kV_barred dc_barred pm_barred cd_barred ct_barred : Value} {f_barred : Addr}
    {od_common an_common : Option Addr} {sl_common : Array (Option Value)} {oc_common kV_common dc_common pm_common cd_common ct_common : Value} {f_common : Addr}
    {od_lot_weights an_lot_weights : Option Addr} {sl_lot_weights : Array (Option Value)} {oc_lot_weights kV_lot_weights dc_lot_weights pm_lot_weights cd_lot_weights ct_lot_weights : Value} {f_lot_weights : Addr}
    {od_weights an_weights : Option Addr} {sl_weights : Array (Option Value)} {oc_weights kV_weights dc_weights pm_weights cd_weights ct_weights : Value} {f_weights : Addr}
    {od_unit_rows an_unit_rows : Option Addr} {sl_unit_rows : Array (Option Value)} {oc_unit_rows kV_unit_rows dc_unit_rows pm_unit_rows cd_unit_rows ct_unit_rows : Value} {f_unit_rows : Addr}
    {od_gathered an_gathered : Option Addr} {sl_gathered : Array (Option Value)} {oc_gathered kV_gathered dc_gathered pm_gathered cd_gathered ct_gathered : Value} {f_gathered : Addr}
    {od_first_seed an_first_seed : Option Addr} {sl_first_seed : Array (Option Value)} {oc_first_seed kV_first_seed dc_first_seed pm_first_seed cd_first_seed ct_first_seed : Value} {f_first_seed : Addr}
    {od_first_sums an_first_sums : Option Addr} {sl_first_sums : Array (Option Value)} {oc_first_sums kV_first_sums dc_first_sums pm_first_sums cd_first_sums ct_first_sums : Value} {f_first_sums : Addr}
    {od_law_feed an_law_feed : Option Addr} {sl_law_feed : Array (Option Value)} {oc_law_feed kV_law_feed dc_law_feed pm_law_feed cd_law_feed ct_law_feed : Value} {f_law_feed : Addr}
    {od_law_draw an_law_draw : Option Addr} {sl_law_draw : Array (Option Value)} {oc_law_draw kV_law_draw dc_law_draw pm_law_draw cd_law_draw ct_law_draw : Value} {f_law_draw : Addr}
    {od_law_pick an_law_pick : Option Addr} {sl_law_pick : Array (Option Value)} {oc_law_pick kV_law_pick dc_law_pick pm_law_pick cd_law_pick ct_law_pick : Value} {f_law_pick : Addr}
    {od_law_same an_law_same : Option Addr} {sl_law_same : Array (Option Value)} {oc_law_same kV_law_same dc_law_same pm_law_same cd_law_same ct_law_same : Value} {f_law_same : Addr}
    {od_law_gcd an_law_gcd : Option Addr} {sl_law_gcd : Array (Option Value)} {oc_law_gcd kV_law_gcd dc_law_gcd pm_law_gcd cd_law_gcd ct_law_gcd : Value} {f_law_gcd : Addr}
    {od_law_told an_law_told : Option Addr} {sl_law_told : Array (Option Value)} {oc_law_told kV_law_told dc_law_told pm_law_told cd_law_told ct_law_told : Value} {f_law_told : Addr}
    {od_law_sum_is an_law_sum_is : Option Addr} {sl_law_sum_is : Array (Option Value)} {oc_law_sum_is kV_law_sum_is dc_law_sum_is pm_law_sum_is cd_law_sum_is ct_law_sum_is : Value} {f_law_sum_is : Addr}
    {od_law_even an_law_even : Option Addr} {sl_law_even : Array (Option Value)} {oc_law_even kV_law_even dc_law_even pm_law_even cd_law_even ct_law_even : Value} {f_law_even : Addr}
    {od_law_roots an_law_roots : Option Addr} {sl_law_roots : Array (Option Value)} {oc_law_roots kV_law_roots dc_law_roots pm_law_roots cd_law_roots ct_law_roots : Value} {f_law_roots : Addr}
    {od_law_table an_law_table : Option Addr} {sl_law_table : Array (Option Value)} {oc_law_table kV_law_table dc_law_table pm_law_table cd_law_table ct_law_table : Value} {f_law_table : Addr}
    {od_law_unit an_law_unit : Option Addr} {sl_law_unit : Array (Option Value)} {oc_law_unit kV_law_unit dc_law_unit pm_law_unit cd_law_unit ct_law_unit : Value} {f_law_unit : Addr}
    {od_law_rows_text an_law_rows_text : Option Addr} {sl_law_rows_text : Array (Option Value)} {oc_law_rows_text kV_law_rows_text dc_law_rows_text pm_law_rows_text cd_law_rows_text ct_law_rows_text : Value} {f_law_rows_text : Addr}
    {od_law_no_bud an_law_no_bud : Option Addr} {sl_law_no_bud : Array (Option Value)} {oc_law_no_bud kV_law_no_bud dc_law_no_bud pm_law_no_bud cd_law_no_bud ct_law_no_bud : Value} {f_law_no_bud : Addr}
    {od_law an_law : Option Addr} {sl_law : Array (Option Value)} {oc_law kV_law dc_law pm_law cd_law ct_law : Value} {f_law : Addr}
    {od_place_init an_place_init : Option Addr} {sl_place_init : Array (Option Value)} {oc_place_init kV_place_init dc_place_init pm_place_init cd_place_init ct_place_init : Value} {f_place_init : Addr}
    {od_w_init an_w_init : Option Addr} {sl_w_init : Array (Option Value)} {oc_w_init kV_w_init dc_w_init pm_w_init cd_w_init ct_w_init : Value} {f_w_init : Addr}
    {od_w_table an_w_table : Option Addr} {sl_w_table : Array (Option Value)} {oc_w_table kV_w_table dc_w_table pm_w_table cd_w_table ct_w_table : Value} {f_w_table : Addr}
    {od_w_weights an_w_weights : Option Addr} {sl_w_weights : Array (Option Value)} {oc_w_weights kV_w_weights dc_w_weights pm_w_weights cd_w_weights ct_w_weights : Value} {f_w_weights : Addr}
    {od_w_places an_w_places : Option Addr} {sl_w_places : Array (Option Value)} {oc_w_places kV_w_places dc_w_places pm_w_places cd_w_places ct_w_places : Value} {f_w_places : Addr}
    {od_w_bud an_w_bud : Option Addr} {sl_w_bud : Array (Option Value)} {oc_w_bud kV_w_bud dc_w_bud pm_w_bud cd_w_bud ct_w_bud : Value} {f_w_bud : Addr}
    {od_w_buds an_w_buds : Option Addr} {sl_w_buds : Array (Option Value)} {oc_w_buds kV_w_buds dc_w_buds pm_w_buds cd_w_buds ct_w_buds : Value} {f_w_buds : Addr}
    {od_w_hues an_w_hues : Option Addr} {sl_w_hues : Array (Option Value)} {oc_w_hues kV_w_hues dc_w_hues pm_w_hues cd_w_hues ct_w_hues : Value} {f_w_hues : Addr}
    {od_w_leans an_w_leans : Option Addr} {sl_w_leans : Array (Option Value)} {oc_w_leans kV_w_leans dc_w_leans pm_w_leans cd_w_leans ct_w_leans : Value} {f_w_leans : Addr}
    {od_w_done an_w_done : Option Addr} {sl_w_done : Array (Option Value)} {oc_w_done kV_w_done dc_w_done pm_w_done cd_w_done ct_w_done : Value} {f_w_done : Addr}
    {od_w_held an_w_held : Option Addr} {sl_w_held : Array (Option Value)} {oc_w_held kV_w_held dc_w_held pm_w_held cd_w_held ct_w_held : Value} {f_w_held : Addr}
    {od_w_len an_w_len : Option Addr} {sl_w_len : Array (Option Value)} {oc_w_len kV_w_len dc_w_len pm_w_len cd_w_len ct_w_len : Value} {f_w_len : Addr}
    {od_w_eq an_w_eq : Option Addr} {sl_w_eq : Array (Option Value)} {oc_w_eq kV_w_eq dc_w_eq pm_w_eq cd_w_eq ct_w_eq : Value} {f_w_eq : Addr}
    {od_w_str an_w_str : Option Addr} {sl_w_str : Array (Option Value)} {oc_w_str kV_w_str dc_w_str pm_w_str cd_w_str ct_w_str : Value} {f_w_str : Addr}
    {od_w_repr an_w_repr : Option Addr} {sl_w_repr : Array (Option Value)} {oc_w_repr kV_w_repr dc_w_repr pm_w_repr cd_w_repr ct_w_repr : Value} {f_w_repr : Addr}
    {od_s_terms an_s_terms : Option Addr} {sl_s_terms : Array (Option Value)} {oc_s_terms kV_s_terms dc_s_terms pm_s_terms cd_s_terms ct_s_terms : Value} {f_s_terms : Addr}
    {od_s_len an_s_len : Option Addr} {sl_s_len : Array (Option Value)} {oc_s_len kV_s_len dc_s_len pm_s_len cd_s_len ct_s_len : Value} {f_s_len : Addr}
    {od_s_eq an_s_eq : Option Addr} {sl_s_eq : Array (Option Value)} {oc_s_eq kV_s_eq dc_s_eq pm_s_eq cd_s_eq ct_s_eq : Value} {f_s_eq : Addr}
    {t_MOST_TIE : Tok}
    {t_MOST_BUDS : Tok}
    {t_MOST_ROOTS : Tok}
    {t_MOST_WALK : Tok}
    {t_WIDE : Tok}
    {nm_NoPlace q_NoPlace : Str} {N_NoPlace : Addr} {bs_NoPlace : List Value} {sn_NoPlace : List Str} {sub_NoPlace : List Value} {ab_NoPlace : Bool} {col_NoPlace : Option Bool} {dd_NoPlace : Option Addr} {m0_NoPlace m1_NoPlace m2_NoPlace m3_NoPlace m5_NoPlace : Option Value}
    {od_init an_init odT : Option Addr} {sl_init slT : Array (Option Value)} {oc_init kV_init dc_init pm_init cd_init ct_init ocT : Value} {f_init T_init e_init : Addr} {nT nE : Nat} {odE : Option Addr} {slE : Array (Option Value)}
    {od_letter an_letter : Option Addr} {sl_letter : Array (Option Value)} {oc_letter dc_letter pm_letter cd_letter ct_letter : Value} {f_letter D_letter : Addr} {t_by : Tok}
    (a_BudError : PySem.W.nsIn K mainGlobals "BudError" = some (some (.ref C_BudError)))
    (a_NoPlace : PySem.W.nsIn K mainGlobals "NoPlace" = some (some (.ref C_NoPlace)))
    (a_Sum : PySem.W.nsIn K mainGlobals "Sum" = some (some (.ref C_Sum)))
    (a_Web : PySem.W.nsIn K mainGlobals "Web" = some (some (.ref C_Web)))
    (a_is_number : PySem.W.nsIn K mainGlobals "is_number" = some (some (.ref f_is_number)))
    (l_is_number : K.lookup f_is_number = some ⟨oc_is_number, od_is_number, .func (PySem.W.fnOf "is_number" "is_number" (defArgs s_is_number) (defBody s_is_number) (defScope s_is_number) .none kV_is_number dc_is_number pm_is_number an_is_number cd_is_number ct_is_number), sl_is_number⟩)
    (c_is_number : PySem.W.codeIn K cd_is_number "is_number" = true)
    (k_is_number : PySem.W.keepIn K (.ref f_is_number) = true)
    (a_row_text : PySem.W.nsIn K mainGlobals "row_text" = some (some (.ref f_row_text)))
    (l_row_text : K.lookup f_row_text = some ⟨oc_row_text, od_row_text, .func (PySem.W.fnOf "row_text" "row_text" (defArgs s_row_text) (defBody s_row_text) (defScope s_row_text) .none kV_row_text dc_row_text pm_row_text an_row_text cd_row_text ct_row_text), sl_row_text⟩)
    (c_row_text : PySem.W.codeIn K cd_row_text "row_text" = true)
    (k_row_text : PySem.W.keepIn K (.ref f_row_text) = true)
    (a_rows_text : PySem.W.nsIn K mainGlobals "rows_text" = some (some (.ref f_rows_text)))
    (l_rows_text : K.lookup f_rows_text = some ⟨oc_rows_text, od_rows_text, .func (PySem.W.fnOf "rows_text" "rows_text" (defArgs s_rows_text) (defBody s_rows_text) (defScope s_rows_text) .none kV_rows_text dc_rows_text pm_rows_text an_rows_text cd_rows_text ct_rows_text), sl_rows_text⟩)
    (c_rows_text : PySem.W.codeIn K cd_rows_text "rows_text" = true)
    (k_rows_text : PySem.W.keepIn K (.ref f_rows_text) = true)
    (a_is_row : PySem.W.nsIn K mainGlobals "is_row" = some (some (.ref f_is_row)))
    (l_is_row : K.lookup f_is_row = some ⟨oc_is_row, od_is_row, .func (PySem.W.fnOf "is_row" "is_row" (defArgs s_is_row) (defBody s_is_row) (defScope s_is_row) .none kV_is_row dc_is_row pm_is_row an_is_row cd_is_row ct_is_row), sl_is_row⟩)
    (c_is_row : PySem.W.codeIn K cd_is_row "is_row" = true)
    (k_is_row : PySem.W.keepIn K (.ref f_is_row) = true)
    (a_check_form : PySem.W.nsIn K mainGlobals "check_form" = some (some (.ref f_check_form)))
    (l_check_form : K.lookup f_check_form = some ⟨oc_check_form, od_check_form, .func (PySem.W.fnOf "check_form" "check_form" (defArgs s_check_form) (defBody s_check_form) (defScope s_check_form) .none kV_check_form dc_check_form pm_check_form an_check_form cd_check_form ct_check_form), sl_check_form⟩)
    (c_check_form : PySem.W.codeIn K cd_check_form "check_form" = true)
    (k_check_form : PySem.W.keepIn K (.ref f_check_form) = true)
    (a_check_table : PySem.W.nsIn K mainGlobals "check_table" = some (some (.ref f_check_table)))
    (l_check_table : K.lookup f_check_table = some ⟨oc_check_table, od_check_table, .func (PySem.W.fnOf "check_table" "check_table" (defArgs s_check_table) (defBody s_check_table) (defScope s_check_table) .none kV_check_table dc_check_table pm_check_table an_check_table cd_check_table ct_check_table), sl_check_table⟩)
    (c_check_table : PySem.W.codeIn K cd_check_table "check_table" = true)
    (k_check_table : PySem.W.keepIn K (.ref f_check_table) = true)
    (a_bud_count : PySem.W.nsIn K mainGlobals "bud_count" = some (some (.ref f_bud_count)))
    (l_bud_count : K.lookup f_bud_count = some ⟨oc_bud_count, od_bud_count, .func (PySem.W.fnOf "bud_count" "bud_count" (defArgs s_bud_count) (defBody s_bud_count) (defScope s_bud_count) .none kV_bud_count dc_bud_count pm_bud_count an_bud_count cd_bud_count ct_bud_count), sl_bud_count⟩)
    (c_bud_count : PySem.W.codeIn K cd_bud_count "bud_count" = true)
    (k_bud_count : PySem.W.keepIn K (.ref f_bud_count) = true)
    (a_unlike_rows : PySem.W.nsIn K mainGlobals "unlike_rows" = some (some (.ref f_unlike_rows)))
    (l_unlike_rows : K.lookup f_unlike_rows = some ⟨oc_unlike_rows, od_unlike_rows, .func (PySem.W.fnOf "unlike_rows" "unlike_rows" (defArgs s_unlike_rows) (defBody s_unlike_rows) (defScope s_unlike_rows) .none kV_unlike_rows dc_unlike_rows pm_unlike_rows an_unlike_rows cd_unlike_rows ct_unlike_rows), sl_unlike_rows⟩)
    (c_unlike_rows : PySem.W.codeIn K cd_unlike_rows "unlike_rows" = true)
    (k_unlike_rows : PySem.W.keepIn K (.ref f_unlike_rows) = true)
    (a_pair_bars : PySem.W.nsIn K mainGlobals "pair_bars" = some (some (.ref f_pair_bars)))
    (l_pair_bars : K.lookup f_pair_bars = some ⟨oc_pair_bars, od_pair_bars, .func (PySem.W.fnOf "pair_bars" "pair_bars" (defArgs s_pair_bars) (defBody s_pair_bars) (defScope s_pair_bars) .none kV_pair_bars dc_pair_bars pm_pair_bars an_pair_bars cd_pair_bars ct_pair_bars), sl_pair_bars⟩)
    (c_pair_bars : PySem.W.codeIn K cd_pair_bars "pair_bars" = true)
    (k_pair_bars : PySem.W.keepIn K (.ref f_pair_bars) = true)
    (a_ring_bars : PySem.W.nsIn K mainGlobals "ring_bars" = some (some (.ref f_ring_bars)))
    (l_ring_bars : K.lookup f_ring_bars = some ⟨oc_ring_bars, od_ring_bars, .func (PySem.W.fnOf "ring_bars" "ring_bars" (defArgs s_ring_bars) (defBody s_ring_bars) (defScope s_ring_bars) .none kV_ring_bars dc_ring_bars pm_ring_bars an_ring_bars cd_ring_bars ct_ring_bars), sl_ring_bars⟩)
    (c_ring_bars : PySem.W.codeIn K cd_ring_bars "ring_bars" = true)
    (k_ring_bars : PySem.W.keepIn K (.ref f_ring_bars) = true)
    (a_barred : PySem.W.nsIn K mainGlobals "barred" = some (some (.ref f_barred)))
    (l_barred : K.lookup f_barred = some ⟨oc_barred, od_barred, .func (PySem.W.fnOf "barred" "barred" (defArgs s_barred) (defBody s_barred) (defScope s_barred) .none kV_barred dc_barred pm_barred an_barred cd_barred ct_barred), sl_barred⟩)
    (c_barred : PySem.W.codeIn K cd_barred "barred" = true)
    (k_barred : PySem.W.keepIn K (.ref f_barred) = true)
    (a_common : PySem.W.nsIn K mainGlobals "common" = some (some (.ref f_common)))
    (l_common : K.lookup f_common = some ⟨oc_common, od_common, .func (PySem.W.fnOf "common" "common" (defArgs s_common) (defBody s_common) (defScope s_common) .none kV_common dc_common pm_common an_common cd_common ct_common), sl_common⟩)
    (c_common : PySem.W.codeIn K cd_common "common" = true)
    (k_common : PySem.W.keepIn K (.ref f_common) = true)
    (a_lot_weights : PySem.W.nsIn K mainGlobals "lot_weights" = some (some (.ref f_lot_weights)))
    (l_lot_weights : K.lookup f_lot_weights = some ⟨oc_lot_weights, od_lot_weights, .func (PySem.W.fnOf "lot_weights" "lot_weights" (defArgs s_lot_weights) (defBody s_lot_weights) (defScope s_lot_weights) .none kV_lot_weights dc_lot_weights pm_lot_weights an_lot_weights cd_lot_weights ct_lot_weights), sl_lot_weights⟩)
    (c_lot_weights : PySem.W.codeIn K cd_lot_weights "lot_weights" = true)
    (k_lot_weights : PySem.W.keepIn K (.ref f_lot_weights) = true)
    (a_weights : PySem.W.nsIn K mainGlobals "weights" = some (some (.ref f_weights)))
    (l_weights : K.lookup f_weights = some ⟨oc_weights, od_weights, .func (PySem.W.fnOf "weights" "weights" (defArgs s_weights) (defBody s_weights) (defScope s_weights) .none kV_weights dc_weights pm_weights an_weights cd_weights ct_weights), sl_weights⟩)
    (c_weights : PySem.W.codeIn K cd_weights "weights" = true)
    (k_weights : PySem.W.keepIn K (.ref f_weights) = true)
    (a_unit_rows : PySem.W.nsIn K mainGlobals "unit_rows" = some (some (.ref f_unit_rows)))
    (l_unit_rows : K.lookup f_unit_rows = some ⟨oc_unit_rows, od_unit_rows, .func (PySem.W.fnOf "unit_rows" "unit_rows" (defArgs s_unit_rows) (defBody s_unit_rows) (defScope s_unit_rows) .none kV_unit_rows dc_unit_rows pm_unit_rows an_unit_rows cd_unit_rows ct_unit_rows), sl_unit_rows⟩)
    (c_unit_rows : PySem.W.codeIn K cd_unit_rows "unit_rows" = true)
    (k_unit_rows : PySem.W.keepIn K (.ref f_unit_rows) = true)
    (a_gathered : PySem.W.nsIn K mainGlobals "gathered" = some (some (.ref f_gathered)))
    (l_gathered : K.lookup f_gathered = some ⟨oc_gathered, od_gathered, .func (PySem.W.fnOf "gathered" "gathered" (defArgs s_gathered) (defBody s_gathered) (defScope s_gathered) .none kV_gathered dc_gathered pm_gathered an_gathered cd_gathered ct_gathered), sl_gathered⟩)
    (c_gathered : PySem.W.codeIn K cd_gathered "gathered" = true)
    (k_gathered : PySem.W.keepIn K (.ref f_gathered) = true)
    (a_first_seed : PySem.W.nsIn K mainGlobals "first_seed" = some (some (.ref f_first_seed)))
    (l_first_seed : K.lookup f_first_seed = some ⟨oc_first_seed, od_first_seed, .func (PySem.W.fnOf "first_seed" "first_seed" (defArgs s_first_seed) (defBody s_first_seed) (defScope s_first_seed) .none kV_first_seed dc_first_seed pm_first_seed an_first_seed cd_first_seed ct_first_seed), sl_first_seed⟩)
    (c_first_seed : PySem.W.codeIn K cd_first_seed "first_seed" = true)
    (k_first_seed : PySem.W.keepIn K (.ref f_first_seed) = true)
    (a_first_sums : PySem.W.nsIn K mainGlobals "first_sums" = some (some (.ref f_first_sums)))
    (l_first_sums : K.lookup f_first_sums = some ⟨oc_first_sums, od_first_sums, .func (PySem.W.fnOf "first_sums" "first_sums" (defArgs s_first_sums) (defBody s_first_sums) (defScope s_first_sums) .none kV_first_sums dc_first_sums pm_first_sums an_first_sums cd_first_sums ct_first_sums), sl_first_sums⟩)
    (c_first_sums : PySem.W.codeIn K cd_first_sums "first_sums" = true)
    (k_first_sums : PySem.W.keepIn K (.ref f_first_sums) = true)
    (a_law_feed : PySem.W.nsIn K mainGlobals "_law_feed" = some (some (.ref f_law_feed)))
    (l_law_feed : K.lookup f_law_feed = some ⟨oc_law_feed, od_law_feed, .func (PySem.W.fnOf "_law_feed" "_law_feed" (defArgs s_law_feed) (defBody s_law_feed) (defScope s_law_feed) .none kV_law_feed dc_law_feed pm_law_feed an_law_feed cd_law_feed ct_law_feed), sl_law_feed⟩)
    (c_law_feed : PySem.W.codeIn K cd_law_feed "_law_feed" = true)
    (k_law_feed : PySem.W.keepIn K (.ref f_law_feed) = true)
    (a_law_draw : PySem.W.nsIn K mainGlobals "_law_draw" = some (some (.ref f_law_draw)))
    (l_law_draw : K.lookup f_law_draw = some ⟨oc_law_draw, od_law_draw, .func (PySem.W.fnOf "_law_draw" "_law_draw" (defArgs s_law_draw) (defBody s_law_draw) (defScope s_law_draw) .none kV_law_draw dc_law_draw pm_law_draw an_law_draw cd_law_draw ct_law_draw), sl_law_draw⟩)
    (c_law_draw : PySem.W.codeIn K cd_law_draw "_law_draw" = true)
    (k_law_draw : PySem.W.keepIn K (.ref f_law_draw) = true)
    (a_law_pick : PySem.W.nsIn K mainGlobals "_law_pick" = some (some (.ref f_law_pick)))
    (l_law_pick : K.lookup f_law_pick = some ⟨oc_law_pick, od_law_pick, .func (PySem.W.fnOf "_law_pick" "_law_pick" (defArgs s_law_pick) (defBody s_law_pick) (defScope s_law_pick) .none kV_law_pick dc_law_pick pm_law_pick an_law_pick cd_law_pick ct_law_pick), sl_law_pick⟩)
    (c_law_pick : PySem.W.codeIn K cd_law_pick "_law_pick" = true)
    (k_law_pick : PySem.W.keepIn K (.ref f_law_pick) = true)
    (a_law_same : PySem.W.nsIn K mainGlobals "_law_same" = some (some (.ref f_law_same)))
    (l_law_same : K.lookup f_law_same = some ⟨oc_law_same, od_law_same, .func (PySem.W.fnOf "_law_same" "_law_same" (defArgs s_law_same) (defBody s_law_same) (defScope s_law_same) .none kV_law_same dc_law_same pm_law_same an_law_same cd_law_same ct_law_same), sl_law_same⟩)
    (c_law_same : PySem.W.codeIn K cd_law_same "_law_same" = true)
    (k_law_same : PySem.W.keepIn K (.ref f_law_same) = true)
    (a_law_gcd : PySem.W.nsIn K mainGlobals "_law_gcd" = some (some (.ref f_law_gcd)))
    (l_law_gcd : K.lookup f_law_gcd = some ⟨oc_law_gcd, od_law_gcd, .func (PySem.W.fnOf "_law_gcd" "_law_gcd" (defArgs s_law_gcd) (defBody s_law_gcd) (defScope s_law_gcd) .none kV_law_gcd dc_law_gcd pm_law_gcd an_law_gcd cd_law_gcd ct_law_gcd), sl_law_gcd⟩)
    (c_law_gcd : PySem.W.codeIn K cd_law_gcd "_law_gcd" = true)
    (k_law_gcd : PySem.W.keepIn K (.ref f_law_gcd) = true)
    (a_law_told : PySem.W.nsIn K mainGlobals "_law_told" = some (some (.ref f_law_told)))
    (l_law_told : K.lookup f_law_told = some ⟨oc_law_told, od_law_told, .func (PySem.W.fnOf "_law_told" "_law_told" (defArgs s_law_told) (defBody s_law_told) (defScope s_law_told) .none kV_law_told dc_law_told pm_law_told an_law_told cd_law_told ct_law_told), sl_law_told⟩)
    (c_law_told : PySem.W.codeIn K cd_law_told "_law_told" = true)
    (k_law_told : PySem.W.keepIn K (.ref f_law_told) = true)
    (a_law_sum_is : PySem.W.nsIn K mainGlobals "_law_sum_is" = some (some (.ref f_law_sum_is)))
    (l_law_sum_is : K.lookup f_law_sum_is = some ⟨oc_law_sum_is, od_law_sum_is, .func (PySem.W.fnOf "_law_sum_is" "_law_sum_is" (defArgs s_law_sum_is) (defBody s_law_sum_is) (defScope s_law_sum_is) .none kV_law_sum_is dc_law_sum_is pm_law_sum_is an_law_sum_is cd_law_sum_is ct_law_sum_is), sl_law_sum_is⟩)
    (c_law_sum_is : PySem.W.codeIn K cd_law_sum_is "_law_sum_is" = true)
    (k_law_sum_is : PySem.W.keepIn K (.ref f_law_sum_is) = true)
    (a_law_even : PySem.W.nsIn K mainGlobals "_law_even" = some (some (.ref f_law_even)))
    (l_law_even : K.lookup f_law_even = some ⟨oc_law_even, od_law_even, .func (PySem.W.fnOf "_law_even" "_law_even" (defArgs s_law_even) (defBody s_law_even) (defScope s_law_even) .none kV_law_even dc_law_even pm_law_even an_law_even cd_law_even ct_law_even), sl_law_even⟩)
    (c_law_even : PySem.W.codeIn K cd_law_even "_law_even" = true)
    (k_law_even : PySem.W.keepIn K (.ref f_law_even) = true)
    (a_law_roots : PySem.W.nsIn K mainGlobals "_law_roots" = some (some (.ref f_law_roots)))
    (l_law_roots : K.lookup f_law_roots = some ⟨oc_law_roots, od_law_roots, .func (PySem.W.fnOf "_law_roots" "_law_roots" (defArgs s_law_roots) (defBody s_law_roots) (defScope s_law_roots) .none kV_law_roots dc_law_roots pm_law_roots an_law_roots cd_law_roots ct_law_roots), sl_law_roots⟩)
    (c_law_roots : PySem.W.codeIn K cd_law_roots "_law_roots" = true)
    (k_law_roots : PySem.W.keepIn K (.ref f_law_roots) = true)
    (a_law_table : PySem.W.nsIn K mainGlobals "_law_table" = some (some (.ref f_law_table)))
    (l_law_table : K.lookup f_law_table = some ⟨oc_law_table, od_law_table, .func (PySem.W.fnOf "_law_table" "_law_table" (defArgs s_law_table) (defBody s_law_table) (defScope s_law_table) .none kV_law_table dc_law_table pm_law_table an_law_table cd_law_table ct_law_table), sl_law_table⟩)
    (c_law_table : PySem.W.codeIn K cd_law_table "_law_table" = true)
    (k_law_table : PySem.W.keepIn K (.ref f_law_table) = true)
    (a_law_unit : PySem.W.nsIn K mainGlobals "_law_unit" = some (some (.ref f_law_unit)))
    (l_law_unit : K.lookup f_law_unit = some ⟨oc_law_unit, od_law_unit, .func (PySem.W.fnOf "_law_unit" "_law_unit" (defArgs s_law_unit) (defBody s_law_unit) (defScope s_law_unit) .none kV_law_unit dc_law_unit pm_law_unit an_law_unit cd_law_unit ct_law_unit), sl_law_unit⟩)
    (c_law_unit : PySem.W.codeIn K cd_law_unit "_law_unit" = true)
    (k_law_unit : PySem.W.keepIn K (.ref f_law_unit) = true)
    (a_law_rows_text : PySem.W.nsIn K mainGlobals "_law_rows_text" = some (some (.ref f_law_rows_text)))
    (l_law_rows_text : K.lookup f_law_rows_text = some ⟨oc_law_rows_text, od_law_rows_text, .func (PySem.W.fnOf "_law_rows_text" "_law_rows_text" (defArgs s_law_rows_text) (defBody s_law_rows_text) (defScope s_law_rows_text) .none kV_law_rows_text dc_law_rows_text pm_law_rows_text an_law_rows_text cd_law_rows_text ct_law_rows_text), sl_law_rows_text⟩)
    (c_law_rows_text : PySem.W.codeIn K cd_law_rows_text "_law_rows_text" = true)
    (k_law_rows_text : PySem.W.keepIn K (.ref f_law_rows_text) = true)
    (a_law_no_bud : PySem.W.nsIn K mainGlobals "_law_no_bud" = some (some (.ref f_law_no_bud)))
    (l_law_no_bud : K.lookup f_law_no_bud = some ⟨oc_law_no_bud, od_law_no_bud, .func (PySem.W.fnOf "_law_no_bud" "_law_no_bud" (defArgs s_law_no_bud) (defBody s_law_no_bud) (defScope s_law_no_bud) .none kV_law_no_bud dc_law_no_bud pm_law_no_bud an_law_no_bud cd_law_no_bud ct_law_no_bud), sl_law_no_bud⟩)
    (c_law_no_bud : PySem.W.codeIn K cd_law_no_bud "_law_no_bud" = true)
    (k_law_no_bud : PySem.W.keepIn K (.ref f_law_no_bud) = true)
    (a_law : PySem.W.nsIn K mainGlobals "law" = some (some (.ref f_law)))
    (l_law : K.lookup f_law = some ⟨oc_law, od_law, .func (PySem.W.fnOf "law" "law" (defArgs s_law) (defBody s_law) (defScope s_law) .none kV_law dc_law pm_law an_law cd_law ct_law), sl_law⟩)
    (c_law : PySem.W.codeIn K cd_law "law" = true)
    (k_law : PySem.W.keepIn K (.ref f_law) = true)
    (a_place_init : PySem.W.findIn K (.ref C_NoPlace) "__init__" = some (some (.ref f_place_init)))
    (l_place_init : K.lookup f_place_init = some ⟨oc_place_init, od_place_init, .func (PySem.W.fnOf "__init__" "NoPlace.__init__" (defArgs s_place_init) (defBody s_place_init) (defScope s_place_init) .none kV_place_init dc_place_init pm_place_init an_place_init cd_place_init ct_place_init), sl_place_init⟩)
    (c_place_init : PySem.W.codeIn K cd_place_init "NoPlace.__init__" = true)
    (k_place_init : PySem.W.keepIn K (.ref f_place_init) = true)
    (a_w_init : PySem.W.findIn K (.ref C_Web) "__init__" = some (some (.ref f_w_init)))
    (l_w_init : K.lookup f_w_init = some ⟨oc_w_init, od_w_init, .func (PySem.W.fnOf "__init__" "Web.__init__" (defArgs s_winit) (defBody s_winit) (defScope s_winit) .none kV_w_init dc_w_init pm_w_init an_w_init cd_w_init ct_w_init), sl_w_init⟩)
    (c_w_init : PySem.W.codeIn K cd_w_init "Web.__init__" = true)
    (k_w_init : PySem.W.keepIn K (.ref f_w_init) = true)
    (a_w_table : PySem.W.findIn K (.ref C_Web) "table" = some (some (.ref f_w_table)))
    (l_w_table : K.lookup f_w_table = some ⟨oc_w_table, od_w_table, .func (PySem.W.fnOf "table" "Web.table" (defArgs s_wtable) (defBody s_wtable) (defScope s_wtable) .none kV_w_table dc_w_table pm_w_table an_w_table cd_w_table ct_w_table), sl_w_table⟩)
    (c_w_table : PySem.W.codeIn K cd_w_table "Web.table" = true)
    (k_w_table : PySem.W.keepIn K (.ref f_w_table) = true)
    (a_w_weights : PySem.W.findIn K (.ref C_Web) "weights" = some (some (.ref f_w_weights)))
    (l_w_weights : K.lookup f_w_weights = some ⟨oc_w_weights, od_w_weights, .func (PySem.W.fnOf "weights" "Web.weights" (defArgs s_wweights) (defBody s_wweights) (defScope s_wweights) .none kV_w_weights dc_w_weights pm_w_weights an_w_weights cd_w_weights ct_w_weights), sl_w_weights⟩)
    (c_w_weights : PySem.W.codeIn K cd_w_weights "Web.weights" = true)
    (k_w_weights : PySem.W.keepIn K (.ref f_w_weights) = true)
    (a_w_places : PySem.W.findIn K (.ref C_Web) "places" = some (some (.ref f_w_places)))
    (l_w_places : K.lookup f_w_places = some ⟨oc_w_places, od_w_places, .func (PySem.W.fnOf "places" "Web.places" (defArgs s_places) (defBody s_places) (defScope s_places) .none kV_w_places dc_w_places pm_w_places an_w_places cd_w_places ct_w_places), sl_w_places⟩)
    (c_w_places : PySem.W.codeIn K cd_w_places "Web.places" = true)
    (k_w_places : PySem.W.keepIn K (.ref f_w_places) = true)
    (a_w_bud : PySem.W.findIn K (.ref C_Web) "bud" = some (some (.ref f_w_bud)))
    (l_w_bud : K.lookup f_w_bud = some ⟨oc_w_bud, od_w_bud, .func (PySem.W.fnOf "bud" "Web.bud" (defArgs s_bud) (defBody s_bud) (defScope s_bud) .none kV_w_bud dc_w_bud pm_w_bud an_w_bud cd_w_bud ct_w_bud), sl_w_bud⟩)
    (c_w_bud : PySem.W.codeIn K cd_w_bud "Web.bud" = true)
    (k_w_bud : PySem.W.keepIn K (.ref f_w_bud) = true)
    (a_w_buds : PySem.W.findIn K (.ref C_Web) "buds" = some (some (.ref f_w_buds)))
    (l_w_buds : K.lookup f_w_buds = some ⟨oc_w_buds, od_w_buds, .func (PySem.W.fnOf "buds" "Web.buds" (defArgs s_buds) (defBody s_buds) (defScope s_buds) .none kV_w_buds dc_w_buds pm_w_buds an_w_buds cd_w_buds ct_w_buds), sl_w_buds⟩)
    (c_w_buds : PySem.W.codeIn K cd_w_buds "Web.buds" = true)
    (k_w_buds : PySem.W.keepIn K (.ref f_w_buds) = true)
    (a_w_hues : PySem.W.findIn K (.ref C_Web) "hues" = some (some (.ref f_w_hues)))
    (l_w_hues : K.lookup f_w_hues = some ⟨oc_w_hues, od_w_hues, .func (PySem.W.fnOf "hues" "Web.hues" (defArgs s_hues) (defBody s_hues) (defScope s_hues) .none kV_w_hues dc_w_hues pm_w_hues an_w_hues cd_w_hues ct_w_hues), sl_w_hues⟩)
    (c_w_hues : PySem.W.codeIn K cd_w_hues "Web.hues" = true)
    (k_w_hues : PySem.W.keepIn K (.ref f_w_hues) = true)
    (a_w_leans : PySem.W.findIn K (.ref C_Web) "leans" = some (some (.ref f_w_leans)))
    (l_w_leans : K.lookup f_w_leans = some ⟨oc_w_leans, od_w_leans, .func (PySem.W.fnOf "leans" "Web.leans" (defArgs s_leans) (defBody s_leans) (defScope s_leans) .none kV_w_leans dc_w_leans pm_w_leans an_w_leans cd_w_leans ct_w_leans), sl_w_leans⟩)
    (c_w_leans : PySem.W.codeIn K cd_w_leans "Web.leans" = true)
    (k_w_leans : PySem.W.keepIn K (.ref f_w_leans) = true)
    (a_w_done : PySem.W.findIn K (.ref C_Web) "done" = some (some (.ref f_w_done)))
    (l_w_done : K.lookup f_w_done = some ⟨oc_w_done, od_w_done, .func (PySem.W.fnOf "done" "Web.done" (defArgs s_done) (defBody s_done) (defScope s_done) .none kV_w_done dc_w_done pm_w_done an_w_done cd_w_done ct_w_done), sl_w_done⟩)
    (c_w_done : PySem.W.codeIn K cd_w_done "Web.done" = true)
    (k_w_done : PySem.W.keepIn K (.ref f_w_done) = true)
    (a_w_held : PySem.W.findIn K (.ref C_Web) "held" = some (some (.ref f_w_held)))
    (l_w_held : K.lookup f_w_held = some ⟨oc_w_held, od_w_held, .func (PySem.W.fnOf "held" "Web.held" (defArgs s_held) (defBody s_held) (defScope s_held) .none kV_w_held dc_w_held pm_w_held an_w_held cd_w_held ct_w_held), sl_w_held⟩)
    (c_w_held : PySem.W.codeIn K cd_w_held "Web.held" = true)
    (k_w_held : PySem.W.keepIn K (.ref f_w_held) = true)
    (a_w_len : PySem.W.findIn K (.ref C_Web) "__len__" = some (some (.ref f_w_len)))
    (l_w_len : K.lookup f_w_len = some ⟨oc_w_len, od_w_len, .func (PySem.W.fnOf "__len__" "Web.__len__" (defArgs s_wlen) (defBody s_wlen) (defScope s_wlen) .none kV_w_len dc_w_len pm_w_len an_w_len cd_w_len ct_w_len), sl_w_len⟩)
    (c_w_len : PySem.W.codeIn K cd_w_len "Web.__len__" = true)
    (k_w_len : PySem.W.keepIn K (.ref f_w_len) = true)
    (a_w_eq : PySem.W.findIn K (.ref C_Web) "__eq__" = some (some (.ref f_w_eq)))
    (l_w_eq : K.lookup f_w_eq = some ⟨oc_w_eq, od_w_eq, .func (PySem.W.fnOf "__eq__" "Web.__eq__" (defArgs s_weq) (defBody s_weq) (defScope s_weq) .none kV_w_eq dc_w_eq pm_w_eq an_w_eq cd_w_eq ct_w_eq), sl_w_eq⟩)
    (c_w_eq : PySem.W.codeIn K cd_w_eq "Web.__eq__" = true)
    (k_w_eq : PySem.W.keepIn K (.ref f_w_eq) = true)
    (a_w_str : PySem.W.findIn K (.ref C_Web) "__str__" = some (some (.ref f_w_str)))
    (l_w_str : K.lookup f_w_str = some ⟨oc_w_str, od_w_str, .func (PySem.W.fnOf "__str__" "Web.__str__" (defArgs s_wstr) (defBody s_wstr) (defScope s_wstr) .none kV_w_str dc_w_str pm_w_str an_w_str cd_w_str ct_w_str), sl_w_str⟩)
    (c_w_str : PySem.W.codeIn K cd_w_str "Web.__str__" = true)
    (k_w_str : PySem.W.keepIn K (.ref f_w_str) = true)
    (a_w_repr : PySem.W.findIn K (.ref C_Web) "__repr__" = some (some (.ref f_w_repr)))
    (l_w_repr : K.lookup f_w_repr = some ⟨oc_w_repr, od_w_repr, .func (PySem.W.fnOf "__repr__" "Web.__repr__" (defArgs s_wrepr) (defBody s_wrepr) (defScope s_wrepr) .none kV_w_repr dc_w_repr pm_w_repr an_w_repr cd_w_repr ct_w_repr), sl_w_repr⟩)
    (c_w_repr : PySem.W.codeIn K cd_w_repr "Web.__repr__" = true)
    (k_w_repr : PySem.W.keepIn K (.ref f_w_repr) = true)
    (a_s_terms : PySem.W.findIn K (.ref C_Sum) "terms" = some (some (.ref f_s_terms)))
    (l_s_terms : K.lookup f_s_terms = some ⟨oc_s_terms, od_s_terms, .func (PySem.W.fnOf "terms" "Sum.terms" (defArgs s_terms) (defBody s_terms) (defScope s_terms) .none kV_s_terms dc_s_terms pm_s_terms an_s_terms cd_s_terms ct_s_terms), sl_s_terms⟩)
    (c_s_terms : PySem.W.codeIn K cd_s_terms "Sum.terms" = true)
    (k_s_terms : PySem.W.keepIn K (.ref f_s_terms) = true)
    (a_s_len : PySem.W.findIn K (.ref C_Sum) "__len__" = some (some (.ref f_s_len)))
    (l_s_len : K.lookup f_s_len = some ⟨oc_s_len, od_s_len, .func (PySem.W.fnOf "__len__" "Sum.__len__" (defArgs s_len) (defBody s_len) (defScope s_len) .none kV_s_len dc_s_len pm_s_len an_s_len cd_s_len ct_s_len), sl_s_len⟩)
    (c_s_len : PySem.W.codeIn K cd_s_len "Sum.__len__" = true)
    (k_s_len : PySem.W.keepIn K (.ref f_s_len) = true)
    (a_s_eq : PySem.W.findIn K (.ref C_Sum) "__eq__" = some (some (.ref f_s_eq)))
    (l_s_eq : K.lookup f_s_eq = some ⟨oc_s_eq, od_s_eq, .func (PySem.W.fnOf "__eq__" "Sum.__eq__" (defArgs s_seq) (defBody s_seq) (defScope s_seq) .none kV_s_eq dc_s_eq pm_s_eq an_s_eq cd_s_eq ct_s_eq), sl_s_eq⟩)
    (c_s_eq : PySem.W.codeIn K cd_s_eq "Sum.__eq__" = true)
    (k_s_eq : PySem.W.keepIn K (.ref f_s_eq) = true)
    (z_len : PySem.W.nsIn K mainGlobals "len" = some none)
    (z_range : PySem.W.nsIn K mainGlobals "range" = some none)
    (z_zip : PySem.W.nsIn K mainGlobals "zip" = some none)
    (z_abs : PySem.W.nsIn K mainGlobals "abs" = some none)
    (z_all : PySem.W.nsIn K mainGlobals "all" = some none)
    (z_any : PySem.W.nsIn K mainGlobals "any" = some none)
    (z_max : PySem.W.nsIn K mainGlobals "max" = some none)
    (z_min : PySem.W.nsIn K mainGlobals "min" = some none)
    (z_sorted : PySem.W.nsIn K mainGlobals "sorted" = some none)
    (z_isinstance : PySem.W.nsIn K mainGlobals "isinstance" = some none)
    (z_int : PySem.W.nsIn K mainGlobals "int" = some none)
    (z_bool : PySem.W.nsIn K mainGlobals "bool" = some none)
    (z_tuple : PySem.W.nsIn K mainGlobals "tuple" = some none)
    (z_list : PySem.W.nsIn K mainGlobals "list" = some none)
    (z_dict : PySem.W.nsIn K mainGlobals "dict" = some none)
    (z_str : PySem.W.nsIn K mainGlobals "str" = some none)
    (z_ValueError : PySem.W.nsIn K mainGlobals "ValueError" = some none)
    (z_IndexError : PySem.W.nsIn K mainGlobals "IndexError" = some none)
    (z_enumerate : PySem.W.nsIn K mainGlobals "enumerate" = some none)
    (i_MOST_TIE : PySem.W.nsIn K mainGlobals "MOST_TIE" = some (some (.int 50 t_MOST_TIE)))
    (i_MOST_BUDS : PySem.W.nsIn K mainGlobals "MOST_BUDS" = some (some (.int 4 t_MOST_BUDS)))
    (i_MOST_ROOTS : PySem.W.nsIn K mainGlobals "MOST_ROOTS" = some (some (.int 4 t_MOST_ROOTS)))
    (i_MOST_WALK : PySem.W.nsIn K mainGlobals "MOST_WALK" = some (some (.int 60 t_MOST_WALK)))
    (i_WIDE : PySem.W.nsIn K mainGlobals "WIDE" = some (some (.int 400 t_WIDE)))
    (tyB : PySem.W.typeIn K (.ref C_BudError) = some (.type "type"))
    (eB : PySem.W.subIn K (.ref C_BudError) (.type "BaseException") = some true)
    (hB : PySem.W.hasDictIn K C_BudError = true)
    (eC_NoPlace : PySem.W.subIn K (.ref C_NoPlace) (.type "BaseException") = some true)
    (tC_NoPlace : PySem.W.typeIn K (.ref C_NoPlace) = some (.type "type"))
    (hC_NoPlace : PySem.W.hasDictIn K C_NoPlace = true)
    (xL_NoPlace : K.lookup C_NoPlace = some (excClassObj nm_NoPlace q_NoPlace C_NoPlace N_NoPlace bs_NoPlace [.type "IndexError", .type "LookupError", .type "Exception", .type "BaseException", .type "object"] true sn_NoPlace sub_NoPlace ab_NoPlace col_NoPlace dd_NoPlace m0_NoPlace m1_NoPlace m2_NoPlace m3_NoPlace m5_NoPlace "IndexError.__new__"))
    (sa_NoPlace : PySem.W.findIn K (.ref C_NoPlace) "__setattr__" = some (some (.builtin "object.__setattr__")))
    (ga_NoPlace : PySem.W.findIn K (.ref C_NoPlace) "__getattribute__" = some (some (.builtin "BaseException.__getattribute__")))
    (gg_NoPlace : PySem.W.findIn K (.ref C_NoPlace) "__getattr__" = some none)
    (nw_NoPlace : PySem.W.findIn K (.ref C_NoPlace) "word" = some none)
    (tI_NoPlace : PySem.W.typeIn K (.ref f_place_init) = some (.type "function"))
    (kC_NoPlace : PySem.W.keepIn K (.ref C_NoPlace) = true)
    (s0_NoPlace : PySem.W.subIn K (.ref C_NoPlace) (.ref C_BudError) = some false)
    (vv_NoPlace : PySem.W.findCls K (.type "IndexError") (.type "type") "__init__" = some (.val (.builtin "IndexError.__init__")))
    (sNoPlace_NoPlace : PySem.W.subIn K (.ref C_NoPlace) (.ref C_NoPlace) = some true)
    (nf_NoPlace : PySem.W.findIn K (.ref C_NoPlace) "place" = some none)
    (a_init : PySem.W.findIn K (.ref C_Sum) "__init__" = some (some (.ref f_init)))
    (l_init : K.lookup f_init = some ⟨oc_init, od_init, .func (PySem.W.fnOf "__init__" "Sum.__init__" (defArgs s_init) (defBody s_init) (defScope s_init) (.ref T_init) kV_init dc_init pm_init an_init cd_init ct_init), sl_init⟩)
    (c_init : PySem.W.codeIn K cd_init "Sum.__init__" = true)
    (k_init : PySem.W.keepIn K (.ref f_init) = true)
    (lT : K.lookup T_init = some ⟨ocT, odT, .seq #[.ref e_init] nT, slT⟩)
    (fn_init : PySem.W.isFn K (.ref f_init) = true)
    (lE : K.lookup e_init = some ⟨.type "tuple", odE, .seq #[] nE, slE⟩)
    (mk : PySem.W.makesIn K C_Sum = true)
    (kc : PySem.W.keepIn K (.ref C_Sum) = true)
    (pg : PySem.W.plainGet K C_Sum Str.empty = true)
    (hd : PySem.W.hasDictIn K C_Sum = true)
    (po : PySem.W.plainOver K C_Sum = true)
    (sa : PySem.W.findIn K (.ref C_Sum) "__setattr__" = some (some (.builtin "object.__setattr__")))
    (nw : PySem.W.findIn K (.ref C_Sum) "width" = some none)
    (np : PySem.W.findIn K (.ref C_Sum) "products" = some none)
    (hcl : PySem.W.findIn K (.ref C_Sum) "__class__" = some (some (.builtin "object.__class__")))
    (hgt : PySem.W.specialIn K (.builtin "object.__class__") "__get__" = some (some (.builtin "getset_descriptor.__get__")))
    (htk : PySem.W.takesIn K (.builtin "object.__class__") = some true)
    (hmr : PySem.W.mroIn K C_Sum (.type "object") = some true)
    (slf : PySem.W.kitOne K (.ref C_Sum) (.ref C_Sum) = some true)
    (a_letter : PySem.W.nsIn K mainGlobals "letter" = some (some (.ref f_letter)))
    (l_letter : K.lookup f_letter = some ⟨oc_letter, od_letter, .func (PySem.W.fnOf "letter" "letter" (defArgs s_letter) (defBody s_letter) (defScope s_letter) .none (.ref D_letter) dc_letter pm_letter an_letter cd_letter ct_letter), sl_letter⟩)
    (c_letter : PySem.W.codeIn K cd_letter "letter" = true)
    (k_letter : PySem.W.keepIn K (.ref f_letter) = true)
    (ns_by : PySem.W.nsIn K D_letter "by" = some (some (.int 1 t_by)))
    (mkW : PySem.W.makesIn K C_Web = true)
    (kcW : PySem.W.keepIn K (.ref C_Web) = true)
    (pgW : PySem.W.plainGet K C_Web Str.empty = true)
    (hdW : PySem.W.hasDictIn K C_Web = true)
    (poW : PySem.W.plainOver K C_Web = true)
    (saW : PySem.W.findIn K (.ref C_Web) "__setattr__" = some (some (.builtin "object.__setattr__")))
    (n_seedW : PySem.W.findIn K (.ref C_Web) "seed" = some none)
    (n_standingW : PySem.W.findIn K (.ref C_Web) "standing" = some none)
    (n_madeW : PySem.W.findIn K (.ref C_Web) "made" = some none)
    (n_keptW : PySem.W.findIn K (.ref C_Web) "kept" = some none)
    (fn_w_init : PySem.W.isFn K (.ref f_w_init) = true)
    (fn_w_table : PySem.W.isFn K (.ref f_w_table) = true)
    (fn_w_weights : PySem.W.isFn K (.ref f_w_weights) = true)
    (fn_w_places : PySem.W.isFn K (.ref f_w_places) = true)
    (fn_w_bud : PySem.W.isFn K (.ref f_w_bud) = true)
    (fn_w_buds : PySem.W.isFn K (.ref f_w_buds) = true)
    (fn_w_hues : PySem.W.isFn K (.ref f_w_hues) = true)
    (fn_w_leans : PySem.W.isFn K (.ref f_w_leans) = true)
    (fn_w_done : PySem.W.isFn K (.ref f_w_done) = true)
    (fn_w_held : PySem.W.isFn K (.ref f_w_held) = true)
    (fn_w_len : PySem.W.isFn K (.ref f_w_len) = true)
    (fn_w_eq : PySem.W.isFn K (.ref f_w_eq) = true)
    (fn_w_str : PySem.W.isFn K (.ref f_w_str) = true)
    (fn_w_repr : PySem.W.isFn K (.ref f_w_repr) = true)
    (fn_s_terms : PySem.W.isFn K (.ref f_s_terms) = true)
    (fn_s_len : PySem.W.isFn K (.ref f_s_len) = true)
    (fn_s_eq : PySem.W.isFn K (.ref f_s_eq) = true)
    (a_wt : PySem.W.nsIn K mainGlobals "weights_tables" = some (some (.ref f_weights)))
    (haW : PySem.W.findIn K (.ref C_Web) "__class__" = some (some (.builtin "object.__class__")))
    (hmW : PySem.W.mroIn K C_Web (.type "object") = some true)
    (slfW : PySem.W.kitOne K (.ref C_Web) (.ref C_Web) = some true)
    (kSW : PySem.W.kitOne K (.type "str") (.ref C_Web) = some false)
    (kTW : PySem.W.kitOne K (.type "tuple") (.ref C_Web) = some false)
    (hsBW : PySem.W.findIn K (.ref C_Web) "__bool__" = some none)
    (hnS : PySem.W.findIn K (.ref C_Sum) "__ne__" = some (some (.builtin "object.__ne__")))
    (nfS : PySem.W.notFirst K C_Web (.type "str") = true)
    (nfT : PySem.W.notFirst K C_Web (.type "tuple") = true)
    (hnW : PySem.W.findIn K (.ref C_Web) "__ne__" = some (some (.builtin "object.__ne__")))
    (z_repr : PySem.W.nsIn K mainGlobals "repr" = some none)
    (nCC : C_Web ≠ C_Sum)
    : ∃ fd : FuncData, (∀ (s : Shared) (v : Value), BindsTo s fd ⟨[v], []⟩ [("_law_script", v)]) ∧ ∀ base : Heap, K.In base → base.Ns mainGlobals mg → FnOk l.prog w K mg base CX0 8 fa fd ["_law_script"] (spLaw K) := by
  have e := hfa.symm.trans (PySem.W.mg_of X G a_law)
  cases e
  have T : Tx mg := { len := PySem.W.mg_none_of X G z_len, range := PySem.W.mg_none_of X G z_range, zip := PySem.W.mg_none_of X G z_zip, abs := PySem.W.mg_none_of X G z_abs, all := PySem.W.mg_none_of X G z_all, any := PySem.W.mg_none_of X G z_any, max := PySem.W.mg_none_of X G z_max, min := PySem.W.mg_none_of X G z_min, sorted := PySem.W.mg_none_of X G z_sorted, isinstance := PySem.W.mg_none_of X G z_isinstance, int := PySem.W.mg_none_of X G z_int, bool := PySem.W.mg_none_of X G z_bool, tuple := PySem.W.mg_none_of X G z_tuple, list := PySem.W.mg_none_of X G z_list, dict := PySem.W.mg_none_of X G z_dict, str := PySem.W.mg_none_of X G z_str, ValueError := PySem.W.mg_none_of X G z_ValueError, IndexError := PySem.W.mg_none_of X G z_IndexError, enumerate := PySem.W.mg_none_of X G z_enumerate, MOST_TIE := ⟨_, PySem.W.mg_of X G i_MOST_TIE⟩, MOST_BUDS := ⟨_, PySem.W.mg_of X G i_MOST_BUDS⟩, MOST_ROOTS := ⟨_, PySem.W.mg_of X G i_MOST_ROOTS⟩, MOST_WALK := ⟨_, PySem.W.mg_of X G i_MOST_WALK⟩, WIDE := ⟨_, PySem.W.mg_of X G i_WIDE⟩ }
  have F_is_number := fun_mk (st := s_is_number) l_is_number c_is_number k_is_number
  have b_is_number := F_is_number.binds (ps := ["thing"]) fun _ _ _ _ _ _ us hl => match us, hl with | [_], _ => rfl
  have F_row_text := fun_mk (st := s_row_text) l_row_text c_row_text k_row_text
  have b_row_text := F_row_text.binds (ps := ["numbers"]) fun _ _ _ _ _ _ us hl => match us, hl with | [_], _ => rfl
  have F_rows_text := fun_mk (st := s_rows_text) l_rows_text c_rows_text k_rows_text
  have b_rows_text := F_rows_text.binds (ps := ["rows"]) fun _ _ _ _ _ _ us hl => match us, hl with | [_], _ => rfl
  have F_is_row := fun_mk (st := s_is_row) l_is_row c_is_row k_is_row
  have b_is_row := F_is_row.binds (ps := ["row", "many"]) fun _ _ _ _ _ _ us hl => match us, hl with | [_, _], _ => rfl
  have F_check_form := fun_mk (st := s_check_form) l_check_form c_check_form k_check_form
  have b_check_form := F_check_form.binds (ps := ["table"]) fun _ _ _ _ _ _ us hl => match us, hl with | [_], _ => rfl
  have F_check_table := fun_mk (st := s_check_table) l_check_table c_check_table k_check_table
  have b_check_table := F_check_table.binds (ps := ["table"]) fun _ _ _ _ _ _ us hl => match us, hl with | [_], _ => rfl
  have F_bud_count := fun_mk (st := s_bud_count) l_bud_count c_bud_count k_bud_count
  have b_bud_count := F_bud_count.binds (ps := ["table"]) fun _ _ _ _ _ _ us hl => match us, hl with | [_], _ => rfl
  have F_unlike_rows := fun_mk (st := s_unlike_rows) l_unlike_rows c_unlike_rows k_unlike_rows
  have b_unlike_rows := F_unlike_rows.binds (ps := ["many", "length"]) fun _ _ _ _ _ _ us hl => match us, hl with | [_, _], _ => rfl
  have F_pair_bars := fun_mk (st := s_pair_bars) l_pair_bars c_pair_bars k_pair_bars
  have b_pair_bars := F_pair_bars.binds (ps := ["table", "i", "j"]) fun _ _ _ _ _ _ us hl => match us, hl with | [_, _, _], _ => rfl
  have F_ring_bars := fun_mk (st := s_ring_bars) l_ring_bars c_ring_bars k_ring_bars
  have b_ring_bars := F_ring_bars.binds (ps := ["table", "ring"]) fun _ _ _ _ _ _ us hl => match us, hl with | [_, _], _ => rfl
  have F_barred := fun_mk (st := s_barred) l_barred c_barred k_barred
  have b_barred := F_barred.binds (ps := ["table"]) fun _ _ _ _ _ _ us hl => match us, hl with | [_], _ => rfl
  have F_common := fun_mk (st := s_common) l_common c_common k_common
  have b_common := F_common.binds (ps := ["one", "other"]) fun _ _ _ _ _ _ us hl => match us, hl with | [_, _], _ => rfl
  have F_lot_weights := fun_mk (st := s_lot_weights) l_lot_weights c_lot_weights k_lot_weights
  have b_lot_weights := F_lot_weights.binds (ps := ["table", "first"]) fun _ _ _ _ _ _ us hl => match us, hl with | [_, _], _ => rfl
  have F_weights := fun_mk (st := s_weights) l_weights c_weights k_weights
  have b_weights := F_weights.binds (ps := ["table"]) fun _ _ _ _ _ _ us hl => match us, hl with | [_], _ => rfl
  have F_unit_rows := fun_mk (st := s_unit_rows) l_unit_rows c_unit_rows k_unit_rows
  have b_unit_rows := F_unit_rows.binds (ps := ["many"]) fun _ _ _ _ _ _ us hl => match us, hl with | [_], _ => rfl
  have F_gathered := fun_mk (st := s_gathered) l_gathered c_gathered k_gathered
  have b_gathered := F_gathered.binds (ps := ["terms"]) fun _ _ _ _ _ _ us hl => match us, hl with | [_], _ => rfl
  have F_first_seed := fun_mk (st := s_first_seed) l_first_seed c_first_seed k_first_seed
  have b_first_seed := F_first_seed.binds (ps := ["table"]) fun _ _ _ _ _ _ us hl => match us, hl with | [_], _ => rfl
  have F_first_sums := fun_mk (st := s_first_sums) l_first_sums c_first_sums k_first_sums
  have b_first_sums := F_first_sums.binds (ps := ["many"]) fun _ _ _ _ _ _ us hl => match us, hl with | [_], _ => rfl
  have F_law_feed := fun_mk (st := s_law_feed) l_law_feed c_law_feed k_law_feed
  have b_law_feed := F_law_feed.binds (ps := ["_law_script"]) fun _ _ _ _ _ _ us hl => match us, hl with | [_], _ => rfl
  have F_law_draw := fun_mk (st := s_law_draw) l_law_draw c_law_draw k_law_draw
  have b_law_draw := F_law_draw.binds (ps := ["_law_feed_here", "_law_many"]) fun _ _ _ _ _ _ us hl => match us, hl with | [_, _], _ => rfl
  have F_law_pick := fun_mk (st := s_law_pick) l_law_pick c_law_pick k_law_pick
  have b_law_pick := F_law_pick.binds (ps := ["_law_feed_here", "_law_row"]) fun _ _ _ _ _ _ us hl => match us, hl with | [_, _], _ => rfl
  have F_law_same := fun_mk (st := s_law_same) l_law_same c_law_same k_law_same
  have b_law_same := F_law_same.binds (ps := ["_law_found", "_law_due"]) fun _ _ _ _ _ _ us hl => match us, hl with | [_, _], _ => rfl
  have F_law_gcd := fun_mk (st := s_law_gcd) l_law_gcd c_law_gcd k_law_gcd
  have b_law_gcd := F_law_gcd.binds (ps := ["_law_one", "_law_other"]) fun _ _ _ _ _ _ us hl => match us, hl with | [_, _], _ => rfl
  have F_law_told := fun_mk (st := s_law_told) l_law_told c_law_told k_law_told
  have b_law_told := F_law_told.binds (ps := ["_law_book"]) fun _ _ _ _ _ _ us hl => match us, hl with | [_], _ => rfl
  have F_law_sum_is := fun_mk (st := s_law_sum_is) l_law_sum_is c_law_sum_is k_law_sum_is
  have b_law_sum_is := F_law_sum_is.binds (ps := ["_law_found", "_law_width", "_law_book"]) fun _ _ _ _ _ _ us hl => match us, hl with | [_, _, _], _ => rfl
  have F_law_even := fun_mk (st := s_law_even) l_law_even c_law_even k_law_even
  have b_law_even := F_law_even.binds (ps := ["_law_feed_here", "_law_many", "_law_reach"]) fun _ _ _ _ _ _ us hl => match us, hl with | [_, _, _], _ => rfl
  have F_law_roots := fun_mk (st := s_law_roots) l_law_roots c_law_roots k_law_roots
  have b_law_roots := F_law_roots.binds (ps := ["_law_feed_here", "_law_ties", "_law_most", "_law_reach"]) fun _ _ _ _ _ _ us hl => match us, hl with | [_, _, _, _], _ => rfl
  have F_law_table := fun_mk (st := s_law_table) l_law_table c_law_table k_law_table
  have b_law_table := F_law_table.binds (ps := ["_law_feed_here", "_law_most_buds", "_law_most_roots"]) fun _ _ _ _ _ _ us hl => match us, hl with | [_, _, _], _ => rfl
  have F_law_unit := fun_mk (st := s_law_unit) l_law_unit c_law_unit k_law_unit
  have b_law_unit := F_law_unit.binds (ps := ["_law_many", "_law_k"]) fun _ _ _ _ _ _ us hl => match us, hl with | [_, _], _ => rfl
  have F_law_rows_text := fun_mk (st := s_law_rows_text) l_law_rows_text c_law_rows_text k_law_rows_text
  have b_law_rows_text := F_law_rows_text.binds (ps := ["_law_rows"]) fun _ _ _ _ _ _ us hl => match us, hl with | [_], _ => rfl
  have F_law_no_bud := fun_mk (st := s_law_no_bud) l_law_no_bud c_law_no_bud k_law_no_bud
  have b_law_no_bud := F_law_no_bud.binds (ps := ["_law_feed_here", "_law_web", "_law_wide"]) fun _ _ _ _ _ _ us hl => match us, hl with | [_, _, _], _ => rfl
  have F_law := fun_mk (st := s_law) l_law c_law k_law
  have F_place_init := fun_mk (st := s_place_init) l_place_init c_place_init k_place_init
  have b_place_init := F_place_init.binds (ps := ["self", "place"]) fun _ _ _ _ _ _ us hl => match us, hl with | [_, _], _ => rfl
  have F_w_init := fun_mk (st := s_winit) l_w_init c_w_init k_w_init
  have b_w_init := F_w_init.binds (ps := ["self", "table"]) fun _ _ _ _ _ _ us hl => match us, hl with | [_, _], _ => rfl
  have F_w_table := fun_mk (st := s_wtable) l_w_table c_w_table k_w_table
  have b_w_table := F_w_table.binds (ps := ["self"]) fun _ _ _ _ _ _ us hl => match us, hl with | [_], _ => rfl
  have F_w_weights := fun_mk (st := s_wweights) l_w_weights c_w_weights k_w_weights
  have b_w_weights := F_w_weights.binds (ps := ["self"]) fun _ _ _ _ _ _ us hl => match us, hl with | [_], _ => rfl
  have F_w_places := fun_mk (st := s_places) l_w_places c_w_places k_w_places
  have b_w_places := F_w_places.binds (ps := ["self"]) fun _ _ _ _ _ _ us hl => match us, hl with | [_], _ => rfl
  have F_w_bud := fun_mk (st := s_bud) l_w_bud c_w_bud k_w_bud
  have b_w_bud := F_w_bud.binds (ps := ["self", "place"]) fun _ _ _ _ _ _ us hl => match us, hl with | [_, _], _ => rfl
  have F_w_buds := fun_mk (st := s_buds) l_w_buds c_w_buds k_w_buds
  have b_w_buds := F_w_buds.binds (ps := ["self"]) fun _ _ _ _ _ _ us hl => match us, hl with | [_], _ => rfl
  have F_w_hues := fun_mk (st := s_hues) l_w_hues c_w_hues k_w_hues
  have b_w_hues := F_w_hues.binds (ps := ["self"]) fun _ _ _ _ _ _ us hl => match us, hl with | [_], _ => rfl
  have F_w_leans := fun_mk (st := s_leans) l_w_leans c_w_leans k_w_leans
  have b_w_leans := F_w_leans.binds (ps := ["self"]) fun _ _ _ _ _ _ us hl => match us, hl with | [_], _ => rfl
  have F_w_done := fun_mk (st := s_done) l_w_done c_w_done k_w_done
  have b_w_done := F_w_done.binds (ps := ["self"]) fun _ _ _ _ _ _ us hl => match us, hl with | [_], _ => rfl
  have F_w_held := fun_mk (st := s_held) l_w_held c_w_held k_w_held
  have b_w_held := F_w_held.binds (ps := ["self"]) fun _ _ _ _ _ _ us hl => match us, hl with | [_], _ => rfl
  have F_w_len := fun_mk (st := s_wlen) l_w_len c_w_len k_w_len
  have b_w_len := F_w_len.binds (ps := ["self"]) fun _ _ _ _ _ _ us hl => match us, hl with | [_], _ => rfl
  have F_w_eq := fun_mk (st := s_weq) l_w_eq c_w_eq k_w_eq
  have b_w_eq := F_w_eq.binds (ps := ["self", "other"]) fun _ _ _ _ _ _ us hl => match us, hl with | [_, _], _ => rfl
  have F_w_str := fun_mk (st := s_wstr) l_w_str c_w_str k_w_str
  have b_w_str := F_w_str.binds (ps := ["self"]) fun _ _ _ _ _ _ us hl => match us, hl with | [_], _ => rfl
  have F_w_repr := fun_mk (st := s_wrepr) l_w_repr c_w_repr k_w_repr
  have b_w_repr := F_w_repr.binds (ps := ["self"]) fun _ _ _ _ _ _ us hl => match us, hl with | [_], _ => rfl
  have F_s_terms := fun_mk (st := s_terms) l_s_terms c_s_terms k_s_terms
  have b_s_terms := F_s_terms.binds (ps := ["self"]) fun _ _ _ _ _ _ us hl => match us, hl with | [_], _ => rfl
  have F_s_len := fun_mk (st := s_len) l_s_len c_s_len k_s_len
  have b_s_len := F_s_len.binds (ps := ["self"]) fun _ _ _ _ _ _ us hl => match us, hl with | [_], _ => rfl
  have F_s_eq := fun_mk (st := s_seq) l_s_eq c_s_eq k_s_eq
  have b_s_eq := F_s_eq.binds (ps := ["self", "other"]) fun _ _ _ _ _ _ us hl => match us, hl with | [_, _], _ => rfl
  have g_is_number := PySem.W.mg_of X G a_is_number
  have g_row_text := PySem.W.mg_of X G a_row_text
  have g_rows_text := PySem.W.mg_of X G a_rows_text
  have g_is_row := PySem.W.mg_of X G a_is_row
  have g_check_form := PySem.W.mg_of X G a_check_form
  have g_check_table := PySem.W.mg_of X G a_check_table
  have g_bud_count := PySem.W.mg_of X G a_bud_count
  have g_unlike_rows := PySem.W.mg_of X G a_unlike_rows
  have g_pair_bars := PySem.W.mg_of X G a_pair_bars
  have g_ring_bars := PySem.W.mg_of X G a_ring_bars
  have g_barred := PySem.W.mg_of X G a_barred
  have g_common := PySem.W.mg_of X G a_common
  have g_lot_weights := PySem.W.mg_of X G a_lot_weights
  have g_weights := PySem.W.mg_of X G a_weights
  have g_unit_rows := PySem.W.mg_of X G a_unit_rows
  have g_gathered := PySem.W.mg_of X G a_gathered
  have g_first_seed := PySem.W.mg_of X G a_first_seed
  have g_first_sums := PySem.W.mg_of X G a_first_sums
  have g_law_feed := PySem.W.mg_of X G a_law_feed
  have g_law_draw := PySem.W.mg_of X G a_law_draw
  have g_law_pick := PySem.W.mg_of X G a_law_pick
  have g_law_same := PySem.W.mg_of X G a_law_same
  have g_law_gcd := PySem.W.mg_of X G a_law_gcd
  have g_law_told := PySem.W.mg_of X G a_law_told
  have g_law_sum_is := PySem.W.mg_of X G a_law_sum_is
  have g_law_even := PySem.W.mg_of X G a_law_even
  have g_law_roots := PySem.W.mg_of X G a_law_roots
  have g_law_table := PySem.W.mg_of X G a_law_table
  have g_law_unit := PySem.W.mg_of X G a_law_unit
  have g_law_rows_text := PySem.W.mg_of X G a_law_rows_text
  have g_law_no_bud := PySem.W.mg_of X G a_law_no_bud
  have g_law := PySem.W.mg_of X G a_law
  refine ⟨PySem.W.fnOf "law" "law" (defArgs s_law) (defBody s_law) (defScope s_law) .none kV_law dc_law pm_law an_law cd_law ct_law, fun s v => .of_eq rfl, fun base _ _ => ?_⟩
  have WC : WebC K mg C_Web := ⟨PySem.W.mg_of X G a_Web, ⟨pgW, hdW, poW, saW⟩, n_seedW, n_standingW, n_madeW, n_keptW⟩
  have WI : WebI K C_Web := ⟨haW, hmW, slfW, kSW, kTW⟩
  have ox_NoPlace : OexB K C_NoPlace "IndexError" "IndexError.__new__" "IndexError.__init__" [.type "IndexError", .type "LookupError", .type "Exception", .type "BaseException", .type "object"] := ⟨⟨nm_NoPlace, q_NoPlace, N_NoPlace, bs_NoPlace, sn_NoPlace, sub_NoPlace, ab_NoPlace, col_NoPlace, dd_NoPlace, m0_NoPlace, m1_NoPlace, m2_NoPlace, m3_NoPlace, m5_NoPlace, xL_NoPlace⟩, PySem.F.excBase_IndexError, PySem.F.store_IndexError, by decide, sa_NoPlace, eC_NoPlace, tC_NoPlace, kC_NoPlace⟩
  have te_NoPlace : PySem.W.exmOne K (.ref C_NoPlace) (.ref C_NoPlace) = some true := PySem.W.exm_ref eC_NoPlace hC_NoPlace tC_NoPlace sNoPlace_NoPlace
  have ea_NoPlace : PySem.W.exmAny K (.ref C_NoPlace) [.ref C_NoPlace] = some true := by
    unfold PySem.W.exmAny
    rw [te_NoPlace]
    rfl
  have T_NoPlace : ErrB K mg "NoPlace" C_NoPlace f_place_init C_BudError [.ref C_NoPlace] ixB ixN ixI ixL := ⟨PySem.W.mg_of X G a_NoPlace, ox_NoPlace, a_place_init, tI_NoPlace, nw_NoPlace, ⟨ga_NoPlace, gg_NoPlace, eC_NoPlace, hC_NoPlace⟩, PySem.W.exm_ref eB hB tyB s0_NoPlace, ea_NoPlace⟩
  have S : SumC K mg C_Sum := ⟨PySem.W.mg_of X G a_Sum, ⟨pg, hd, po, sa⟩, nw, np, hcl, hgt, htk, hmr, slf, kc⟩
  have F_init : FunD K "__init__" "Sum.__init__" (defArgs s_init) (defBody s_init) (defScope s_init) [.ref e_init] [] f_init _ := ⟨⟨oc_init, od_init, .ref T_init, kV_init, dc_init, pm_init, an_init, cd_init, ct_init, sl_init, rfl, l_init, c_init, .inr ⟨by simp, T_init, _, [.ref e_init], nT, rfl, lT, rfl, .cons rfl .nil⟩, .inl rfl⟩, k_init⟩
  obtain ⟨ds, vds, b_init⟩ := F_init.binds1 (ps := ["self", "width", "terms"]) 3 1 (by simp) rfl (fun T kV doc pm an cdv ct us its hl hi => match us, its, hl, hi with | [_, _, _], [_], _, _ => ⟨_, rfl, rfl⟩)
  have vds : Vals [] ds := vds
  cases vds
  have F_letter : FunD K "letter" "letter" (defArgs s_letter) (defBody s_letter) (defScope s_letter) [] [("by", .int 1)] f_letter _ := ⟨⟨oc_letter, od_letter, .none, .ref D_letter, dc_letter, pm_letter, an_letter, cd_letter, ct_letter, sl_letter, rfl, l_letter, c_letter, .inl ⟨rfl, rfl⟩, .inr ⟨D_letter, rfl, fun q hq => by
    rw [List.mem_singleton.mp hq]
    exact ⟨_, ns_by, t_by, rfl⟩⟩⟩, k_letter⟩
  obtain ⟨dsL, vdsL, b_letter⟩ := F_letter.binds0 (ps := ["width", "number", "by"]) 2 (by simp) rfl (fun D doc pm an cdv ct us ks hl hk => match us, ks, hl, hk with | [_, _], [_], _, _ => ⟨_, _, _, _, _, _, rfl, rfl, rfl⟩)
  have kbB : KBinds K (PySem.W.fnOf "bud" "Web.bud" (defArgs s_bud) (defBody s_bud) (defScope s_bud) .none kV_w_bud dc_w_bud pm_w_bud an_w_bud cd_w_bud ct_w_bud) ["self", "place"] ["place"] catL catL := by
    refine ⟨fun s us ws _ hl => ?_, fun {vs us zs ws} r1 r2 => ?_⟩
    · match us, ws, hl with
      | [_], [_], _ => exact .of_eq rfl
    · match vs, us, zs, ws, r1, r2 with
      | _, _, _, _, .cons a .nil, .cons b .nil => exact .cons a (.cons b .nil)
      | _, _, _, _, .nil, _ => exact .nil
      | _, _, _, _, .cons _ .nil, .nil => exact .nil
      | _, _, _, _, .cons _ .nil, .cons _ (.cons _ _) => exact .nil
      | _, _, _, _, .cons _ (.cons _ _), _ => exact .nil
  have kbW : KBn K (PySem.W.fnOf "__init__" "Web.__init__" (defArgs s_winit) (defBody s_winit) (defScope s_winit) .none kV_w_init dc_w_init pm_w_init an_w_init cd_w_init ct_w_init) ["self", "table"] 1 ["table"] catL catL := by
    refine ⟨fun s us ws _ hl hw => ?_, fun {vs us zs ws} r1 r2 => ?_⟩
    · match us, ws, hl, hw with
      | [_], [_], _, _ => exact .of_eq rfl
    · match vs, us, zs, ws, r1, r2 with
      | _, _, _, _, .cons a .nil, .cons b .nil => exact .cons a (.cons b .nil)
      | _, _, _, _, .nil, _ => exact .nil
      | _, _, _, _, .cons _ .nil, .nil => exact .nil
      | _, _, _, _, .cons _ .nil, .cons _ (.cons _ _) => exact .nil
      | _, _, _, _, .cons _ (.cons _ _), _ => exact .nil
  have tRepr : mg "repr" = none := PySem.W.mg_none_of X G z_repr
  have cDraw : Cal l.prog w K mg base CX0 1 "_law_draw" ["_law_feed_here", "_law_many"] spDraw := ⟨_, _, ok_draw F_law_draw T, g_law_draw, k_law_draw, b_law_draw⟩
  have cFeed : Cal l.prog w K mg base CX0 1 "_law_feed" ["_law_script"] (spFeed K) := ⟨_, _, ok_feed F_law_feed T, g_law_feed, k_law_feed, b_law_feed⟩
  have cPick : Cal l.prog w K mg base CX0 2 "_law_pick" ["_law_feed_here", "_law_row"] spPick := ⟨_, _, ok_pick (j := 0) F_law_pick T cDraw, g_law_pick, k_law_pick, b_law_pick⟩
  have cSame : Cal l.prog w K mg base CX0 5 "_law_same" ["_law_found", "_law_due"] (spSame 4) := ⟨_, _, ok_same F_law_same T g_law_same b_law_same 4, g_law_same, k_law_same, b_law_same⟩
  have cGcd : Cal l.prog w K mg base CX0 1 "_law_gcd" ["_law_one", "_law_other"] spGcd := ⟨_, _, ok_gcd F_law_gcd T, g_law_gcd, k_law_gcd, b_law_gcd⟩
  have cEven : Cal l.prog w K mg base CX0 3 "_law_even" ["_law_feed_here", "_law_many", "_law_reach"] spEven := ⟨_, _, ok_even (k := 0) F_law_even T cDraw cPick cGcd, g_law_even, k_law_even, b_law_even⟩
  have cRoots : Cal l.prog w K mg base CX0 2 "_law_roots" ["_law_feed_here", "_law_ties", "_law_most", "_law_reach"] spRoots := ⟨_, _, ok_roots (k := 0) F_law_roots T cDraw, g_law_roots, k_law_roots, b_law_roots⟩
  have cTable : Cal l.prog w K mg base CX0 4 "_law_table" ["_law_feed_here", "_law_most_buds", "_law_most_roots"] spTable := ⟨_, _, ok_table F_law_table T cDraw cEven cRoots, g_law_table, k_law_table, b_law_table⟩
  have cNum : Cal l.prog w K mg base CX0 1 "is_number" ["thing"] spIsNum := ⟨_, _, ok_isnum F_is_number T, g_is_number, k_is_number, b_is_number⟩
  have cRow : Cal l.prog w K mg base CX0 2 "is_row" ["row", "many"] spIsRow := ⟨_, _, ok_isrow F_is_row T cNum, g_is_row, k_is_row, b_is_row⟩
  have cForm : Cal l.prog w K mg base CX0 3 "check_form" ["table"] spGood := ⟨_, _, ok_form F_check_form T cRow, g_check_form, k_check_form, b_check_form⟩
  have cBuds : Cal l.prog w K mg base CX0 1 "bud_count" ["table"] spBuds := ⟨_, _, ok_buds F_bud_count T, g_bud_count, k_bud_count, b_bud_count⟩
  have cPair : Cal l.prog w K mg base CX0 1 "pair_bars" ["table", "i", "j"] spPair := ⟨_, _, ok_pair F_pair_bars T, g_pair_bars, k_pair_bars, b_pair_bars⟩
  have cUnl : Cal l.prog w K mg base CX0 1 "unlike_rows" ["many", "length"] spUnlike := ⟨_, _, ok_unlike F_unlike_rows T, g_unlike_rows, k_unlike_rows, b_unlike_rows⟩
  have cRing : Cal l.prog w K mg base CX0 1 "ring_bars" ["table", "ring"] spRing := ⟨_, _, ok_ring F_ring_bars T, g_ring_bars, k_ring_bars, b_ring_bars⟩
  have cBar : Cal l.prog w K mg base CX0 4 "barred" ["table"] spGood := ⟨_, _, ok_barred F_barred T cForm cBuds cPair cUnl cRing, g_barred, k_barred, b_barred⟩
  have cChk : Cal l.prog w K mg base CX0 5 "check_table" ["table"] spGood := ⟨_, _, ok_check F_check_table T cBar, g_check_table, k_check_table, b_check_table⟩
  have cCom : Cal l.prog w K mg base CX0 1 "common" ["one", "other"] spGcd := ⟨_, _, ok_common F_common T, g_common, k_common, b_common⟩
  have cLot : Cal l.prog w K mg base CX0 3 "lot_weights" ["table", "first"] spLot := ⟨_, _, ok_lot F_lot_weights T cBuds cCom, g_lot_weights, k_lot_weights, b_lot_weights⟩
  have FWt : FnOk l.prog w K mg base CX0 6 f_weights _ ["table"] spWeights := ok_weights F_weights T cChk cBuds cLot
  have cWt : Cal l.prog w K mg base CX0 6 "weights_tables" ["table"] spWeights := ⟨_, _, FWt, PySem.W.mg_of X G a_wt, k_weights, b_weights⟩
  have cUR : Cal l.prog w K mg base CX0 1 "unit_rows" ["many"] spURows := ⟨_, _, ok_urows F_unit_rows T, g_unit_rows, k_unit_rows, b_unit_rows⟩
  have cGath : Cal l.prog w K mg base CX0 1 "gathered" ["terms"] (spGath K) := ⟨_, _, ok_gath F_gathered T, g_gathered, k_gathered, b_gathered⟩
  have FI : FnOk l.prog w K mg base CX0 2 f_init _ ["self", "width", "terms"] (spInit K C_Sum) := ok_init F_init T S cGath
  have mkI : Mk K C_Sum f_init := ⟨mk, a_init, fn_init, kc⟩
  have M : MakS l.prog w K mg base 2 C_Sum ["self", "width", "terms"] (spInit K C_Sum) := ⟨f_init, _, mkI, FI, S.gl, b_init⟩
  have FL : FnOk l.prog w K mg base CX0 4 f_letter _ ["width", "number", "by"] (spLetter C_Sum) := ok_letter F_letter T S M
  have gL := PySem.W.mg_of X G a_letter
  have cLetter : CalD l.prog w K mg base 4 "letter" ["width", "number", "by"] (.int 1) (spLetter C_Sum) := ⟨_, _, dsL, FL, gL, k_letter, vdsL, b_letter⟩
  have cSeed : Cal l.prog w K mg base CX0 2 "first_seed" ["table"] spSeed0 := ⟨_, _, ok_seed0 F_first_seed T cUR cBuds, g_first_seed, k_first_seed, b_first_seed⟩
  have cSums : Cal l.prog w K mg base CX0 5 "first_sums" ["many"] (spSumsG C_Sum) := ⟨_, _, ok_sumsG F_first_sums T cLetter, g_first_sums, k_first_sums, b_first_sums⟩
  have cRT : Cal l.prog w K mg base CX0 1 "row_text" ["numbers"] spRowText := ⟨_, _, ok_rowtext F_row_text T, g_row_text, k_row_text, b_row_text⟩
  have cRsT : Cal l.prog w K mg base CX0 2 "rows_text" ["rows"] spRowsText := ⟨_, _, ok_rowstext F_rows_text T cRT, g_rows_text, k_rows_text, b_rows_text⟩
  have cLRT : Cal l.prog w K mg base CX0 1 "_law_rows_text" ["_law_rows"] spRowsText := ⟨_, _, ok_lrowstext F_law_rows_text T, g_law_rows_text, k_law_rows_text, b_law_rows_text⟩
  have cTold : Cal l.prog w K mg base CX0 1 "_law_told" ["_law_book"] spTold := ⟨_, _, ok_told F_law_told T, g_law_told, k_law_told, b_law_told⟩
  have cUnit : Cal l.prog w K mg base CX0 1 "_law_unit" ["_law_many", "_law_k"] spUnit := ⟨_, _, ok_unit F_law_unit T, g_law_unit, k_law_unit, b_law_unit⟩
  have FP : FnOk l.prog w K mg base CX0 1 f_place_init _ ["self", "place"] (spErrInitB1 K ixB ixN ixI ixL "no place" "place") := ok_placeinit F_place_init T vv_NoPlace
  have FSL : FnOk l.prog w K mg base CX0 1 f_s_len _ ["self"] (spLenM C_Sum) := ok_lenM F_s_len T S
  have mTerms : MetS l.prog w K mg base 1 C_Sum "terms" ["self"] (spTermsM C_Sum) := ⟨f_s_terms, _, S.cls, ⟨a_s_terms, fn_s_terms, k_s_terms⟩, ok_termsM F_s_terms T S, b_s_terms⟩
  have cIs : Cal l.prog w K mg base CX0 6 "_law_sum_is" ["_law_found", "_law_width", "_law_book"] (spIs C_Sum) := ⟨_, _, ok_is F_law_sum_is T S cSame cTold a_s_len fn_s_len FSL b_s_len mTerms, g_law_sum_is, k_law_sum_is, b_law_sum_is⟩
  have FW : FnOk l.prog w K mg base CX0 6 f_w_init _ ["self", "table"] (spWInitG C_Web C_Sum) := ok_winitG F_w_init T WC nCC cChk cSeed cSums
  have FWL : FnOk l.prog w K mg base CX0 1 f_w_len _ ["self"] (spWLen C_Web C_Sum) := ok_wlen F_w_len T WC
  have FSE : FnOk l.prog w K mg base CX0 1 f_s_eq _ ["self", "other"] (spSEq C_Sum) := ok_seq F_s_eq T S
  have FWE : FnOk l.prog w K mg base CX0 4 f_w_eq _ ["self", "other"] (spWEq C_Web C_Sum) := ok_weq F_w_eq T WC WI S a_s_eq fn_s_eq FSE b_s_eq
  have FWR : FnOk l.prog w K mg base CX0 3 f_w_repr _ ["self"] (spWRepr C_Web C_Sum) := ok_wrepr F_w_repr T WC a_w_len fn_w_len FWL b_w_len
  have FWS : FnOk l.prog w K mg base CX0 3 f_w_str _ ["self"] (spWStr C_Web C_Sum) := ok_wstr F_w_str T WC cRsT
  have FB : FnOk l.prog w K mg base (L2.CX l.prog w) 3 f_w_bud _ ["self", "place"] (spBud C_Web C_Sum C_NoPlace) := ok_bud F_w_bud T WC T_NoPlace nf_NoPlace FP b_place_init cNum
  have mTab : MetS l.prog w K mg base 1 C_Web "table" ["self"] (spWTable C_Web C_Sum) := ⟨f_w_table, _, WC.cls, ⟨a_w_table, fn_w_table, k_w_table⟩, ok_wtable F_w_table WC, b_w_table⟩
  have mHue : MetS l.prog w K mg base 1 C_Web "hues" ["self"] (spHues C_Web C_Sum) := ⟨f_w_hues, _, WC.cls, ⟨a_w_hues, fn_w_hues, k_w_hues⟩, ok_hues F_w_hues T WC, b_w_hues⟩
  have mLean : MetS l.prog w K mg base 1 C_Web "leans" ["self"] (spLeans C_Web C_Sum) := ⟨f_w_leans, _, WC.cls, ⟨a_w_leans, fn_w_leans, k_w_leans⟩, ok_leans F_w_leans T WC, b_w_leans⟩
  have mDone : MetS l.prog w K mg base 1 C_Web "done" ["self"] (spDone C_Web C_Sum) := ⟨f_w_done, _, WC.cls, ⟨a_w_done, fn_w_done, k_w_done⟩, ok_done F_w_done T WC, b_w_done⟩
  have mHeld : MetS l.prog w K mg base 1 C_Web "held" ["self"] (spHeldM C_Web C_Sum) := ⟨f_w_held, _, WC.cls, ⟨a_w_held, fn_w_held, k_w_held⟩, ok_heldM F_w_held T WC, b_w_held⟩
  have mPl : MetS l.prog w K mg base 1 C_Web "places" ["self"] (spPlaces C_Web C_Sum) := ⟨f_w_places, _, WC.cls, ⟨a_w_places, fn_w_places, k_w_places⟩, ok_places F_w_places T WC, b_w_places⟩
  have mWt : MetS l.prog w K mg base 7 C_Web "weights" ["self"] (spWWeights C_Web C_Sum) := ⟨f_w_weights, _, WC.cls, ⟨a_w_weights, fn_w_weights, k_w_weights⟩, ok_wweights F_w_weights WC cWt, b_w_weights⟩
  have mBuds : MetS l.prog w K mg base 3 C_Web "buds" ["self"] (spBudsM C_Web C_Sum) := ⟨f_w_buds, _, WC.cls, ⟨a_w_buds, fn_w_buds, k_w_buds⟩, ok_budsM F_w_buds T WC a_w_len fn_w_len FWL b_w_len, b_w_buds⟩
  have mBud : MetX l.prog w K mg base 3 C_Web "bud" ["self", "place"] (spBud C_Web C_Sum C_NoPlace) := ⟨f_w_bud, _, WC.cls, ⟨a_w_bud, fn_w_bud, k_w_bud⟩, FB, b_w_bud⟩
  have cNo : Cal l.prog w K mg base CX0 4 "_law_no_bud" ["_law_feed_here", "_law_web", "_law_wide"] (spNoBud C_Web C_Sum) := ⟨_, _, ok_nobud F_law_no_bud T WC T_NoPlace nf_NoPlace te_NoPlace cDraw ⟨a_w_bud, fn_w_bud, k_w_bud⟩ FB b_w_bud, g_law_no_bud, k_law_no_bud, b_law_no_bud⟩
  exact ok_law F_law T tRepr WC WI S nCC cFeed cTable cSame cUnit cLRT cIs cNo cWt mTab mHue mLean mDone mHeld mPl mWt mBuds mBud ⟨a_w_bud, fn_w_bud, k_w_bud⟩ FB kbB ⟨mkW, a_w_init, fn_w_init, kcW⟩ FW b_w_init kbW a_w_len fn_w_len FWL b_w_len hsBW hnS a_s_eq fn_s_eq FSE b_s_eq nfS nfT hnW a_w_eq fn_w_eq FWE b_w_eq a_w_repr fn_w_repr FWR b_w_repr a_w_str fn_w_str FWS b_w_str
end Bw
set_option Elab.async false
set_option linter.all false
open PySem PySem.W PyProof.Rows
set_option maxRecDepth 100000 in
set_option maxHeartbeats 0 in
theorem PySem.Challenge.cw_budwright_k17_webs_begun_holds : PySem.Challenge.rw_budwright_k17_webs_begun.Holds := by
  w_on; o_law
  refine HandSHeadRun.head_any (r := OpenLaw.row PySem.Challenge.rw_budwright_k17_webs_begun) (q := Hd.qv) (H := Hd.hk) (ob := Hd.ob) (M := 7000) (loose := Hd.names) (d := HandSHeadRun.topDef (OpenLaw.row PySem.Challenge.rw_budwright_k17_webs_begun).prog 91) (kwd := []) Hd.ob_eq (by kernel_rfl) (fun s => by kernel_rfl) Hd.run (by kernel_rfl) (by kernel_rfl) (by kernel_rfl) (by rfl) (by first | assumption | decide +kernel) (by decide +kernel) ⟨rfl, rfl, rfl, rfl, rfl, by decide +kernel⟩ ?hw ?hc
  case hw => w_witness2
  refine L2.walk_of (l := PySem.Challenge.rw_budwright_k17_webs_begun) (n := 63) (k := 8) (x := "_law_script") (K := Hd.K) (CX := fun _ => L2.CX0) (sp := fun w => Bw.spLaw _) rfl (by decide) (by kernel_rfl) ⟨rfl, by decide, by decide⟩ (fun w h Y => PySem.W.kIn_of Y) ?F (fun _ _ a ns hl _ hS => ⟨a, ns, rfl, hS, hl, fun _ => rfl⟩) (fun _ _ _ _ _ h => h)
  case F =>
    k_fill
    intro w mg fa h KX G hmg0
    have hmg : mg ("law" : PySem.Str) = some (.ref fa) := by
      have e : (HandSHeadRun.topDef (OpenLaw.row PySem.Challenge.rw_budwright_k17_webs_begun).prog 91).name = ("law" : PySem.Str) := by kernel_rfl
      rw [← e]
      exact hmg0
    refine' Bw.all_mk KX G hmg ?a_BudError ?a_NoPlace ?a_Sum ?a_Web ?a_is_number ?l_is_number ?c_is_number ?k_is_number ?a_row_text ?l_row_text ?c_row_text ?k_row_text ?a_rows_text ?l_rows_text ?c_rows_text ?k_rows_text ?a_is_row ?l_is_row ?c_is_row ?k_is_row ?a_check_form ?l_check_form ?c_check_form ?k_check_form ?a_check_table ?l_check_table ?c_check_table ?k_check_table ?a_bud_count ?l_bud_count ?c_bud_count ?k_bud_count ?a_unlike_rows ?l_unlike_rows ?c_unlike_rows ?k_unlike_rows ?a_pair_bars ?l_pair_bars ?c_pair_bars ?k_pair_bars ?a_ring_bars ?l_ring_bars ?c_ring_bars ?k_ring_bars ?a_barred ?l_barred ?c_barred ?k_barred ?a_common ?l_common ?c_common ?k_common ?a_lot_weights ?l_lot_weights ?c_lot_weights ?k_lot_weights ?a_weights ?l_weights ?c_weights ?k_weights ?a_unit_rows ?l_unit_rows ?c_unit_rows ?k_unit_rows ?a_gathered ?l_gathered ?c_gathered ?k_gathered ?a_first_seed ?l_first_seed ?c_first_seed ?k_first_seed ?a_first_sums ?l_first_sums ?c_first_sums ?k_first_sums ?a_law_feed ?l_law_feed ?c_law_feed ?k_law_feed ?a_law_draw ?l_law_draw ?c_law_draw ?k_law_draw ?a_law_pick ?l_law_pick ?c_law_pick ?k_law_pick ?a_law_same ?l_law_same ?c_law_same ?k_law_same ?a_law_gcd ?l_law_gcd ?c_law_gcd ?k_law_gcd ?a_law_told ?l_law_told ?c_law_told ?k_law_told ?a_law_sum_is ?l_law_sum_is ?c_law_sum_is ?k_law_sum_is ?a_law_even ?l_law_even ?c_law_even ?k_law_even ?a_law_roots ?l_law_roots ?c_law_roots ?k_law_roots ?a_law_table ?l_law_table ?c_law_table ?k_law_table ?a_law_unit ?l_law_unit ?c_law_unit ?k_law_unit ?a_law_rows_text ?l_law_rows_text ?c_law_rows_text ?k_law_rows_text ?a_law_no_bud ?l_law_no_bud ?c_law_no_bud ?k_law_no_bud ?a_law ?l_law ?c_law ?k_law ?a_place_init ?l_place_init ?c_place_init ?k_place_init ?a_w_init ?l_w_init ?c_w_init ?k_w_init ?a_w_table ?l_w_table ?c_w_table ?k_w_table ?a_w_weights ?l_w_weights ?c_w_weights ?k_w_weights ?a_w_places ?l_w_places ?c_w_places ?k_w_places ?a_w_bud ?l_w_bud ?c_w_bud ?k_w_bud ?a_w_buds ?l_w_buds ?c_w_buds ?k_w_buds ?a_w_hues ?l_w_hues ?c_w_hues ?k_w_hues ?a_w_leans ?l_w_leans ?c_w_leans ?k_w_leans ?a_w_done ?l_w_done ?c_w_done ?k_w_done ?a_w_held ?l_w_held ?c_w_held ?k_w_held ?a_w_len ?l_w_len ?c_w_len ?k_w_len ?a_w_eq ?l_w_eq ?c_w_eq ?k_w_eq ?a_w_str ?l_w_str ?c_w_str ?k_w_str ?a_w_repr ?l_w_repr ?c_w_repr ?k_w_repr ?a_s_terms ?l_s_terms ?c_s_terms ?k_s_terms ?a_s_len ?l_s_len ?c_s_len ?k_s_len ?a_s_eq ?l_s_eq ?c_s_eq ?k_s_eq ?z_len ?z_range ?z_zip ?z_abs ?z_all ?z_any ?z_max ?z_min ?z_sorted ?z_isinstance ?z_int ?z_bool ?z_tuple ?z_list ?z_dict ?z_str ?z_ValueError ?z_IndexError ?z_enumerate ?i_MOST_TIE ?i_MOST_BUDS ?i_MOST_ROOTS ?i_MOST_WALK ?i_WIDE ?tyB ?eB ?hB ?eC_NoPlace ?tC_NoPlace ?hC_NoPlace ?xL_NoPlace ?sa_NoPlace ?ga_NoPlace ?gg_NoPlace ?nw_NoPlace ?tI_NoPlace ?kC_NoPlace ?s0_NoPlace ?vv_NoPlace ?sNoPlace_NoPlace ?nf_NoPlace ?a_init ?l_init ?c_init ?k_init ?lT ?fn_init ?lE ?mk ?kc ?pg ?hd ?po ?sa ?nw ?np ?hcl ?hgt ?htk ?hmr ?slf ?a_letter ?l_letter ?c_letter ?k_letter ?ns_by ?mkW ?kcW ?pgW ?hdW ?poW ?saW ?n_seedW ?n_standingW ?n_madeW ?n_keptW ?fn_w_init ?fn_w_table ?fn_w_weights ?fn_w_places ?fn_w_bud ?fn_w_buds ?fn_w_hues ?fn_w_leans ?fn_w_done ?fn_w_held ?fn_w_len ?fn_w_eq ?fn_w_str ?fn_w_repr ?fn_s_terms ?fn_s_len ?fn_s_eq ?a_wt ?haW ?hmW ?slfW ?kSW ?kTW ?hsBW ?hnS ?nfS ?nfT ?hnW ?z_repr ?nCC
    (case a_BudError => k_is)
    (case a_NoPlace => k_is)
    (case a_Sum => k_is)
    (case a_Web => k_is)
    (case a_is_number => k_is)
    (case l_is_number => k_is)
    (case c_is_number => k_is)
    (case k_is_number => k_is)
    (case a_row_text => k_is)
    (case l_row_text => k_is)
    (case c_row_text => k_is)
    (case k_row_text => k_is)
    (case a_rows_text => k_is)
    (case l_rows_text => k_is)
    (case c_rows_text => k_is)
    (case k_rows_text => k_is)
    (case a_is_row => k_is)
    (case l_is_row => k_is)
    (case c_is_row => k_is)
    (case k_is_row => k_is)
    (case a_check_form => k_is)
    (case l_check_form => k_is)
    (case c_check_form => k_is)
    (case k_check_form => k_is)
    (case a_check_table => k_is)
    (case l_check_table => k_is)
    (case c_check_table => k_is)
    (case k_check_table => k_is)
    (case a_bud_count => k_is)
    (case l_bud_count => k_is)
    (case c_bud_count => k_is)
    (case k_bud_count => k_is)
    (case a_unlike_rows => k_is)
    (case l_unlike_rows => k_is)
    (case c_unlike_rows => k_is)
    (case k_unlike_rows => k_is)
    (case a_pair_bars => k_is)
    (case l_pair_bars => k_is)
    (case c_pair_bars => k_is)
    (case k_pair_bars => k_is)
    (case a_ring_bars => k_is)
    (case l_ring_bars => k_is)
    (case c_ring_bars => k_is)
    (case k_ring_bars => k_is)
    (case a_barred => k_is)
    (case l_barred => k_is)
    (case c_barred => k_is)
    (case k_barred => k_is)
    (case a_common => k_is)
    (case l_common => k_is)
    (case c_common => k_is)
    (case k_common => k_is)
    (case a_lot_weights => k_is)
    (case l_lot_weights => k_is)
    (case c_lot_weights => k_is)
    (case k_lot_weights => k_is)
    (case a_weights => k_is)
    (case l_weights => k_is)
    (case c_weights => k_is)
    (case k_weights => k_is)
    (case a_unit_rows => k_is)
    (case l_unit_rows => k_is)
    (case c_unit_rows => k_is)
    (case k_unit_rows => k_is)
    (case a_gathered => k_is)
    (case l_gathered => k_is)
    (case c_gathered => k_is)
    (case k_gathered => k_is)
    (case a_first_seed => k_is)
    (case l_first_seed => k_is)
    (case c_first_seed => k_is)
    (case k_first_seed => k_is)
    (case a_first_sums => k_is)
    (case l_first_sums => k_is)
    (case c_first_sums => k_is)
    (case k_first_sums => k_is)
    (case a_law_feed => k_is)
    (case l_law_feed => k_is)
    (case c_law_feed => k_is)
    (case k_law_feed => k_is)
    (case a_law_draw => k_is)
    (case l_law_draw => k_is)
    (case c_law_draw => k_is)
    (case k_law_draw => k_is)
    (case a_law_pick => k_is)
    (case l_law_pick => k_is)
    (case c_law_pick => k_is)
    (case k_law_pick => k_is)
    (case a_law_same => k_is)
    (case l_law_same => k_is)
    (case c_law_same => k_is)
    (case k_law_same => k_is)
    (case a_law_gcd => k_is)
    (case l_law_gcd => k_is)
    (case c_law_gcd => k_is)
    (case k_law_gcd => k_is)
    (case a_law_told => k_is)
    (case l_law_told => k_is)
    (case c_law_told => k_is)
    (case k_law_told => k_is)
    (case a_law_sum_is => k_is)
    (case l_law_sum_is => k_is)
    (case c_law_sum_is => k_is)
    (case k_law_sum_is => k_is)
    (case a_law_even => k_is)
    (case l_law_even => k_is)
    (case c_law_even => k_is)
    (case k_law_even => k_is)
    (case a_law_roots => k_is)
    (case l_law_roots => k_is)
    (case c_law_roots => k_is)
    (case k_law_roots => k_is)
    (case a_law_table => k_is)
    (case l_law_table => k_is)
    (case c_law_table => k_is)
    (case k_law_table => k_is)
    (case a_law_unit => k_is)
    (case l_law_unit => k_is)
    (case c_law_unit => k_is)
    (case k_law_unit => k_is)
    (case a_law_rows_text => k_is)
    (case l_law_rows_text => k_is)
    (case c_law_rows_text => k_is)
    (case k_law_rows_text => k_is)
    (case a_law_no_bud => k_is)
    (case l_law_no_bud => k_is)
    (case c_law_no_bud => k_is)
    (case k_law_no_bud => k_is)
    (case a_law => k_is)
    (case l_law => k_is)
    (case c_law => k_is)
    (case k_law => k_is)
    (case a_place_init => k_is)
    (case l_place_init => k_is)
    (case c_place_init => k_is)
    (case k_place_init => k_is)
    (case a_w_init => k_is)
    (case l_w_init => k_is)
    (case c_w_init => k_is)
    (case k_w_init => k_is)
    (case a_w_table => k_is)
    (case l_w_table => k_is)
    (case c_w_table => k_is)
    (case k_w_table => k_is)
    (case a_w_weights => k_is)
    (case l_w_weights => k_is)
    (case c_w_weights => k_is)
    (case k_w_weights => k_is)
    (case a_w_places => k_is)
    (case l_w_places => k_is)
    (case c_w_places => k_is)
    (case k_w_places => k_is)
    (case a_w_bud => k_is)
    (case l_w_bud => k_is)
    (case c_w_bud => k_is)
    (case k_w_bud => k_is)
    (case a_w_buds => k_is)
    (case l_w_buds => k_is)
    (case c_w_buds => k_is)
    (case k_w_buds => k_is)
    (case a_w_hues => k_is)
    (case l_w_hues => k_is)
    (case c_w_hues => k_is)
    (case k_w_hues => k_is)
    (case a_w_leans => k_is)
    (case l_w_leans => k_is)
    (case c_w_leans => k_is)
    (case k_w_leans => k_is)
    (case a_w_done => k_is)
    (case l_w_done => k_is)
    (case c_w_done => k_is)
    (case k_w_done => k_is)
    (case a_w_held => k_is)
    (case l_w_held => k_is)
    (case c_w_held => k_is)
    (case k_w_held => k_is)
    (case a_w_len => k_is)
    (case l_w_len => k_is)
    (case c_w_len => k_is)
    (case k_w_len => k_is)
    (case a_w_eq => k_is)
    (case l_w_eq => k_is)
    (case c_w_eq => k_is)
    (case k_w_eq => k_is)
    (case a_w_str => k_is)
    (case l_w_str => k_is)
    (case c_w_str => k_is)
    (case k_w_str => k_is)
    (case a_w_repr => k_is)
    (case l_w_repr => k_is)
    (case c_w_repr => k_is)
    (case k_w_repr => k_is)
    (case a_s_terms => k_is)
    (case l_s_terms => k_is)
    (case c_s_terms => k_is)
    (case k_s_terms => k_is)
    (case a_s_len => k_is)
    (case l_s_len => k_is)
    (case c_s_len => k_is)
    (case k_s_len => k_is)
    (case a_s_eq => k_is)
    (case l_s_eq => k_is)
    (case c_s_eq => k_is)
    (case k_s_eq => k_is)
    (case z_len => k_is)
    (case z_range => k_is)
    (case z_zip => k_is)
    (case z_abs => k_is)
    (case z_all => k_is)
    (case z_any => k_is)
    (case z_max => k_is)
    (case z_min => k_is)
    (case z_sorted => k_is)
    (case z_isinstance => k_is)
    (case z_int => k_is)
    (case z_bool => k_is)
    (case z_tuple => k_is)
    (case z_list => k_is)
    (case z_dict => k_is)
    (case z_str => k_is)
    (case z_ValueError => k_is)
    (case z_IndexError => k_is)
    (case z_enumerate => k_is)
    (case i_MOST_TIE => k_is)
    (case i_MOST_BUDS => k_is)
    (case i_MOST_ROOTS => k_is)
    (case i_MOST_WALK => k_is)
    (case i_WIDE => k_is)
    (case tyB => k_is)
    (case eB => k_is)
    (case hB => k_is)
    (case eC_NoPlace => k_is)
    (case tC_NoPlace => k_is)
    (case hC_NoPlace => k_is)
    (case xL_NoPlace => k_is)
    (case sa_NoPlace => k_is)
    (case ga_NoPlace => k_is)
    (case gg_NoPlace => k_is)
    (case nw_NoPlace => k_is)
    (case tI_NoPlace => k_is)
    (case kC_NoPlace => k_is)
    (case s0_NoPlace => first | rfl | k_is)
    (case vv_NoPlace => k_is)
    (case sNoPlace_NoPlace => first | rfl | k_is)
    (case nf_NoPlace => k_is)
    (case a_init => k_is)
    (case l_init => k_is)
    (case c_init => k_is)
    (case k_init => k_is)
    (case lT => k_is)
    (case fn_init => k_is)
    (case lE => k_is)
    (case mk => k_is)
    (case kc => k_is)
    (case pg => k_is)
    (case hd => k_is)
    (case po => k_is)
    (case sa => k_is)
    (case nw => k_is)
    (case np => k_is)
    (case hcl => k_is)
    (case hgt => k_is)
    (case htk => first | k_is | rfl)
    (case hmr => first | k_is | rfl)
    (case slf => first | k_is | rfl)
    (case a_letter => k_is)
    (case l_letter => k_is)
    (case c_letter => k_is)
    (case k_letter => k_is)
    (case ns_by => k_is)
    (case mkW => k_is)
    (case kcW => k_is)
    (case pgW => k_is)
    (case hdW => k_is)
    (case poW => k_is)
    (case saW => k_is)
    (case n_seedW => k_is)
    (case n_standingW => k_is)
    (case n_madeW => k_is)
    (case n_keptW => k_is)
    (case fn_w_init => k_is)
    (case fn_w_table => k_is)
    (case fn_w_weights => k_is)
    (case fn_w_places => k_is)
    (case fn_w_bud => k_is)
    (case fn_w_buds => k_is)
    (case fn_w_hues => k_is)
    (case fn_w_leans => k_is)
    (case fn_w_done => k_is)
    (case fn_w_held => k_is)
    (case fn_w_len => k_is)
    (case fn_w_eq => k_is)
    (case fn_w_str => k_is)
    (case fn_w_repr => k_is)
    (case fn_s_terms => k_is)
    (case fn_s_len => k_is)
    (case fn_s_eq => k_is)
    (case a_wt => k_is)
    (case haW => k_is)
    (case hmW => first | k_is | rfl)
    (case slfW => first | k_is | rfl)
    (case kSW => first | k_is | rfl)
    (case kTW => first | k_is | rfl)
    (case hsBW => k_is)
    (case hnS => k_is)
    (case nfS => first | k_is | rfl)
    (case nfT => first | k_is | rfl)
    (case hnW => k_is)
    (case z_repr => k_is)
    (case nCC => decide)
