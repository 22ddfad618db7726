import PyProof.Rows.All
import Wide.All
import OpenK.AllK
import Wide.FinOn
import HandS.ForMost
import HandS.ForExc
import HandS.SortOrd
import HandS.SortRule
import HandS.SortKw
import HandS.Conv
import HandS.NamedTupSort
import KE.KDictPairs
import HandS.Codes
import HandS.IsInst
import HandS.Zip
import HandS.Walk
import HandS.TupAny
import HandS.TupMul
import HandS.Flow
import HandS.ExcInit
import HandS.OwnEq
import HandS.Style
import PyProof.InstEq
import HandS.Wide
import HandS.Text
import HandS.RevTup
import HandS.Rev
import HandS.FStr
import PyProof.JoinWalk
import KE.KCallOwn
import PyProof.Conv_bool
import KE.KEqDict
import PyProof.StrLoop
import KE.IntTextLaws
import HandS.ExcField
import HandS.CallSlots
import HandS.More
import HandS.Lambda
import HandS.EndOwn
import HandS.NestedK
import HandS.ExcIs
import PySem.Challenge.RW_budwright_k16_tables_written_and_read
set_option Elab.async false
set_option linter.all false
set_option maxRecDepth 100000
set_option maxHeartbeats 4000000
namespace Bw
open PySem PySem.Spec PyProof.Rows L2
/-! ### tuples of ints in order -/
def IsTupI (h : Heap) (v : Value) (p : List Int) : Prop := ∃ a o its n, v = .ref a ∧ h.get? a = some o ∧ o.cls = .type "tuple" ∧ o.data = .seq its n ∧ IntsAre its.toList p
theorem IsTupI.keeps {h h' : Heap} {v : Value} {p : List Int} (x : IsTupI h v p) (k : ∀ b o, h.get? b = some o → o.cls = .type "tuple" → h'.get? b = some o) : IsTupI h' v p := by
  obtain ⟨a, o, its, n, e, ho, hc, hd, hi⟩ := x
  exact ⟨a, o, its, n, e, k _ _ ho hc, hc, hd, hi⟩
section
variable {prog : Program} {w : World} {A : Around} {s : Shared}
theorem kat_ints {b : Bool} {Q : Bool → Shared → Prop} : ∀ {ps : List Value} {p : List Int}, IntsAre ps p → ∀ {qs : List Value} {q : List Int}, IntsAre qs q → ∀ (i : Nat) (fin : Bool), fin = decide (ps.length < qs.length) → Q (HT.lexLt p q) s → PySem.W.KatLex prog w A b fin Q (ps.zip qs) i s
  | _, _, .nil, _, _, .nil, i, fin, hf, hq => by
    subst hf
    exact PySem.W.kat_nil hq
  | _, _, .nil, _, _, .cons _ _ _, i, fin, hf, hq => by
    have e : fin = true := by
      rw [hf]
      exact decide_eq_true (by rw [List.length_cons]; exact Nat.succ_pos _)
    subst e
    exact PySem.W.kat_nil hq
  | _, _, .cons _ _ _, _, _, .nil, i, fin, hf, hq => by
    have e : fin = false := by
      rw [hf]
      exact decide_eq_false (by rw [List.length_nil]; omega)
    subst e
    exact PySem.W.kat_nil hq
  | _, _, .cons x t r, _, _, .cons y u r', i, fin, hf, hq => by
    rw [List.zip_cons_cons]
    refine PySem.W.kat_cons (SeqAt.EqAt.int_int _ _ _ _ prog w _ _ ?_)
    rw [HT.lexLt_cons] at hq
    refine PySem.W.kat_go (fun e1 => ?_) (fun e1 => ?_)
    · have ex : x = y := by simpa using e1
      rw [if_pos ex] at hq
      exact PySem.W.kat_yes (kat_ints r r' (i + 1) fin (by rw [hf, List.length_cons, List.length_cons]; congr 1; simp) hq)
    · have ex : ¬ x = y := by simpa using e1
      rw [if_neg ex] at hq
      exact PySem.W.kat_no (TS.oneLt_ints _ hq)
theorem tup_cmp {vs : List Value} {k : Value → List Int} (hp : ∀ v ∈ vs, IsTupI s.heap v (k v)) : SrtO.Cmp prog w A s (tuples' true) (fun p => p.1 ∈ vs) (SrtO.lt2 fun v u => HT.lexLt (k v) (k u)) := by
  intro p q hm hm'
  obtain ⟨a, o, its, n, e, ho, hc, hd, hi⟩ := hp _ hm
  obtain ⟨a', o', its', n', e', ho', hc', hd', hi'⟩ := hp _ hm'
  show wpAny (model prog w) A (keyLt' (tuples' true) p.1 q.1) (fun r s' => s' = s ∧ r = HT.lexLt (k p.1) (k q.1)) (fun _ _ => False) s
  generalize k p.1 = x at hi ⊢
  generalize k q.1 = y at hi' ⊢
  rw [e, e']
  exact PySem.W.kat_lt ho hd ho' hd' (kat_ints hi hi' 0 _ (by rw [Array.length_toList, Array.length_toList]) ⟨rfl, rfl⟩)
theorem firsts_tup {h : Heap} : ∀ {vs : List Value}, (∀ v ∈ vs, ∃ x p, IsTupI h v (x :: p)) → ∃ fs : List Value, PySem.W.KatTups h vs fs ∧ fs.length = vs.length ∧ ∀ f ∈ fs, ∃ x t, f = Value.int x t
  | [], _ => ⟨[], PySem.W.KatTups.nil, rfl, fun _ hm => by simp at hm⟩
  | v :: vs, hp => by
    obtain ⟨fs, h1, h2, h3⟩ := firsts_tup (vs := vs) fun v' hm => hp v' (List.mem_cons_of_mem _ hm)
    obtain ⟨x, p, a, o, its, n, e, ho, hc, hd, hi⟩ := hp v (List.mem_cons_self ..)
    subst e
    cases hl : its.toList with
    | nil =>
      rw [hl] at hi
      cases hi
    | cons f r =>
      rw [hl] at hi
      cases hi with
      | cons _ t hr =>
        refine ⟨.int x t :: fs, PySem.W.KatTups.cons ho hc hd (by rw [← Array.getElem?_toList, hl]; rfl) h1, by rw [List.length_cons, List.length_cons, h2], fun g hg => ?_⟩
        rcases List.mem_cons.mp hg with rfl | hg
        · exact ⟨x, t, rfl⟩
        · exact h3 g hg
theorem tups_sortable {a : Addr} {vs : List Value} {k : Value → List Int} (h0 : 0 < vs.length) (hp : ∀ v ∈ vs, IsTupI s.heap v (k v)) (hne : ∀ v ∈ vs, k v ≠ []) (ha : ∀ o, s.heap.get? a = some o → o.cls ≠ .type "tuple") : SrtO.SortableO prog w A s a vs fun v u => HT.lexLt (k v) (k u) := by
  intro h' keep
  have hp' : ∀ v ∈ vs, IsTupI h' v (k v) := fun v hm => (hp v hm).keeps fun b o e c => keep b o (fun z => by subst z; exact ha o e c) e
  obtain ⟨fs, h1, h2, h3⟩ := firsts_tup fun v hm => by
    have x := hp' v hm
    cases e : k v with
    | nil => exact absurd e (hne v hm)
    | cons y p =>
      rw [e] at x
      exact ⟨y, p, x⟩
  refine ⟨tuples' true, fun Q E hq => ?_, tup_cmp hp'⟩
  have e0 : (Value.type "int" != Value.type "tuple") = true := by decide +kernel
  refine PySem.W.kat_kind (T := .type "int") h1 (by rw [h2]; exact h0) (fun g hg => ?_) rfl (by rw [e0]; exact hq)
  obtain ⟨x, t, rfl⟩ := h3 g hg
  exact PySem.W.Looks.now
end
/-! ### as rules of the layer -/
def unInt : V → Int
  | .int i => i
  | _ => 0
def unRef : Value → Addr
  | .ref a => a
  | _ => 0
/-- the ints of the tuple at b -/
def keyOf (H : Hp) (b : Addr) : List Int := match H b with
  | some (.tup xs) => xs.map unInt
  | _ => []
theorem keyOf_at {H : Hp} {b : Addr} {q : List Int} (h : H b = some (.tup (q.map V.int))) : keyOf H b = q := by
  unfold keyOf
  rw [h]
  show (q.map V.int).map unInt = q
  rw [List.map_map]
  have e : unInt ∘ V.int = id := rfl
  rw [e, List.map_id]
theorem unRef_map : ∀ {us : List Value} {ts : List Addr}, us = ts.map Value.ref → us.map unRef = ts
  | _, ts, rfl => by
    rw [List.map_map]
    have e : unRef ∘ Value.ref = id := rfl
    rw [e, List.map_id]
theorem ref_map : ∀ {us : List Value} {ts : List Addr}, (∀ u ∈ us, u ∈ ts.map Value.ref) → us = (us.map unRef).map Value.ref
  | [], _, _ => rfl
  | u :: us, ts, h => by
    obtain ⟨t, _, e⟩ := List.mem_map.mp (h u (List.mem_cons_self ..))
    subst e
    show _ = Value.ref t :: (us.map unRef).map Value.ref
    rw [← ref_map (ts := ts) fun v hv => h v (List.mem_cons_of_mem _ hv)]
section
variable {X : Cx}
theorem tupI_of {pins : List (Addr × Obj)} {s : Shared} {σ : L2.St} {H : Hp} (I : L2.Inv X pins σ H s) {t : Addr} {q : List Int} (ht : H t = some (.tup (q.map V.int))) : IsTupI s.heap (.ref t) (keyOf H t) := by
  rw [keyOf_at ht]
  obtain ⟨_, its2, r2, o, ho, hc, n, hd⟩ := I.hok _ _ ht
  exact ⟨t, o, _, n, rfl, ho, hc, hd, r2.ints⟩
/-- sorted(xs), a list of tuples of ints: rising -/
def rSortTI (K : PySem.W.Frag) : List V → Hp → VK → Prop := fun vs H Q => ∃ (a : Addr) (ts : List Addr), vs = [V.ref a] ∧ SqL K H a (ts.map V.ref) ∧ (∀ t ∈ ts, ∃ q : List Int, H t = some (.tup (q.map V.int))) ∧ (2 ≤ ts.length → ∀ t ∈ ts, keyOf H t ≠ []) ∧
  ∀ (ts' : List Addr) (p : Addr), ts'.Perm ts → ts'.Pairwise (fun x y => HT.lexLt (keyOf H y) (keyOf H x) = false) → H p = none → Q (.ref p) (upd H p (.lst (ts'.map V.ref)))
theorem cr_sortTI {K : PySem.W.Frag} (hK : X.K = K := by rfl) : CallR X (.builtin "sorted") (rSortTI K) := by
  subst hK
  intro pins s σ H vs us Q I r h
  obtain ⟨a, ts, rfl, hs, hx, hne, q⟩ := h
  obtain ⟨its, rv, hl, hz⟩ := I.list hs
  obtain ⟨u, rfl, ru⟩ := vals1 r
  obtain rfl : u = Value.ref a := ru
  have ei := refs_at rv
  have lz : its.length ≤ sizeLine := by
    rw [← rv.length]
    exact hz
  have hk : ∀ (h₁ : Heap), (∀ b o, s.heap.get? b = some o → h₁.get? b = some o) → ∀ v ∈ its, IsTupI h₁ v (keyOf H (unRef v)) := fun h₁ kk v hv => by
    rw [ei] at hv
    obtain ⟨t, ht, rfl⟩ := List.mem_map.mp hv
    obtain ⟨q', hq'⟩ := hx t ht
    exact (tupI_of I hq').keeps fun b o e _ => kk b o e
  refine SrtO.sorted_ord (NtL.swo_lexL fun v => keyOf H (unRef v)) hl.isList lz (fun h2 h₁ a' ha kk => ?_) fun out hs hb => ?_
  · refine tups_sortable (s := { s with heap := h₁ }) (by omega) (hk h₁ fun b o e => (kk b o e).2) (fun v hv => ?_) fun o e => ?_
    · rw [ei] at hv h2
      obtain ⟨t, ht, rfl⟩ := List.mem_map.mp hv
      rw [List.length_map] at h2
      exact hne h2 t ht
    · have e' : some o = some (seqObj "list" its.toArray 0) := e.symm.trans ha
      cases e'
      intro c
      exact absurd (Value.type.inj c) (by decide)
  · have hm : ∀ u ∈ out, u ∈ ts.map Value.ref := fun u hu => by
      rw [← ei]
      exact hb.perm.mem_iff.mp hu
    have eo := ref_map hm
    have hp : (out.map unRef).Perm ts := by
      have z := hb.perm.map unRef
      rw [unRef_map ei] at z
      exact z
    obtain ⟨n, hn⟩ := PyProof.Rows.sortedAll_at s.heap its out.toArray
    refine ⟨.ref (s.heap.objs.size + 1), upd H (s.heap.objs.size + 1) (.lst ((out.map unRef).map V.ref)), I.laid (t' := s.toks) (fun b o e => PyProof.Rows.sortedAll_old e) (Nat.le_succ _) ⟨?_, out, n, ?_, hn⟩, rfl, q _ _ hp (List.pairwise_map.mpr hs) (I.hok.fresh (Nat.le_succ _))⟩
    · rw [List.length_map, hp.length_eq, ← List.length_map (f := V.ref)]
      exact hz
    · have z := vals_refs (out.map unRef)
      rw [← eo] at z
      exact z
/-- the key tuples of a dict, as they are collected -/
theorem acc_keys {P : Program} {w : World} {es : Array DictEntry} {ks : List (List Key × Addr × Value)} {acc : Array Value} (he : es.toList = ks.map (entryOfKey (tupleKind (mixKind P w)))) (it : ItemsOf (fun i v => ∃ en : DictEntry, es[i]? = some en ∧ v = en.key) acc es.size) :
    acc.toList = (ks.map fun x => x.2.1).map Value.ref := by
  have l1 : es.size = ks.length := size_of_entries he
  apply List.ext_getElem?
  intro j
  rw [List.getElem?_map, List.getElem?_map]
  cases hj : acc.toList[j]? with
  | none =>
    have h1 := List.getElem?_eq_none_iff.mp hj
    rw [Array.length_toList, it.1] at h1
    rw [List.getElem?_eq_none (show ks.length ≤ j by omega)]
    rfl
  | some v =>
    obtain ⟨en, hen, hv⟩ := it.2 j v (by rw [← Array.getElem?_toList]; exact hj)
    have qe := entry_at he j
    rw [hen] at qe
    cases hb : ks[j]? with
    | none =>
      rw [hb] at qe
      cases qe
    | some b =>
      rw [hb] at qe
      have e2 := Option.some.inj qe
      rw [hv, e2]
      rfl
/-- the keys of a dict, tuples of ints -/
def KeysI (kvs : List (List Key × V)) (ps : List (List Int)) : Prop := kvs.map (·.1) = ps.map (List.map Sum.inl)
/-- sorted(d, reverse=True), a dict whose keys are tuples of ints: falling -/
def rSortDT : List V → List V → Hp → VK → Prop := fun vs zs H Q => ∃ (d : Addr) (kvs : List (List Key × V)) (ps : List (List Int)), vs = [V.ref d] ∧ zs = [.bl true] ∧ Rd H d (.dT kvs) ∧ KeysI kvs ps ∧ (2 ≤ ps.length → ∀ q ∈ ps, q ≠ []) ∧
  ∀ (bs : List Addr) (p : Addr), (∀ b ∈ bs, ∃ q : List Int, H b = some (.tup (q.map V.int))) → (bs.map (keyOf H)).Perm ps → bs.Pairwise (fun x y => HT.lexLt (keyOf H x) (keyOf H y) = false) → H p = none → Q (.ref p) (upd H p (.lst (bs.map V.ref)))
theorem keys_kt {H : Hp} : ∀ {kvs : List (List Key × V)} {ks : List (List Key × Addr × Value)} {ps : List (List Int)}, KT H kvs ks → KeysI kvs ps → (∀ b ∈ ks.map (fun x => x.2.1), ∃ q : List Int, H b = some (.tup (q.map V.int))) ∧ (ks.map fun x => x.2.1).map (keyOf H) = ps
  | _, _, ps, .nil, h => by
    cases ps with
    | nil => exact ⟨fun b hb => by simp at hb, rfl⟩
    | cons q ps => cases h
  | _, _, ps, .cons (a := kv) (b := x) hx t, h => by
    cases ps with
    | nil => cases h
    | cons q ps =>
      have h' : kv.1 :: _ = q.map Sum.inl :: ps.map (List.map Sum.inl) := h
      obtain ⟨e1, e2⟩ := List.cons.inj h'
      obtain ⟨i1, i2⟩ := keys_kt t e2
      have hq : H x.2.1 = some (.tup (q.map V.int)) := by
        rw [hx.2.1, e1, List.map_map]
        rfl
      refine ⟨fun b hb => ?_, ?_⟩
      · rcases List.mem_cons.mp hb with rfl | hb
        · exact ⟨q, hq⟩
        · exact i1 b hb
      · show keyOf H x.2.1 :: _ = q :: ps
        rw [keyOf_at hq, i2]
theorem cr_sortDT (hc : X.calm = true) : CallRK X (.builtin "sorted") [Str.ofString "reverse"] rSortDT := by
  intro pins s σ H vs zs us ws Q I r rz h
  obtain ⟨d, kvs, ps, rfl, rfl, hd, hK, hne, q⟩ := h
  obtain rfl := Vals.ref1 r
  obtain ⟨w1, rfl, e1⟩ := vals1 rz
  obtain rfl : w1 = Value.bool true := e1
  obtain ⟨z, hs, ks, pr, o, es, ep, ho, hx, hdt, he, hn⟩ := (show ObjOk X.prog X.w H s.heap d (.dT kvs) from hd.ok I.hok)
  have l1 : es.size = ks.length := size_of_entries he
  have l2 : kvs.length = ks.length := Paired.length pr
  obtain ⟨k1, k2⟩ := keys_kt pr hK
  have l3 : ks.length = ps.length := by
    rw [← k2, List.length_map, List.length_map]
  show wpAny (model X.prog X.w) X.A (call (.builtin "sorted") [.ref d] [(Str.ofString "reverse", .bool true)]) _ _ _
  refine PyProof.Rows.call_function_entry_kw PyProof.Rows.kind_sorted PyProof.Rows.plain_sorted PyProof.Rows.entry_sorted (PyProof.Rows.args_sorted_rev _ _) ?_
  unfold Builtin.«sorted»
  refine wpAny_bind (m := checkCount "sorted" 1 1 _) (wpAny_pure ?_)
  refine wpAny_bind (PySem.W.kdu_collect (A := X.A.in1) (kdl_raw hs hx hdt) (I.ok.hd hc) ho (by omega) fun h' tk acc hk hacc => ?_)
  have ea := acc_keys he hacc
  generalize (ks.map fun x => x.2.1) = ts at ea k1 k2
  have I1 : Inv X pins σ H { s with heap := h', toks := tk } := I.kept hk
  have lts : ts.length = ps.length := by
    rw [← k2, List.length_map]
  have lz : acc.toList.length ≤ sizeLine := by
    rw [ea, List.length_map]
    omega
  refine wpAny_bind (wpAny_newList ?_ lz)
  have hoL : (h'.push (seqObj "list" acc.toList.toArray 0)).get? h'.objs.size = some (seqObj "list" acc.toList.toArray 0) := Heap.get?_push_size _ rfl
  show wpAny _ _ _ _ _ { s with heap := h'.push (seqObj "list" acc.toList.toArray 0), toks := tk }
  have kp : ∀ b o, h'.get? b = some o → b ≠ h'.objs.size ∧ (h'.push (seqObj "list" acc.toList.toArray 0)).get? b = some o := fun b o e => ⟨Nat.ne_of_lt (Heap.lt_size e), Heap.get?_push_of_some _ e⟩
  refine wpAny_bind (wpAny_holding (wpAny_call_entry_kw PyProof.Rows.slot_list_sort ⟨_, hoL, rfl⟩ PyProof.Rows.entry_list_sort (SrtR.list_sort_ordR (b := true) (s := { s with heap := h'.push (seqObj "list" acc.toList.toArray 0), toks := tk }) (NtL.swo_lexL fun v => keyOf H (unRef v)) hoL lz (fun h2 => ?_) fun out g1 g2 => ⟨_, rfl, ?_⟩) (PyProof.Rows.args_list_sort_rev _ _)))
  · refine tups_sortable (s := { s with heap := h'.push (seqObj "list" acc.toList.toArray 0), toks := tk }) (by omega) (fun v hv => ?_) (fun v hv => ?_) fun o e => ?_
    · rw [ea] at hv
      obtain ⟨t, ht, rfl⟩ := List.mem_map.mp hv
      obtain ⟨q', hq'⟩ := k1 t ht
      exact (tupI_of I1 hq').keeps fun b o e _ => (kp b o e).2
    · rw [ea] at hv
      obtain ⟨t, ht, rfl⟩ := List.mem_map.mp hv
      rw [ea, List.length_map, lts] at h2
      refine hne h2 _ ?_
      rw [← k2]
      exact List.mem_map.mpr ⟨t, ht, rfl⟩
    · have e' : some o = some (seqObj "list" acc.toList.toArray 0) := e.symm.trans hoL
      cases e'
      intro c
      exact absurd (Value.type.inj c) (by decide)
  · rw [if_pos rfl] at g2
    have hm : ∀ u ∈ out, u ∈ ts.map Value.ref := fun u hu => by
      rw [← ea]
      exact List.mem_reverse.mp (g2.perm.mem_iff.mp hu)
    have eo := ref_map hm
    have hp : (out.map unRef).Perm ts := by
      have z := (g2.perm.trans (List.reverse_perm _)).map unRef
      rw [unRef_map ea] at z
      exact z
    obtain ⟨n, hn'⟩ := PyProof.Rows.sortedHeap_at (vs := acc.toList) (out := out.toArray.reverse) hoL
    have er : (out.toArray.reverse) = (out.reverse).toArray := by simp
    refine wpAny_pure ⟨_, rfl, .ref h'.objs.size, upd H h'.objs.size (.lst ((out.map unRef).reverse.map V.ref)), I1.laid (t' := tk) (fun b u e => ?_) (Nat.le_refl _) ⟨?_, out.reverse, n, ?_, ?_⟩, rfl, q _ _ (fun b hb => k1 b (hp.mem_iff.mp (List.mem_reverse.mp hb))) ?_ ?_ (I1.hok.fresh (Nat.le_refl _))⟩
    · have hb : b < h'.objs.size := Heap.lt_size e
      rw [if_pos rfl, PyProof.Rows.sortedHeap_old (Nat.ne_of_lt hb) (by rw [size_push']; exact Nat.lt_succ_of_lt hb)]
      exact Heap.get?_push_of_some _ e
    · rw [List.length_map, List.length_reverse, hp.length_eq]
      omega
    · have z := vals_refs (out.map unRef).reverse
      rw [List.map_reverse, List.map_reverse, ← eo] at z
      rw [List.map_reverse]
      exact z
    · rw [if_pos rfl, ← er]
      exact hn'
    · rw [← k2]
      exact ((List.reverse_perm _).trans hp).map (keyOf H)
    · rw [List.pairwise_reverse]
      exact List.pairwise_map.mpr g1
end
end Bw
set_option Elab.async false
set_option linter.all false
set_option maxRecDepth 100000
set_option maxHeartbeats 4000000
namespace Bw
open PySem PySem.Spec PyProof.Rows L2
def mergeT (kvs more : List (List Key × V)) : List (List Key × V) := more.foldl (fun acc kv => putK acc kv.1 kv.2) kvs
/-- dict(xs), a list of pairs (key, value), the keys tuples: later ones win, at the first one's place -/
def rDictPT (K : PySem.W.Frag) : List V → Hp → VK → Prop := fun vs H Q => ∃ (a : Addr) (ts : List Addr) (its : List (List Key × Addr × V)), vs = [V.ref a] ∧ SqL K H a (ts.map V.ref) ∧
  Paired (fun t (x : List Key × Addr × V) => H t = some (.tup [.ref x.2.1, x.2.2]) ∧ H x.2.1 = some (.tup (x.1.map kV))) ts its ∧ ∀ p, H p = none → Q (.ref p) (upd H p (.dT (mergeT [] (its.map fun x => (x.1, x.2.2)))))
section
variable {X : Cx} {pins : List (Addr × Obj)} {s : Shared} {σ : L2.St} {H : Hp}
theorem pairsT_of (I : L2.Inv X pins σ H s) : ∀ {ts : List Addr} {its : List (List Key × Addr × V)}, Paired (fun t (x : List Key × Addr × V) => H t = some (.tup [.ref x.2.1, x.2.2]) ∧ H x.2.1 = some (.tup (x.1.map kV))) ts its →
    ∃ ps : List (List Key × Addr × Value), Paired (fun (x : List Key × Addr × V) (q : List Key × Addr × Value) => x.1 = q.1 ∧ H q.2.1 = some (.tup (q.1.map kV)) ∧ RelV x.2.2 q.2.2) its ps ∧ ps.length = ts.length ∧
      ∀ (j : Nat) (q : List Key × Addr × Value), ps[j]? = some q → ∃ t, ts[j]? = some t ∧ s.heap.IsTuple t #[.ref q.2.1, q.2.2]
  | _, _, .nil => ⟨[], .nil, rfl, fun j q e => by simp at e⟩
  | _, _, .cons (a := t) (b := x) h r => by
    obtain ⟨ps, r1, hl, hp⟩ := pairsT_of I r
    obtain ⟨_, us, rv, hT⟩ := I.hok _ _ h.1
    obtain ⟨u1, u2, rfl, e1, e2⟩ := vals2 rv
    obtain rfl : u1 = Value.ref x.2.1 := e1
    refine ⟨(x.1, x.2.1, u2) :: ps, .cons ⟨rfl, h.2, e2⟩ r1, by rw [List.length_cons, List.length_cons, hl], fun j q e => ?_⟩
    cases j with
    | zero =>
      cases (Option.some.inj e)
      exact ⟨t, rfl, hT⟩
    | succ j => exact hp j q e
theorem kt_merge {H' : Hp} : ∀ {its : List (List Key × Addr × V)} {ps : List (List Key × Addr × Value)} {kvs : List (List Key × V)} {xs : List (List Key × Addr × Value)}, Paired (fun (x : List Key × Addr × V) (q : List Key × Addr × Value) => x.1 = q.1 ∧ H' q.2.1 = some (.tup (q.1.map kV)) ∧ RelV x.2.2 q.2.2) its ps → KT H' kvs xs →
    KT H' (mergeT kvs (its.map fun x => (x.1, x.2.2))) (storedAllH xs ps)
  | _, _, _, _, .nil, k => k
  | _, _, kvs, xs, .cons (a := x) (b := q) h r, k => by
    have z := KT.put k q.1 h.2.1 h.2.2
    rw [← h.1] at z
    have z2 := kt_merge (kvs := putK kvs x.1 x.2.2) (xs := storedH xs x.1 q.2.1 q.2.2) r z
    show KT H' (mergeT (putK kvs x.1 x.2.2) _) (storedAllH (storedH xs q.1 q.2.1 q.2.2) _)
    rw [← h.1]
    exact z2
theorem putT_len (kvs : List (List Key × V)) (k : List Key) (v : V) : (putK kvs k v).length ≤ kvs.length + 1 := length_putK kvs k v
theorem mergeT_len : ∀ (more kvs : List (List Key × V)), (mergeT kvs more).length ≤ kvs.length + more.length
  | [], kvs => Nat.le_refl _
  | m :: more, kvs => by
    show (mergeT (putK kvs m.1 m.2) more).length ≤ _
    have h1 := mergeT_len more (putK kvs m.1 m.2)
    have h2 := putT_len kvs m.1 m.2
    rw [List.length_cons]
    omega
end
theorem cr_dictPT {X : Cx} {K : PySem.W.Frag} (hc : X.calm = true) (hu : X.A.units + 64 < cLine) (hK : X.K = K := by rfl) : CallR X (.type "dict") (rDictPT K) := by
  subst hK
  intro pins s σ H vs us Q I r h
  obtain ⟨a, ts, its, rfl, hs, hp, q⟩ := h
  obtain ⟨vs, rv, hl, hz⟩ := I.list hs
  obtain ⟨u, rfl, ru⟩ := vals1 r
  obtain rfl : u = Value.ref a := ru
  have ei := refs_at rv
  obtain ⟨o, n, ho, hcl, hd, hdat⟩ := hl
  obtain ⟨ps, r1, lp, hpt⟩ := pairsT_of I hp
  have lts : ts.length ≤ sizeLine := by
    rw [List.length_map] at hz
    exact hz
  let vps : List (Value × Value) := ps.map fun q => (Value.ref q.2.1, q.2.2)
  have lv : vps.length = ts.length := by
    show (ps.map _).length = _
    rw [List.length_map, lp]
  have hkey : ∀ x ∈ ps, H x.2.1 = some (.tup (x.1.map kV)) := by
    clear hpt lp lv vps hp q
    induction r1 with
    | nil => intro x hx; simp at hx
    | cons h t ih =>
      intro x hx
      rcases List.mem_cons.mp hx with rfl | hx
      · exact h.2.1
      · exact ih x hx
  refine call_dict_pairsH (knd := tupleKind (mixKind X.prog X.w)) (ps := ps) (PairArg.list a vs.toArray (fun j => (ts[j]?).getD 0) vps) (I.ok.hd hc) (show (X.A.in1.in1).units < cLine from ?_) ⟨⟨o, n, ho, hcl, hd, hdat⟩, ?_, fun j k v e => ?_⟩ ⟨by rw [lv, lp], fun i key v e => ?_⟩ (fun h' hk x hx => ?_) (by rw [lv]; exact lts) fun h' tk hd' hk => ?_
  · show X.A.units + 1 + 1 < cLine
    omega
  · rw [List.size_toArray, ei, List.length_map, lv]
  · obtain ⟨x, ex, e2⟩ : ∃ x, ps[j]? = some x ∧ (Value.ref x.2.1, x.2.2) = (k, v) := by
      have e' : (ps.map fun q => (Value.ref q.2.1, q.2.2))[j]? = some (k, v) := e
      rw [List.getElem?_map] at e'
      cases hx : ps[j]? with
      | none =>
        rw [hx] at e'
        cases e'
      | some x =>
        rw [hx] at e'
        exact ⟨x, rfl, Option.some.inj e'⟩
    cases e2
    obtain ⟨t, et, hT⟩ := hpt j x ex
    have eg : (ts[j]?).getD 0 = t := by
      rw [et]
      rfl
    refine ⟨?_, .inl ?_⟩
    · show vs.toArray[j]? = some (Value.ref ((ts[j]?).getD 0))
      rw [eg, ei, List.getElem?_toArray, List.getElem?_map, et]
      rfl
    · show s.heap.IsTuple ((ts[j]?).getD 0) _
      rw [eg]
      exact hT
  · have e' : (ps.map fun q => (Value.ref q.2.1, q.2.2))[i]? = some (key, v) := e
    rw [List.getElem?_map] at e'
    cases hx : ps[i]? with
    | none =>
      rw [hx] at e'
      cases e'
    | some x =>
      rw [hx] at e'
      cases (Option.some.inj e')
      exact ⟨x.1, x.2.1, rfl, rfl⟩
  · have hb := key_of I.hok (hkey x hx)
    obtain ⟨ob, items, m, h1, h2, h3, h4⟩ := hb
    exact ⟨ob, items, m, hk _ _ (Nat.ne_of_lt (Heap.lt_size h1)) (by simp) h1, h2, h3, h4⟩
  · have hm : (s.heap.objs.size == sysModules) = false := beq_eq_false_iff_ne.mpr (Nat.ne_of_gt I.big)
    obtain ⟨q', es, ep, hq, h2, h3, h4, _, h5⟩ := hd'
    have hlen : (mergeT [] (its.map fun x => (x.1, x.2.2))).length ≤ sizeLine := by
      have z := mergeT_len (its.map fun x => (x.1, x.2.2)) []
      rw [List.length_map, List.length_nil, ← Paired.length hp] at z
      omega
    have hf : H s.heap.objs.size = none := I.hok.fresh (Nat.le_refl _)
    refine ⟨.ref s.heap.objs.size, upd H s.heap.objs.size (.dT (mergeT [] (its.map fun x => (x.1, x.2.2)))), I.laid (t' := tk) (fun b o e => hk b o (by simp) e) (Nat.le_refl _) ⟨hlen, hm, storedAllH [] ps, (kt_merge r1 .nil).keeps fun b ys hb => ?_, q', es, ep, hq, h2, h3, h4, h5⟩, rfl, q _ hf⟩
    rw [upd_ne (ne_of_none hb hf)]
    exact hb
end Bw
set_option Elab.async false
set_option linter.all false
set_option maxRecDepth 100000
namespace Bw
open PySem PySem.Spec PyProof.Rows L2
/-! ### a def that may be called, by its name -/
structure Cal (P : Program) (w : World) (K : PySem.W.Frag) (mg : Str → Option Value) (base : Heap) (CX : CXT) (k : Nat) (x : Str) (ps : List Str) (sp : Sp) : Prop where
  ex : ∃ (f : Addr) (fd : FuncData), FnOk P w K mg base CX k f fd ps sp ∧ mg x = some (.ref f) ∧ PySem.W.keepIn K (.ref f) = true ∧ Binds K fd ps []
section
variable {X : Cx} {x : Str} {ps : List Str} {sp : Sp} {k : Nat} {e : Expr} {es : List Expr} {p pos : Pos} {t : TA}
theorem pe_cal (C : Cal X.prog X.w X.K X.mg X.base CX0 k x ps sp) (hr : Room k X.A) (hg : Gl X x) (ha : PA X (e :: es) t) (hdb : (x == ("__debug__" : Str)) = false := by decide) (he : starEach (e :: es) X.env = (false, eval e X.env) :: starEach es X.env := by rfl)
    (hpl : (backTo pos (starEach es X.env)).any (·.1) = false := by rfl) : PE X (.Call (.Name x p) (e :: es) [] pos) (tCall sp [] E0 t) := by
  obtain ⟨f, fd, F, hm, hk, hb⟩ := C.ex
  exact pe_call F hr hg hm hk hb .nil pass0 ha hdb he hpl
end
/-! ### the rules with the written part named: within comprehensions the reading must not hang on the block -/
section
variable {X : Cx} {K : PySem.W.Frag}
def rTupOf (K : PySem.W.Frag) : List V → Hp → VK → Prop := fun xs H Q => ∃ p ys, xs = [V.ref p] ∧ ((SqL K H p ys ∧ ∀ l, H l = none → Q (.ref l) (upd H l (.tup ys))) ∨ (SqT K H p ys ∧ Q (.ref p) H))
def rLstOf (K : PySem.W.Frag) : List V → Hp → VK → Prop := fun xs H Q => ∃ p ys, xs = [V.ref p] ∧ (SqL K H p ys ∨ SqT K H p ys) ∧ ∀ l, H l = none → Q (.ref l) (upd H l (.lst ys))
def rLenOf (K : PySem.W.Frag) : List V → Hp → VK → Prop := fun xs H Q => ∃ p ys, xs = [V.ref p] ∧ (SqL K H p ys ∨ SqT K H p ys) ∧ Q (.int ys.length) H
theorem c_tup (h : X.K = K := by rfl) : CallR X (.type "tuple") (rTupOf K) := by
  subst h
  exact call_tuple_of
theorem c_lst (h : X.K = K := by rfl) : CallR X (.type "list") (rLstOf K) := by
  subst h
  exact call_list_of
theorem c_len (h : X.K = K := by rfl) : CallR X (.builtin "len") (rLenOf K) := by
  subst h
  exact call_len_seq
theorem c_isi (h : X.K = K := by rfl) : CallR X (.builtin "isinstance") (rIsi K) := by
  subst h
  exact call_isi
theorem c_isiT (h : X.K = K := by rfl) : CallR X (.builtin "isinstance") (rIsiT K) := by
  subst h
  exact call_isiT
theorem c_all (hc : X.calm = true) (h : X.K = K := by rfl) : CallR X (.builtin "all") (rAll K) := by
  subst h
  exact cr_all hc
theorem c_any (hc : X.calm = true) (h : X.K = K := by rfl) : CallR X (.builtin "any") (rAny K) := by
  subst h
  exact cr_any hc
theorem i_list (h : X.K = K := by rfl) : IxR X (rIxL K) := by
  subst h
  exact ix_list
theorem i_tup (h : X.K = K := by rfl) : IxR X (rIxT K) := by
  subst h
  exact ix_tup
theorem l_list (h : X.K = K := by rfl) : SlR X (rSlL K) := by
  subst h
  exact sl_list
theorem l_tup (h : X.K = K := by rfl) : SlR X (rSlA K) := by
  subst h
  exact sl_tupA
theorem o_cat (h : X.K = K := by rfl) : OpR X (binaryOp .Add) (rCatA K) := by
  subst h
  exact op_catA
theorem o_in (h : X.K = K := by rfl) : OpR X (compareOp .In) (rIn K false) := by
  subst h
  exact op_in_seq
theorem o_notin (h : X.K = K := by rfl) : OpR X (compareOp .NotIn) (rIn K true) := by
  subst h
  exact op_notIn_seq
theorem p_list {tg l : Expr} {tl : TE} (hl : PE X l tl) (h : X.K = K := by rfl) : PI X tg l (iList K tl) := by
  subst h
  exact pi_list hl
theorem p_tup {tg l : Expr} {tl : TE} (hl : PE X l tl) (h : X.K = K := by rfl) : PI X tg l (iTup K tl) := by
  subst h
  exact pi_tup hl
theorem g_tup {es : List Expr} {k : Nat} {t : TGs} {n : Nat} {pos : Pos} (hc : X.calm = true) (h : PGs X es t) (hn : (assignEach es X.env).length = n := by rfl) (hst : (assignEach es X.env).findIdx? (·.1) = none := by rfl) (hK : X.K = K := by rfl) : PG X (.Tuple es k pos) (gTup K n t) := by
  subst hK
  exact pg_tup hc h hn hst
theorem pe_gint {x : Str} {pos : Pos} {i : Int} (hg : Gl X x) (hm : ∃ t, X.mg x = some (.int i t)) (hdb : (x == ("__debug__" : Str)) = false := by decide) : PE X (.Name x pos) (tC (.int i)) := by
  obtain ⟨t, hm⟩ := hm
  exact pe_glob hg hm ⟨t, rfl⟩ (hd := hdb)
end
/-! ### heaps -/
theorem same_upd {H : Hp} {p : Addr} {o : HO} (h : H p = none) : Same H (upd H p o) := fun b x e => by
  rw [upd_ne (ne_of_none e h)]
  exact e
/-- all but what stands at f is as it was -/
def SameBut (f : Addr) (H H' : Hp) : Prop := ∀ b o, b ≠ f → H b = some o → H' b = some o
theorem SameBut.refl (f : Addr) (H : Hp) : SameBut f H H := fun _ _ _ h => h
theorem SameBut.trans {f : Addr} {H H1 H2 : Hp} (a : SameBut f H H1) (b : SameBut f H1 H2) : SameBut f H H2 := fun c o n h => b c o n (a c o n h)
theorem SameBut.upd {f : Addr} {H H1 : Hp} {o : HO} (a : SameBut f H H1) : SameBut f H (upd H1 f o) := fun c o n h => by
  rw [upd_ne n]
  exact a c o n h
theorem SameBut.new {f p : Addr} {H H1 : Hp} {o : HO} (a : SameBut f H H1) (h : H1 p = none) : SameBut f H (L2.upd H1 p o) := fun c o n q => by
  have z := a c o n q
  rw [upd_ne (ne_of_none z h)]
  exact z
theorem _root_.L2.Same.but {f : Addr} {H H1 : Hp} (a : Same H H1) : SameBut f H H1 := fun c o _ h => a c o h
theorem SameBut.same {f : Addr} {H0 H H1 : Hp} (a : SameBut f H H1) (h : H0 f = none) (s : Same H0 H) : Same H0 H1 := fun c o q => a c o (ne_of_none q h) (s c o q)
/-! ### what the law draws from -/
def FeedAt (H : Hp) (f l : Addr) : Prop := ∃ (ns : List Int) (i : Nat) (n m c : Int), l ≠ f ∧ H f = some (.lst [.ref l, .int i, .int n, .int m, .int c]) ∧ H l = some (.lst (ns.map V.int)) ∧ i ≤ ns.length ∧ 0 ≤ n ∧ 0 ≤ m ∧ m < 2147483647
theorem FeedAt.same {H H' : Hp} {f l : Addr} (s : Same H H') (h : FeedAt H f l) : FeedAt H' f l := by
  obtain ⟨ns, i, n, m, c, a, b, d, r⟩ := h
  exact ⟨ns, i, n, m, c, a, s _ _ b, s _ _ d, r⟩
theorem FeedAt.put {H : Hp} {f l b : Addr} {o : HO} (h : FeedAt H f l) (n1 : b ≠ f) (n2 : b ≠ l) : FeedAt (upd H b o) f l := by
  obtain ⟨ns, i, n, m, c, a, b', d, r⟩ := h
  exact ⟨ns, i, n, m, c, a, by rw [upd_ne (Ne.symm n1)]; exact b', by rw [upd_ne (Ne.symm n2)]; exact d, r⟩
theorem FeedAt.ne {H : Hp} {f l p : Addr} (h : FeedAt H f l) (n : H p = none) : p ≠ f := by
  obtain ⟨_, _, _, _, _, _, b, _⟩ := h
  exact Ne.symm (ne_of_none b n)
theorem FeedAt.ne2 {H : Hp} {f l p : Addr} (h : FeedAt H f l) (n : H p = none) : p ≠ l := by
  obtain ⟨_, _, _, _, _, _, _, d, _⟩ := h
  exact Ne.symm (ne_of_none d n)
theorem FeedAt.tup {H : Hp} {f l p : Addr} {xs : List V} (h : FeedAt H f l) (n : H p = some (.tup xs)) : p ≠ f := by
  obtain ⟨_, _, _, _, _, _, b, _⟩ := h
  exact ne_of n b (by intro z; cases z)
theorem SameBut.updN {f b : Addr} {H H1 : Hp} {o : HO} (a : SameBut f H H1) (h : H b = none) : SameBut f H (L2.upd H1 b o) := fun c o n q => by
  rw [upd_ne (ne_of_none q h)]
  exact a c o n q
theorem int_at {ns : List Int} {i : Nat} {y : V} (h : (ns.map V.int)[i]? = some y) : ∃ u, ns[i]? = some u ∧ y = .int u := by
  rw [List.getElem?_map] at h
  cases e : ns[i]? with
  | none =>
    rw [e] at h
    cases h
  | some u =>
    rw [e] at h
    exact ⟨u, rfl, (Option.some.inj h).symm⟩
end Bw
set_option Elab.async false
set_option linter.all false
set_option maxRecDepth 100000
set_option maxHeartbeats 4000000
namespace Bw
open PySem PySem.Spec PyProof.Rows L2
theorem tuple_mul1 (l : Addr) (items : Array Value) (n : Nat) (dd : Option Addr) (sl : Array (Option Value)) (u : Tok) :
    Meets (Builtin.«tuple.__mul__» ⟨[.ref l, .int 1 u], []⟩) (fun _ R s => s.heap.get? l = some { cls := .type "tuple", dict := dd, data := .seq items n, slots := sl } ∧ R (.ok (.ret (Value.ref l))) s) :=
  .of_wp fun prog w A R s h => by
    obtain ⟨hp, g, d, tk, os⟩ := s
    obtain ⟨hl, h⟩ := h
    have f1 := AutoSeq1.idx_int
    have c1 : (items.isEmpty || (1 : Int) == 1) = true := by simp
    wp_walk using wpAny_loadPart' hl
    repeat (first
      | (refine wpAny_ite_true (decide_eq_true c1) ?_; wp_walk using wpAny_loadPart' hl)
      | (refine wpAny_ite_false (by decide) ?_; wp_walk using wpAny_loadPart' hl))
    exact ⟨_, rfl, h⟩
/-- t * k, k from 1 on -/
def rRep1 (K : PySem.W.Frag) : R2 := fun x y H Q => ∃ l k xs, x = .ref l ∧ y = .int k ∧ SqT K H l xs ∧ xs ≠ [] ∧ 1 ≤ k ∧ k ≤ 1000 ∧ xs.length ≤ 1000 ∧ (k = 1 → Q (.ref l) H) ∧ (2 ≤ k → ∀ p, H p = none → Q (.ref p) (upd H p (.tup (List.replicate k.toNat xs).flatten)))
theorem o_rep {X : Cx} {K : PySem.W.Frag} (hK : X.K = K := by rfl) : OpR X (binaryOp .Mult) (rRep1 K) := by
  subst hK
  intro pins s σ H x y v u Q I rx ry h
  obtain ⟨l, k, xs, rfl, rfl, hT, hne, h1, h2, hz, q1, q2⟩ := h
  by_cases hk : k = 1
  · subst hk
    cases rx
    obtain ⟨t, rfl⟩ := ry
    obtain ⟨its, r, ⟨⟨cls, dd, data, sl⟩, ho, hc, n, hd⟩, hs⟩ := I.tuple hT
    simp only at hc hd
    subst hc hd
    refine wpAny_binaryOp_repeat_ref (T := "tuple") (U := "int") (by decide) ⟨_, ho, rfl⟩ (fun s' => typeIs_int s' 1 t) noFill_tuple_mul F.fills_int_mul F.slot_int_rmul repeat_tuple F.slot_int_index.lookup
      (call_meets F.slot_int_rmul (typeIs_int s 1 t) F.entry_int_rmul (F.args_int_rmul_2 _ _) (int_rmul_tuple 1 t l its.toArray n dd sl)
        ⟨ho, rfl, ⟨_, ho, rfl⟩, call_meets F.slot_tuple_mul ⟨_, ho, rfl⟩ F.entry_tuple_mul (F.args_tuple_mul_2 _ _) (tuple_mul1 l its.toArray n dd sl t) ⟨ho, ?_⟩⟩)
    exact ⟨.ref l, H, I, rfl, q1 rfl⟩
  · exact op_repT pins s σ H _ _ v u Q I rx ry ⟨l, k, xs, rfl, rfl, hT, hne, by omega, h2, hz, q2 (by omega)⟩
end Bw
set_option Elab.async false
set_option linter.all false
set_option maxRecDepth 100000
set_option maxHeartbeats 4000000
namespace Bw
open PySem PySem.Spec PyProof.Rows L2
/-! ### t * k, k from 0 on -/
theorem tuple_mul0 (l : Addr) (items : Array Value) (n : Nat) (dd : Option Addr) (sl : Array (Option Value)) (u : Tok) (hne : items.isEmpty = false) :
    Meets (Builtin.«tuple.__mul__» ⟨[.ref l, .int 0 u], []⟩) (fun _ R s => s.heap.get? l = some { cls := .type "tuple", dict := dd, data := .seq items n, slots := sl } ∧ R (.ok (.ret (Value.ref s.heap.objs.size))) { s with heap := s.heap.push { cls := Value.type "tuple", data := Data.seq #[] }, toks := s.toks }) :=
  .of_wp fun prog w A R s h => by
    obtain ⟨hp, g, d, tk, os⟩ := s
    obtain ⟨hl, h⟩ := h
    have f1 := AutoSeq1.idx_int
    have c1 : (items.isEmpty || (0 : Int) == 1) = false := by rw [hne]; rfl
    have c2 : (decide ((0 : Int) ≤ 0) || items.isEmpty) = true := by simp
    wp_walk using wpAny_loadPart' hl
    repeat (first
      | (refine wpAny_ite_true (decide_eq_true c2) ?_; wp_walk using wpAny_loadPart' hl)
      | (refine wpAny_ite_false (by decide) ?_; wp_walk using wpAny_loadPart' hl)
      | (refine wpAny_ite_false (decide_eq_false (by rw [c1]; exact Bool.false_ne_true)) ?_; wp_walk using wpAny_loadPart' hl))
    exact ⟨_, rfl, h⟩
def rRepZ (K : PySem.W.Frag) : R2 := fun x y H Q => ∃ l k xs, x = .ref l ∧ y = .int k ∧ SqT K H l xs ∧ xs ≠ [] ∧ 0 ≤ k ∧ k ≤ 1000 ∧ xs.length ≤ 1000 ∧ (k = 0 → ∀ p, H p = none → Q (.ref p) (upd H p (.tup []))) ∧ (k = 1 → Q (.ref l) H) ∧ (2 ≤ k → ∀ p, H p = none → Q (.ref p) (upd H p (.tup (List.replicate k.toNat xs).flatten)))
theorem o_repZ {X : Cx} {K : PySem.W.Frag} (hK : X.K = K := by rfl) : OpR X (binaryOp .Mult) (rRepZ K) := by
  subst hK
  intro pins s σ H x y v u Q I rx ry h
  obtain ⟨l, k, xs, rfl, rfl, hT, hne, h1, h2, hz, q0, q1, q2⟩ := h
  by_cases hk : k = 0
  · subst hk
    cases rx
    obtain ⟨t, rfl⟩ := ry
    obtain ⟨its, r, ⟨⟨cls, dd, data, sl⟩, ho, hc, n, hd⟩, hs⟩ := I.tuple hT
    simp only at hc hd
    subst hc hd
    have hi : its.toArray.isEmpty = false := by
      cases its with
      | nil =>
        cases r
        exact absurd rfl hne
      | cons a b => rfl
    refine wpAny_binaryOp_repeat_ref (T := "tuple") (U := "int") (by decide) ⟨_, ho, rfl⟩ (fun s' => typeIs_int s' 0 t) noFill_tuple_mul F.fills_int_mul F.slot_int_rmul repeat_tuple F.slot_int_index.lookup
      (call_meets F.slot_int_rmul (typeIs_int s 0 t) F.entry_int_rmul (F.args_int_rmul_2 _ _) (int_rmul_tuple 0 t l its.toArray n dd sl)
        ⟨ho, rfl, ⟨_, ho, rfl⟩, call_meets F.slot_tuple_mul ⟨_, ho, rfl⟩ F.entry_tuple_mul (F.args_tuple_mul_2 _ _) (tuple_mul0 l its.toArray n dd sl t hi) ⟨ho, ?_⟩⟩)
    exact ⟨.ref s.heap.objs.size, _, I.laid (t' := s.toks) (o := .tup []) (fun b ob z => Heap.get?_push_of_some _ z) (Nat.le_refl _) ⟨Nat.zero_le _, [], .nil, IsTup.new _ _⟩, rfl, q0 rfl _ (I.hok.fresh (Nat.le_refl _))⟩
  · exact o_rep (X := X) rfl pins s σ H _ _ v u Q I rx ry ⟨l, k, xs, rfl, rfl, hT, hne, by omega, h2, hz, q1, q2⟩
/-! ### len(x), x == y, x != y of own instances -/
section
variable {X : Cx} {CX : CXT} {C f : Addr} {fd : FuncData} {ps : List Str} {sp : Sp} {n : Nat} {E : XK}
def rLenOwn (C : Addr) (sp : Sp) (E : XK) : List V → Hp → VK → Prop := fun xs H Q => ∃ a dx fs, xs = [V.ref a] ∧ H a = some (.ins C dx fs) ∧ sp [.ref a] H (fun z H' => ∃ i : Int, z = .int i ∧ 0 ≤ i ∧ i < 2 ^ 63 ∧ Q (.int i) H') E
theorem c_lenOwn (hs : PySem.W.findIn X.K (.ref C) "__len__" = some (some (.ref f))) (hf : PySem.W.isFn X.K (.ref f) = true) (F : FnOk X.prog X.w X.K X.mg X.base CX n f fd ps sp) (hr : Room (n + 1) X.A) (hb : Binds X.K fd ps []) (hx : Passes CX X E) : CallR X (.builtin "len") (rLenOwn C sp E) := by
  intro pins s σ H xs us Q I r h
  obtain ⟨a, dx, fs, rfl, ha, q⟩ := h
  obtain ⟨u, rfl, ru⟩ := vals1 r
  obtain rfl : u = Value.ref a := ru
  obtain ⟨mA, J, _⟩ := ins_get I.hok ha
  obtain ⟨od, J, _⟩ := J.look
  obtain ⟨m, hF⟩ := I.fr
  refine PySem.W.len_K hF I.ok.mod.kin J hs hf ?_
  have hl := F.len _ _ _ _ q
  refine wpAny_call (codeAny_mono (F.run X.A.in1 X.stack s H ⟨[.ref a], []⟩ [.ref a] [.ref a] _ E hr.in1 I.env0.in1 (by
    have z := hb s [.ref a] I.kIn (by simpa using hl)
    simpa using z) (.cons rfl .nil) q) fun r s' hq => ?_)
  cases r with
  | error e => exact hx pins σ H s e s' I hq
  | ok fl =>
    cases fl with
    | ret w =>
      obtain ⟨z, H', I', rz, i, ei, i0, i1, qz⟩ := I.after hq
      subst ei
      obtain ⟨t, rfl⟩ := (show ∃ t, w = Value.int i t from rz)
      exact ⟨⟨i0, i1⟩, .int i, H', I'.tok _, ⟨_, rfl⟩, qz⟩
    | next => exact False.elim hq
    | brk => exact False.elim hq
    | cont => exact False.elim hq
def rEqOwn (C : Addr) (sp : Sp) (E : XK) (neg : Bool) : R2 := fun x y H Q => ∃ a dx fs b dy gs, x = .ref a ∧ y = .ref b ∧ H a = some (.ins C dx fs) ∧ H b = some (.ins C dy gs) ∧ sp [.ref a, .ref b] H (fun z H' => ∃ c : Bool, z = .bl c ∧ Q (.bl (if neg then !c else c)) H') E
theorem own_run (F : FnOk X.prog X.w X.K X.mg X.base CX n f fd ps sp) {A : Around} (hr : Room n A) (hfr : A.frames = X.A.frames) (hb : Binds X.K fd ps []) (hx : Passes CX X E) {pins : List (Addr × Obj)} {s : Shared} {σ : L2.St} {H : Hp} {a b : Addr} {Q : Bool → Hp → Prop} (I : L2.Inv X pins σ H s)
    (q : sp [.ref a, .ref b] H (fun z H' => ∃ c : Bool, z = .bl c ∧ Q c H') E) : wpAny (model X.prog X.w) A (call (.ref f) [.ref a, .ref b]) (fun v s' => ∃ (c : Bool) (H' : Hp), v = .bool c ∧ L2.Inv X pins σ H' s' ∧ Q c H') X.xe s := by
  have hl := F.len _ _ _ _ q
  have e0 : Env0 X.prog X.w X.K X.mg X.base A X.stack s H := by
    have e := I.env0
    exact ⟨by rw [hfr]; exact e.frames, e.mod, e.bs, e.bsz, e.funs, e.frf, e.hok, e.bare⟩
  refine wpAny_call (codeAny_mono (F.run A X.stack s H ⟨[.ref a, .ref b], []⟩ [.ref a, .ref b] [.ref a, .ref b] _ E hr e0 (by
    have z := hb s [.ref a, .ref b] I.kIn (by simpa using hl)
    simpa using z) (.cons rfl (.cons rfl .nil)) q) fun r s' hq => ?_)
  cases r with
  | error e => exact hx pins σ H s e s' I hq
  | ok fl =>
    cases fl with
    | ret w =>
      obtain ⟨z, H', I', rz, c, ec, qc⟩ := I.after hq
      subst ec
      obtain rfl : w = Value.bool c := rz
      exact ⟨c, H', rfl, I', qc⟩
    | next => exact False.elim hq
    | brk => exact False.elim hq
    | cont => exact False.elim hq
theorem o_eqOwn (hs : PySem.W.findIn X.K (.ref C) "__eq__" = some (some (.ref f))) (hf : PySem.W.isFn X.K (.ref f) = true) (F : FnOk X.prog X.w X.K X.mg X.base CX n f fd ps sp) (hr : Room n X.A) (hb : Binds X.K fd ps []) (hx : Passes CX X E) : OpR X (compareOp .Eq) (rEqOwn C sp E false) := by
  intro pins s σ H x y v u Q I rx ry h
  obtain ⟨a, dx, fs, b, dy, gs, rfl, rfl, ha, hb', q⟩ := h
  cases rx
  cases ry
  obtain ⟨mA, J, _⟩ := ins_get I.hok ha
  obtain ⟨mB, J', _⟩ := ins_get I.hok hb'
  obtain ⟨od, J, _⟩ := J.look
  obtain ⟨od', J', _⟩ := J'.look
  obtain ⟨m, hF⟩ := I.fr
  show wpAny _ _ (richCompare .Eq (.ref a) (.ref b)) _ _ _
  refine PySem.W.cmp_K (op := .Eq) (tb := .ref C) hr.units0 hF I.ok.mod.kin J J'.type (by simp [PySem.W.notFirst]) hs hf ?_
  refine wpAny_mono (own_run F hr rfl hb hx I q) (fun v s' z => ?_) fun _ _ z => z
  obtain ⟨c, H', rfl, I', qc⟩ := z
  exact ⟨.bl c, H', I', rfl, qc⟩
end
end Bw
set_option Elab.async false
set_option linter.all false
set_option maxRecDepth 100000
set_option maxHeartbeats 4000000
namespace Bw
open PySem PySem.Spec PyProof.Rows L2
section
variable {prog : Program} {w : World} {A : Around} {E : Value → Shared → Prop} {s : Shared} {K : PySem.W.Frag} {x C f : Addr} {ox : Obj} {od : Option Obj} {b : Value}
theorem ifBound_ne {Q : Option Value → Shared → Prop} (X : K.In s.heap) (I : PySem.W.InstAt s.heap x ox C od) (hs : PySem.W.findIn K (.ref C) "__ne__" = some (some (.builtin "object.__ne__")))
    (h : wpAny (model prog w) A (call (.builtin "object.__ne__") [.ref x, b]) (fun v => Q (some v)) E s) : wpAny (model prog w) A (callSpecialIfBound? (.ref x) "__ne__" [b]) Q E s := by
  have S := F.cmp_object.ne
  simp only [callSpecialIfBound?, bindSpecialIfBound?]
  refine wpAny_holding (wpAny_bind (wpAny_bind (wpAny_bind (I.type.here ((PySem.W.looks_findIn X hs).here ?_)))))
  simp only [S.bind]
  refine wpAny_bind (wpAny_askSetting (wpAny_ite ?_))
  have fin : wpAny (model prog w) A (call (.builtin "object.__ne__") ([.ref x] ++ [b]) >>= fun v => pure (some v)) Q E s := wpAny_bind (wpAny_mono h (fun _ _ z => wpAny_pure z) fun _ _ z => z)
  split
  · exact wpAny_bind (wpAny_pure (wpAny_pure fin))
  · exact wpAny_tryCatch (wpAny_bind (wpAny_pure (wpAny_pure fin)))
theorem call_ne {Q : Value → Shared → Prop} (hu : A.units + 1 < cLine) (X : K.In s.heap) (I : PySem.W.InstAt s.heap x ox C od) (hob : PySem.W.mroIn K C (.type "object") = some true) (hs : PySem.W.findIn K (.ref C) "__eq__" = some (some (.ref f))) (hf : PySem.W.isFn K (.ref f) = true)
    (h : wpAny (model prog w) A.in1 (call (.ref f) [.ref x, b]) (fun v s' => ∃ c, v = .bool c ∧ Q (.bool !c) s') E s) : wpAny (model prog w) A (call (.builtin "object.__ne__") [.ref x, b]) Q E s := by
  have sub : PySem.W.Looks (model prog w) s.heap (isInstance (.ref x) (.type "object")) true := I.type.andThen (PySem.W.looks_mroIn X hob)
  refine wpAny_call (codeAny_call_builtin F.cmp_object.ne.plain F.cmpEntry_ne (PySem.W.check_slot F.cmpKind_ne F.cmpSplit_ne sub (F.cmpArgs_ne _ _) ?_))
  unfold Builtin.«object.__ne__»
  have one : wpAny (model prog w) A.in1 (callSpecialIfBound? (.ref x) "__eq__" [b]) (fun r s' => ∃ c, r = some (.bool c) ∧ Q (.bool !c) s') E s := PySem.W.ifBound_K X I hs hf (wpAny_mono h (fun v s' z => by
    obtain ⟨c, rfl, q⟩ := z
    exact ⟨c, rfl, q⟩) fun _ _ z => z)
  repeat (first | with_reducible refine wpAny_cRoomFor hu ?_ | (with_reducible refine wpAny_mono one (fun r s' z => ?_) (fun _ _ e => e); obtain ⟨c, rfl, q⟩ := z) | wp_step)
  exact q
theorem rich_ne {Q : Value → Shared → Prop} (hu : A.units + 1 < cLine) (X : K.In s.heap) (I : PySem.W.InstAt s.heap x ox C od) (hb : PySem.W.Looks (model prog w) s.heap (typeOf b) (.ref C)) (hob : PySem.W.mroIn K C (.type "object") = some true)
    (hn : PySem.W.findIn K (.ref C) "__ne__" = some (some (.builtin "object.__ne__"))) (hs : PySem.W.findIn K (.ref C) "__eq__" = some (some (.ref f))) (hf : PySem.W.isFn K (.ref f) = true)
    (h : wpAny (model prog w) A.in1 (call (.ref f) [.ref x, b]) (fun v s' => ∃ c, v = .bool c ∧ Q (.bool !c) s') E s) : wpAny (model prog w) A (richCompare .NotEq (.ref x) b) Q E s := by
  have one : wpAny (model prog w) A (tryCompare (.ref x) (cmpInfo .NotEq).2.1 b) (fun r s' => ∃ c : Bool, r = some (.bool !c) ∧ Q (.bool !c) s') E s := by
    unfold tryCompare
    have two : wpAny (model prog w) A (call (.builtin "object.__ne__") [.ref x, b]) (fun v s' => ∃ c : Bool, v = .bool !c ∧ Q (.bool !c) s') E s := by
      refine call_ne hu X I hob hs hf (wpAny_mono h (fun v s' z => ?_) fun _ _ z => z)
      obtain ⟨c, e, q⟩ := z
      exact ⟨c, e, c, rfl, q⟩
    refine wpAny_bind (ifBound_ne X I hn (wpAny_mono two (fun v s' y => ?_) fun _ _ y => y))
    obtain ⟨c, rfl, q⟩ := y
    exact wpAny_pure ⟨c, rfl, q⟩
  unfold richCompare
  simp only [oneThing_ref]
  refine wpAny_holding (wpAny_bind (wpAny_cRoomFor (by omega) ?_))
  refine wpAny_bind (I.type.here (wpAny_bind (hb.here ?_)))
  split
  · rename_i q
    simp at q
  · refine wpAny_bind (wpAny_pure ?_)
    simp only [Bool.false_eq_true, if_false]
    refine wpAny_bind (wpAny_mono one (fun r s' z => ?_) fun _ _ e => e)
    obtain ⟨c, rfl, hq⟩ := z
    exact wpAny_pure hq
end
section
variable {X : Cx} {CX : CXT} {C f : Addr} {fd : FuncData} {ps : List Str} {sp : Sp} {n : Nat} {E : XK}
theorem o_neOwn (hob : PySem.W.mroIn X.K C (.type "object") = some true) (hn : PySem.W.findIn X.K (.ref C) "__ne__" = some (some (.builtin "object.__ne__"))) (hs : PySem.W.findIn X.K (.ref C) "__eq__" = some (some (.ref f))) (hf : PySem.W.isFn X.K (.ref f) = true)
    (F : FnOk X.prog X.w X.K X.mg X.base CX n f fd ps sp) (hr : Room (n + 1) X.A) (hb : Binds X.K fd ps []) (hx : Passes CX X E) : OpR X (compareOp .NotEq) (rEqOwn C sp E true) := by
  intro pins s σ H x y v u Q I rx ry h
  obtain ⟨a, dx, fs, b, dy, gs, rfl, rfl, ha, hb', q⟩ := h
  cases rx
  cases ry
  obtain ⟨mA, J, _⟩ := ins_get I.hok ha
  obtain ⟨mB, J', _⟩ := ins_get I.hok hb'
  obtain ⟨od, J, _⟩ := J.look
  obtain ⟨od', J', _⟩ := J'.look
  show wpAny _ _ (richCompare .NotEq (.ref a) (.ref b)) _ _ _
  have hu : X.A.units + 1 < cLine := by
    have z := hr.un
    omega
  refine rich_ne hu I.kIn J J'.type hob hn hs hf (wpAny_mono (own_run F hr.in1 rfl hb hx I q) (fun v s' z => ?_) fun _ _ z => z)
  obtain ⟨c, H', rfl, I', qc⟩ := z
  exact ⟨c, rfl, .bl !c, H', I', rfl, qc⟩
end
end Bw
set_option Elab.async false
set_option linter.all false
set_option maxRecDepth 100000
set_option maxHeartbeats 4000000
namespace Bw
open PySem PySem.Spec PyProof.Rows L2
/-! ### zip of a list and a tuple, either way about: by what is asked of one side -/
structure Src (P : Program) (w : World) (i l : Addr) (St : Nat → Heap → Prop) (Sq : Array Value → Heap → Prop) : Prop where
  obj : ∀ k h, St k h → ∃ o, h.get? i = some o ∧ ∀ v, o.data ≠ .cell v
  keep : ∀ k h h', St k h → (∀ o, h.get? i = some o → h'.get? i = some o) → St k h'
  keepS : ∀ xs h h', Sq xs h → (∀ o, h.get? l = some o → h'.get? l = some o) → Sq xs h'
  item : ∀ (A : Around) (E : Value → Shared → Prop) (s : Shared) (k : Nat) (xs : Array Value) (x : Value) (Q : Value → Shared → Prop), St k s.heap → Sq xs s.heap → xs[k]? = some x →
    (∀ h', St (k + 1) h' → Heap.SameBut i s.heap h' → Q x { s with heap := h' }) → wpAny (model P w) A (Builtin.SmallTypes.nextOf (.ref i)) Q E s
  fin : ∀ (A : Around) (E : Value → Shared → Prop) (s : Shared) (k : Nat) (xs : Array Value) (Q : Value → Shared → Prop), A.handled = none → St k s.heap → Sq xs s.heap → xs[k]? = none →
    (∀ h' e, Heap.ExtBut i s.heap h' → (∃ o, h'.get? e = some o ∧ o.cls = .type "StopIteration") → E (.ref e) { s with heap := h' }) → wpAny (model P w) A (Builtin.SmallTypes.nextOf (.ref i)) Q E s
theorem src_list {P : Program} {w : World} {i l : Addr} : Src P w i l (fun k h => h.IsListIter i l k) (fun xs h => h.IsList l xs) where
  obj := fun k h st => by
    obtain ⟨o, e, _, d⟩ := st
    exact ⟨o, e, fun v q => by rw [d] at q; cases q⟩
  keep := fun k h h' st kp => st.at kp
  keepS := fun xs h h' st kp => st.at kp
  item := fun A E s k xs x Q st sq hx q => wpAny_nextOf_list_item st sq hx q
  fin := fun A E s k xs Q hh st sq hx q => wpAny_nextOf_list_end hh st sq hx q
theorem src_tup {P : Program} {w : World} {i l : Addr} : Src P w i l (fun k h => h.IsTupleIter i l k) (fun xs h => h.IsTuple l xs) where
  obj := fun k h st => by
    obtain ⟨o, e, _, d⟩ := st
    exact ⟨o, e, fun v q => by rw [d] at q; cases q⟩
  keep := fun k h h' st kp => st.at kp
  keepS := fun xs h h' st kp => by
    obtain ⟨o, e, z⟩ := st
    exact ⟨o, kp o e, z⟩
  item := fun A E s k xs x Q st sq hx q => RZ.nextOf_tuple_item st sq hx q
  fin := fun A E s k xs Q hh st sq hx q => RZ.nextOf_tuple_end hh st sq hx q
section
variable {P : Program} {w : World} {A : Around} {E : Value → Shared → Prop} {s : Shared} {z TI TO i1 i2 l1 l2 : Addr} {U1 U2 : Nat → Heap → Prop} {Z1 Z2 : Array Value → Heap → Prop}
theorem zipG_item {k : Nat} {xs ys : Array Value} {x y a b : Value} {Q : Value → Shared → Prop} (S1 : Src P w i1 l1 U1 Z1) (S2 : Src P w i2 l2 U2 Z2) (D : ZipApart z TI TO i1 i2 l1 l2)
    (hz : IsZip s.heap z TI TO .none) (hTI : IsPair s.heap TI (.ref i1) (.ref i2)) (hTO : IsPair s.heap TO a b) (h1 : U1 k s.heap) (h2 : U2 k s.heap) (hl1 : Z1 xs s.heap) (hl2 : Z2 ys s.heap) (hx : xs[k]? = some x) (hy : ys[k]? = some y)
    (hQ : ∀ h', IsZip h' z TI TO (rawInt s.heap.objs.size) → IsPair h' TO x y → U1 (k + 1) h' → U2 (k + 1) h' → IsPair h' s.heap.objs.size x y →
      (∀ c o, c ≠ z → c ≠ TO → c ≠ i1 → c ≠ i2 → s.heap.get? c = some o → h'.get? c = some o) → Q (.ref s.heap.objs.size) { s with heap := h' }) :
    wpAny (model P w) A (Builtin.«zip.__next__» ⟨[.ref z], []⟩) (fun fin s' => ∃ v, fin = .done (.ret v) ∧ Q v s') E s := by
  show wpAny _ _ (field (Value.ref z) 2 >>= _) _ _ _
  refine wpAny_bind (wpAny_field hz (rfl) (x := .bool false) rfl ?_); show wpAny _ _ (field (Value.ref z) 3 >>= _) _ _ _
  refine wpAny_bind (wpAny_field hz (rfl) (x := .ref TI) rfl ?_); refine wpAny_bind (wpAny_seqItems hTI (rfl) ?_)
  show wpAny _ _ (Builtin.SmallTypes.ownedTupleIsFree (Value.ref z) >>= _) _ _ _
  refine wpAny_bind ?_; unfold Builtin.SmallTypes.ownedTupleIsFree
  refine wpAny_bind (wpAny_field hz (rfl) (x := .none) rfl (wpAny_pure ?_)); simp only [if_true]
  refine wpAny_bind (wpAny_rule ?_); refine wpAny_bind (wpAny_field hz (rfl) (x := .ref TO) rfl ?_)
  refine wpAny_bind (wpAny_setField_rec hz (by simp) fun g1 z1 b1 => ?_); replace z1 : IsZip g1 z TI TO .ellipsis := z1
  refine wpAny_bind ?_; simp only [List.zipIdx_cons, List.zipIdx_nil, List.forIn_cons, List.forIn_nil]
  refine wpAny_bind (wpAny_bind (wpAny_onRaise ?_)); show wpAny _ _ (Builtin.SmallTypes.nextOf (Value.ref i1) >>= _) _ _ _
  refine wpAny_bind (S1.item _ _ _ k xs x _ (S1.keep _ _ _ h1 fun o e => b1.extBut _ _ D.i1z e) (S1.keepS _ _ _ hl1 fun o e => b1.extBut _ _ D.l1z e) hx fun g2 u1 b2 => wpAny_pure ?_)
  have p2 : IsPair g2 TO a b := b2.extBut _ _ D.TOi1 (b1.extBut _ _ D.TOz hTO)
  refine wpAny_bind (wpAny_seqItems p2 (rfl) ?_); refine wpAny_bind (wpAny_updateSeq_pair p2 fun g3 p3 b3 => ?_); replace p3 : IsPair g3 TO x b := p3
  refine wpAny_bind (wpAny_letGo (wpAny_pure ?_)); refine wpAny_bind (wpAny_bind (wpAny_onRaise ?_)); show wpAny _ _ (Builtin.SmallTypes.nextOf (Value.ref i2) >>= _) _ _ _
  refine wpAny_bind (S2.item _ _ _ k ys y _ (S2.keep _ _ _ h2 fun o e => b3.extBut _ _ D.TOi2.symm (b2.extBut _ _ D.i12.symm (b1.extBut _ _ D.i2z e)))
    (S2.keepS _ _ _ hl2 fun o e => b3.extBut _ _ D.l2TO (b2.extBut _ _ D.l2i1 (b1.extBut _ _ D.l2z e))) hy fun g4 u2 b4 => wpAny_pure ?_)
  have p4 : IsPair g4 TO x b := b4.extBut _ _ D.TOi2 p3
  refine wpAny_bind (wpAny_seqItems p4 (rfl) ?_); refine wpAny_bind (wpAny_updateSeq_pair p4 fun g5 p5 b5 => ?_); replace p5 : IsPair g5 TO x y := p5
  refine wpAny_bind (wpAny_letGo (wpAny_pure (wpAny_pure ?_))); refine wpAny_bind (wpAny_seqItems p5 (rfl) ?_); refine wpAny_bind (wpAny_newTuple ?_)
  have sz : g5.objs.size = s.heap.objs.size := by rw [b5.1, b4.1, b3.1, b2.1, b1.1]
  have z5 : IsZip g5 z TI TO .ellipsis := b5.extBut _ _ D.TOz.symm (b4.extBut _ _ D.i2z.symm (b3.extBut _ _ D.TOz.symm (b2.extBut _ _ D.i1z.symm z1)))
  have k5 : ∀ c o, c ≠ z → c ≠ TO → c ≠ i1 → c ≠ i2 → s.heap.get? c = some o → g5.get? c = some o := fun c o c1 c2 c3 c4 e => b5.extBut _ _ c2 (b4.extBut _ _ c4 (b3.extBut _ _ c2 (b2.extBut _ _ c3 (b1.extBut _ _ c1 e))))
  have v1 : U1 (k + 1) g5 := S1.keep _ _ _ u1 fun o e => b5.extBut _ _ D.TOi1.symm (b4.extBut _ _ D.i12 (b3.extBut _ _ D.TOi1.symm e))
  have v2 : U2 (k + 1) g5 := S2.keep _ _ _ u2 fun o e => b5.extBut _ _ D.TOi2.symm e
  have zl : z < g5.objs.size := Heap.lt_size z5
  show wpAny _ _ (Builtin.SmallTypes.ownedTupleHandOut (Value.ref z) (.ref g5.objs.size) >>= _) _ _ _
  refine wpAny_bind ?_; unfold Builtin.SmallTypes.ownedTupleHandOut
  have z6 : IsZip (g5.push { cls := .type "tuple", data := .seq #[x, y] }) z TI TO .ellipsis := Heap.get?_push_of_some _ z5
  refine wpAny_bind (wpAny_setField_rec z6 (by simp) fun g7 z7 b7 => ?_); replace z7 : IsZip g7 z TI TO (rawInt g5.objs.size) := z7
  refine wpAny_setField_rec z7 (by simp) fun g8 z8 b8 => ?_; replace z8 : IsZip g8 z TI TO (rawInt g5.objs.size) := z8
  have up : ∀ c o, c ≠ z → g5.get? c = some o → g8.get? c = some o := fun c o c1 e => b8.extBut _ _ c1 (b7.extBut _ _ c1 (Heap.get?_push_of_some _ e))
  have p8 : IsPair g8 g5.objs.size x y := b8.extBut _ _ (Nat.ne_of_gt zl) (b7.extBut _ _ (Nat.ne_of_gt zl) (Heap.get?_push_size _ rfl))
  rw [sz] at z8 p8
  refine wpAny_pure ⟨_, rfl, ?_⟩; show Q (.ref g5.objs.size) _; rw [sz]
  exact hQ g8 z8 (up _ _ D.TOz p5) (S1.keep _ _ _ v1 fun o e => up _ o D.i1z e) (S2.keep _ _ _ v2 fun o e => up _ o D.i2z e) p8 fun c o c1 c2 c3 c4 e => up c o c1 (k5 c o c1 c2 c3 c4 e)
theorem zipG_end {k : Nat} {xs ys : Array Value} {a b : Value} {Q : PySem.Fin → Shared → Prop} (S1 : Src P w i1 l1 U1 Z1) (S2 : Src P w i2 l2 U2 Z2) (hh : A.handled = none) (D : ZipApart z TI TO i1 i2 l1 l2)
    (hz : IsZip s.heap z TI TO .none) (hTI : IsPair s.heap TI (.ref i1) (.ref i2)) (hTO : IsPair s.heap TO a b) (h1 : U1 k s.heap) (h2 : U2 k s.heap) (hl1 : Z1 xs s.heap) (hl2 : Z2 ys s.heap) (hend : xs[k]? = none ∨ ys[k]? = none)
    (hE : ∀ h' e, (∀ c o, c ≠ z → c ≠ TO → c ≠ i1 → c ≠ i2 → s.heap.get? c = some o → h'.get? c = some o) → (∃ o, h'.get? e = some o ∧ o.cls = .type "StopIteration") → E (.ref e) { s with heap := h' }) :
    wpAny (model P w) A (Builtin.«zip.__next__» ⟨[.ref z], []⟩) Q E s := by
  show wpAny _ _ (field (Value.ref z) 2 >>= _) _ _ _
  refine wpAny_bind (wpAny_field hz (rfl) (x := .bool false) rfl ?_); show wpAny _ _ (field (Value.ref z) 3 >>= _) _ _ _
  refine wpAny_bind (wpAny_field hz (rfl) (x := .ref TI) rfl ?_); refine wpAny_bind (wpAny_seqItems hTI (rfl) ?_)
  show wpAny _ _ (Builtin.SmallTypes.ownedTupleIsFree (Value.ref z) >>= _) _ _ _
  refine wpAny_bind ?_; unfold Builtin.SmallTypes.ownedTupleIsFree
  refine wpAny_bind (wpAny_field hz (rfl) (x := .none) rfl (wpAny_pure ?_)); simp only [if_true]
  refine wpAny_bind (wpAny_rule ?_); refine wpAny_bind (wpAny_field hz (rfl) (x := .ref TO) rfl ?_)
  refine wpAny_bind (wpAny_setField_rec hz (by simp) fun g1 z1 b1 => ?_); replace z1 : IsZip g1 z TI TO .ellipsis := z1
  refine wpAny_bind ?_; simp only [List.zipIdx_cons, List.zipIdx_nil, List.forIn_cons, List.forIn_nil]
  refine wpAny_bind (wpAny_bind (wpAny_onRaise ?_)); show wpAny _ _ (Builtin.SmallTypes.nextOf (Value.ref i1) >>= _) _ _ _
  have j1 : U1 k g1 := S1.keep _ _ _ h1 fun o e => b1.extBut _ _ D.i1z e
  have m1 : Z1 xs g1 := S1.keepS _ _ _ hl1 fun o e => b1.extBut _ _ D.l1z e
  cases hx : xs[k]? with
  | none =>
    refine wpAny_bind (S1.fin _ _ _ k xs _ hh j1 m1 hx fun g2 e b2 he => ?_); obtain ⟨oe, hoe, hce⟩ := he
    have z2 : IsZip g2 z TI TO .ellipsis := b2 _ _ D.i1z.symm z1
    have ez : e ≠ z := fun q => by subst q; rw [z2] at hoe; cases hoe; simp at hce
    refine wpAny_setField_rec z2 (by simp) fun g3 _ b3 => hE g3 e (fun c o c1 _ c3 _ q => b3.extBut _ _ c1 (b2 _ _ c3 (b1.extBut _ _ c1 q))) ⟨oe, b3.extBut _ _ ez hoe, hce⟩
  | some x =>
    have hy : ys[k]? = none := by
      rcases hend with h | h
      · rw [hx] at h; cases h
      · exact h
    refine wpAny_bind (S1.item _ _ _ k xs x _ j1 m1 hx fun g2 u1 b2 => wpAny_pure ?_)
    have p2 : IsPair g2 TO a b := b2.extBut _ _ D.TOi1 (b1.extBut _ _ D.TOz hTO)
    refine wpAny_bind (wpAny_seqItems p2 (rfl) ?_); refine wpAny_bind (wpAny_updateSeq_pair p2 fun g3 p3 b3 => ?_)
    refine wpAny_bind (wpAny_letGo (wpAny_pure ?_)); refine wpAny_bind (wpAny_bind (wpAny_onRaise ?_)); show wpAny _ _ (Builtin.SmallTypes.nextOf (Value.ref i2) >>= _) _ _ _
    refine wpAny_bind (S2.fin _ _ _ k ys _ hh (S2.keep _ _ _ h2 fun o e => b3.extBut _ _ D.TOi2.symm (b2.extBut _ _ D.i12.symm (b1.extBut _ _ D.i2z e)))
      (S2.keepS _ _ _ hl2 fun o e => b3.extBut _ _ D.l2TO (b2.extBut _ _ D.l2i1 (b1.extBut _ _ D.l2z e))) hy fun g4 e b4 he => ?_)
    obtain ⟨oe, hoe, hce⟩ := he
    have z4 : IsZip g4 z TI TO .ellipsis := b4 _ _ D.i2z.symm (b3.extBut _ _ D.TOz.symm (b2.extBut _ _ D.i1z.symm z1))
    have ez : e ≠ z := fun q => by subst q; rw [z4] at hoe; cases hoe; simp at hce
    refine wpAny_setField_rec z4 (by simp) fun g5 _ b5 => hE g5 e (fun c o c1 c2 c3 c4 q => b5.extBut _ _ c1 (b4 _ _ c4 (b3.extBut _ _ c2 (b2.extBut _ _ c3 (b1.extBut _ _ c1 q))))) ⟨oe, b5.extBut _ _ ez hoe, hce⟩
end
/-! ### the step of the hand layer -/
/-- how a side is read off the hand layer's heap -/
structure Side (l : Addr) (K : PySem.W.Frag) (R : Hp → List V → Prop) (Sq : Array Value → Heap → Prop) : Prop where
  get : ∀ (X : Cx) (pins : List (Addr × Obj)) (σ : L2.St) (H : Hp) (s : Shared) (xs : List V), X.K = K → L2.Inv X pins σ H s → R H xs → ∃ its : List Value, Vals xs its ∧ Sq its.toArray s.heap ∧ l < s.heap.objs.size
  inj : ∀ (X : Cx) (pins : List (Addr × Obj)) (σ : L2.St) (H : Hp) (s : Shared) (xs ys : List V), X.K = K → L2.Inv X pins σ H s → R H xs → R H ys → xs = ys
theorem side_list {K : PySem.W.Frag} {a : Addr} : Side a K (fun H xs => SqL K H a xs) (fun arr h => h.IsList a arr) where
  get := fun X pins σ H s xs hK I r => by
    subst hK
    obtain ⟨its, rv, p, _⟩ := I.list r
    exact ⟨its, rv, p.isList, p.lt⟩
  inj := fun X pins σ H s xs ys hK I r r' => by
    subst hK
    exact I.list_inj r r'
theorem side_tup {K : PySem.W.Frag} {a : Addr} : Side a K (fun H xs => SqT K H a xs) (fun arr h => h.IsTuple a arr) where
  get := fun X pins σ H s xs hK I r => by
    subst hK
    obtain ⟨its, rv, p, _⟩ := I.tuple r
    obtain ⟨o, ho, _⟩ := id p
    exact ⟨its, rv, p, Heap.lt_size ho⟩
  inj := fun X pins σ H s xs ys hK I r r' => by
    subst hK
    exact I.tuple_inj r r'
def ItzG (R1 R2 : Hp → List V → Prop) : It :=
  ⟨fun i H => ∃ (xs ys : List V) (x y : V), R1 H xs ∧ R2 H ys ∧ xs[i]? = some x ∧ ys[i]? = some y,
    fun i H v H' => ∃ T x y, v = .ref T ∧ H T = none ∧ H' = upd H T (.tup [x, y]) ∧ (∀ xs, R1 H xs → xs[i]? = some x) ∧ ∀ ys, R2 H ys → ys[i]? = some y,
    fun i H => ∃ xs ys : List V, R1 H xs ∧ R2 H ys ∧ (xs.length ≤ i ∨ ys.length ≤ i)⟩
theorem turn_zipG {P : Program} {w : World} {K : PySem.W.Frag} {elts : List Expr} {kk : Nat} {tpos : Pos} {a b z TI TO i1 i2 : Addr} {R1 R2 : Hp → List V → Prop} {U1 U2 : Nat → Heap → Prop} {Z1 Z2 : Array Value → Heap → Prop}
    (S1 : Src P w i1 a U1 Z1) (S2 : Src P w i2 b U2 Z2) (L1 : Side a K R1 Z1) (L2' : Side b K R2 Z2) (D : ZipApart z TI TO i1 i2 a b) :
    Turn P w K (.Tuple elts kk tpos) (ItzG R1 R2) [z, TI, TO, i1, i2] z (fun i h => IsZip h z TI TO .none ∧ IsPair h TI (.ref i1) (.ref i2) ∧ (∃ x y, IsPair h TO x y) ∧ U1 i h ∧ U2 i h) where
  mem := by simp
  obj := fun i h st c hc => by
    obtain ⟨hz, hTI, ⟨x, y, hTO⟩, e1, e2⟩ := st
    have e' : c = z ∨ c = TI ∨ c = TO ∨ c = i1 ∨ c = i2 := by simpa using hc
    rcases e' with rfl | rfl | rfl | rfl | rfl
    · exact ⟨_, hz, fun v q => nomatch q⟩
    · exact ⟨_, hTI, fun v q => nomatch q⟩
    · exact ⟨_, hTO, fun v q => nomatch q⟩
    · exact S1.obj _ _ e1
    · exact S2.obj _ _ e2
  keep := fun i h h' st k => by
    obtain ⟨hz, hTI, ⟨x, y, hTO⟩, h1, h2⟩ := st
    exact ⟨k z (by simp) _ hz, k TI (by simp) _ hTI, ⟨x, y, k TO (by simp) _ hTO⟩, S1.keep _ _ _ h1 (k i1 (by simp)), S2.keep _ _ _ h2 (k i2 (by simp))⟩
  item := by
    intro X hP hw hK hc i pins s σ H E I hf st hg
    obtain ⟨hz, hTI, ⟨x0, y0, hTO⟩, h1, h2⟩ := st
    obtain ⟨xs, ys, x, y, hqx, hqy, hx, hy⟩ := hg
    obtain ⟨its, rv, p, _⟩ := L1.get X pins σ H s xs hK I hqx
    obtain ⟨its2, rv2, p2, _⟩ := L2'.get X pins σ H s ys hK I hqy
    obtain ⟨u, hu, ru⟩ := rv.get hx
    obtain ⟨u2, hu2, ru2⟩ := rv2.get hy
    have hzl : z < s.heap.objs.size := Heap.lt_size hz
    have hT : s.TypeIs (.ref z) "zip" := ⟨_, hz, rfl⟩
    unfold pyNext
    refine wpAny_bind (wpAny_attempt (wpAny_callSpecial?_slot (name := Str.ofString "__next__") hT F.slot_zip_next (wpAny_call_entry F.slot_zip_next hT F.entry_zip_next
      (zipG_item S1 S2 D hz hTI hTO h1 h2 p p2 (x := u) (y := u2) (by simpa using hu) (by simpa using hu2) fun h' z' TO' h1' h2' hT' hk => wpAny_pure ?_) (F.args_zip_next_1 _))))
    refine ⟨_, rfl, wpAny_letOwnedTupleGo_zip (s := { s with heap := h' }) z' fun h'' z'' sb => ?_⟩
    have hT2 : h''.get? s.heap.objs.size = some { cls := .type "tuple", data := .seq #[u, u2] } := ((sb.2 _ (Nat.ne_of_gt hzl)).trans hT')
    subst hP hw hK
    have new : ObjOk X.prog X.w (upd H s.heap.objs.size (.tup [x, y])) h'' s.heap.objs.size (.tup [x, y]) := ⟨by show 2 ≤ sizeLine; decide, [u, u2], .cons ru (.cons ru2 .nil), ⟨_, hT2, rfl, _, rfl⟩⟩
    have kk' : ∀ (c : Addr) (o : Obj), c ∉ [z, TI, TO, i1, i2] → s.heap.get? c = some o → h''.get? c = some o := fun c o hb q => (sb.2 c (fun q' => hb (by simp [q']))).trans (hk c o (fun q' => hb (by simp [q'])) (fun q' => hb (by simp [q'])) (fun q' => hb (by simp [q'])) (fun q' => hb (by simp [q'])) q)
    have I1 : L2.Inv X pins σ (upd H s.heap.objs.size (.tup [x, y])) { s with heap := h'' } := I.turnedNew (t' := s.toks) (ch := [z, TI, TO, i1, i2]) kk' hf (Nat.le_refl _) new
    refine ⟨.ref s.heap.objs.size, _, I1, rfl, ⟨_, x, y, rfl, I.hok.fresh (Nat.le_refl _), rfl, fun l hl => ?_, fun l hl => ?_⟩, ⟨z'', ?_, ⟨u, u2, ?_⟩, ?_, ?_⟩, fun c hcm => ?_⟩
    · rw [L1.inj X pins σ H s l xs rfl I hl hqx]
      exact hx
    · rw [L2'.inj X pins σ H s l ys rfl I hl hqy]
      exact hy
    · exact (sb.2 _ D.TIz).trans ((hk _ _ D.TIz D.TITO D.TIi1 D.TIi2 hTI))
    · exact (sb.2 _ D.TOz).trans TO'
    · exact S1.keep _ _ _ h1' fun o q => (sb.2 _ D.i1z).trans q
    · exact S2.keep _ _ _ h2' fun o q => (sb.2 _ D.i2z).trans q
    · have hlt : c < s.heap.objs.size := by
        have e' : c = z ∨ c = TI ∨ c = TO ∨ c = i1 ∨ c = i2 := by simpa using hcm
        rcases e' with rfl | rfl | rfl | rfl | rfl
        · exact hzl
        · exact Heap.lt_size hTI
        · exact Heap.lt_size hTO
        · obtain ⟨_, e1, _⟩ := S1.obj _ _ h1; exact Heap.lt_size e1
        · obtain ⟨_, e2, _⟩ := S2.obj _ _ h2; exact Heap.lt_size e2
      rw [upd_ne (Nat.ne_of_lt hlt)]
      exact (hf c hcm).1
  done := by
    intro X hP hw hK hc i pins s σ H E I hf st hg
    obtain ⟨hz, hTI, ⟨x0, y0, hTO⟩, h1, h2⟩ := st
    obtain ⟨xs, ys, hqx, hqy, hend⟩ := hg
    obtain ⟨its, rv, p, _⟩ := L1.get X pins σ H s xs hK I hqx
    obtain ⟨its2, rv2, p2, _⟩ := L2'.get X pins σ H s ys hK I hqy
    have l1 := rv.length
    have l2 := rv2.length
    have he : its.toArray[i]? = none ∨ its2.toArray[i]? = none := by
      rcases hend with q | q
      · exact .inl (by simp; omega)
      · exact .inr (by simp; omega)
    have hT : s.TypeIs (.ref z) "zip" := ⟨_, hz, rfl⟩
    unfold pyNext
    refine wpAny_bind (wpAny_attempt (wpAny_callSpecial?_slot (name := Str.ofString "__next__") hT F.slot_zip_next
      (wpAny_call_entry F.slot_zip_next hT F.entry_zip_next (zipG_end S1 S2 (I.ok.hd hc) D hz hTI hTO h1 h2 p p2 he fun h' e hk he => ?_) (F.args_zip_next_1 _))))
    obtain ⟨o, ho, hc'⟩ := he
    refine wpAny_bind (wpAny_isInstance (T := "StopIteration") (b := true) ⟨o, ho, hc'⟩ isSubtype_stop ?_)
    refine wpAny_pure ⟨rfl, I.turnedL (t' := s.toks) (ch := [z, TI, TO, i1, i2]) (fun c o hb q => hk c o (fun q' => hb (by simp [q'])) (fun q' => hb (by simp [q'])) (fun q' => hb (by simp [q'])) (fun q' => hb (by simp [q'])) q) hf⟩
  self := fun A i s Q E st h => wpAny_pyIter_zip st.1 h
/-! ### zip of a tuple and a list made -/
abbrev zTL1 (h : Heap) (l1 : Addr) : Heap := h.push { cls := .type "tuple_iterator", data := .fields #[.ref l1, .int 0 0] }
abbrev zTL2 (h : Heap) (l1 l2 : Addr) : Heap := (zTL1 h l1).push { cls := .type "list_iterator", data := .fields #[.ref l2, .int 0 0] }
abbrev zTL3 (h : Heap) (l1 l2 : Addr) : Heap := (zTL2 h l1 l2).push { cls := .type "tuple", data := .seq #[.ref h.objs.size, .ref (zTL1 h l1).objs.size] }
abbrev zTL4 (h : Heap) (l1 l2 : Addr) : Heap := (zTL3 h l1 l2).push { cls := .type "tuple", data := .seq #[.none, .none] }
abbrev zTL5 (h : Heap) (l1 l2 : Addr) : Heap := (zTL4 h l1 l2).push { cls := .type "zip", data := .fields #[.none, .bool false, .bool false, .ref (zTL2 h l1 l2).objs.size, .ref (zTL3 h l1 l2).objs.size] }
abbrev zLT1 (h : Heap) (l1 : Addr) : Heap := h.push { cls := .type "list_iterator", data := .fields #[.ref l1, .int 0 0] }
abbrev zLT2 (h : Heap) (l1 l2 : Addr) : Heap := (zLT1 h l1).push { cls := .type "tuple_iterator", data := .fields #[.ref l2, .int 0 0] }
abbrev zLT3 (h : Heap) (l1 l2 : Addr) : Heap := (zLT2 h l1 l2).push { cls := .type "tuple", data := .seq #[.ref h.objs.size, .ref (zLT1 h l1).objs.size] }
abbrev zLT4 (h : Heap) (l1 l2 : Addr) : Heap := (zLT3 h l1 l2).push { cls := .type "tuple", data := .seq #[.none, .none] }
abbrev zLT5 (h : Heap) (l1 l2 : Addr) : Heap := (zLT4 h l1 l2).push { cls := .type "zip", data := .fields #[.none, .bool false, .bool false, .ref (zLT2 h l1 l2).objs.size, .ref (zLT3 h l1 l2).objs.size] }
theorem new_zTL (l1 l2 : Addr) (xs ys : Array Value) : Meets (Builtin.«zip.__new__» ⟨[.type "zip", .ref l1, .ref l2], []⟩) (fun _ R s => s.heap.IsTuple l1 xs ∧ s.heap.IsList l2 ys ∧ R (.ok (.ret (.ref (zTL4 s.heap l1 l2).objs.size))) { s with heap := zTL5 s.heap l1 l2 }) :=
  .of_wp fun prog w A R s h => by
    obtain ⟨hp, g, d, tk, os⟩ := s
    obtain ⟨k1, k2, h⟩ := h
    have hsub := sub_zip
    have e1 : Heap.IsTuple (Shared.heap ⟨hp, g, d, tk, os⟩) l1 xs := k1
    have e2 : Heap.IsList (Shared.heap ⟨hp.push { cls := .type "tuple_iterator", data := .fields #[.ref l1, .int 0 0] }, g, d, tk, os⟩) l2 ys := Heap.IsList.push k2 _
    wp_walk using wpAny_pyIter_tuple e1, wpAny_pyIter_list e2
    exact ⟨_, rfl, h⟩
theorem new_zLT (l1 l2 : Addr) (xs ys : Array Value) : Meets (Builtin.«zip.__new__» ⟨[.type "zip", .ref l1, .ref l2], []⟩) (fun _ R s => s.heap.IsList l1 xs ∧ s.heap.IsTuple l2 ys ∧ R (.ok (.ret (.ref (zLT4 s.heap l1 l2).objs.size))) { s with heap := zLT5 s.heap l1 l2 }) :=
  .of_wp fun prog w A R s h => by
    obtain ⟨hp, g, d, tk, os⟩ := s
    obtain ⟨k1, k2, h⟩ := h
    have hsub := sub_zip
    have e1 : Heap.IsList (Shared.heap ⟨hp, g, d, tk, os⟩) l1 xs := k1
    have e2 : Heap.IsTuple (Shared.heap ⟨hp.push { cls := .type "list_iterator", data := .fields #[.ref l1, .int 0 0] }, g, d, tk, os⟩) l2 ys := Heap.IsTuple.push k2 _
    wp_walk using wpAny_pyIter_list e1, wpAny_pyIter_tuple e2
    exact ⟨_, rfl, h⟩
section
variable {P : Program} {w : World} {A : Around} {E : Value → Shared → Prop} {s : Shared}
theorem call_zTL {l1 l2 : Addr} {xs ys : Array Value} {Q : Value → Shared → Prop} (k1 : s.heap.IsTuple l1 xs) (k2 : s.heap.IsList l2 ys)
    (h : ∀ h', IsZip h' (s.heap.objs.size + 4) (s.heap.objs.size + 2) (s.heap.objs.size + 3) .none → IsPair h' (s.heap.objs.size + 2) (.ref s.heap.objs.size) (.ref (s.heap.objs.size + 1)) → IsPair h' (s.heap.objs.size + 3) .none .none →
      h'.IsTupleIter s.heap.objs.size l1 0 → h'.IsListIter (s.heap.objs.size + 1) l2 0 → (∀ c o, s.heap.get? c = some o → h'.get? c = some o) → Q (.ref (s.heap.objs.size + 4)) { s with heap := h' }) :
    wpAny (model P w) A (call (.type "zip") [.ref l1, .ref l2]) Q E s := by
  refine callType_new F.called_zip (by decide) (F.typeCall_zip_2 _ _) (F.newCall_zip_2 _ _) (fun obj => F.args_object_init_3 obj _ _) F.entry_zip_new (new_zTL l1 l2 xs ys) ⟨k1, k2, ?_⟩
  have z1 : (zTL1 s.heap l1).objs.size = s.heap.objs.size + 1 := Heap.size_push ..
  have z2 : (zTL2 s.heap l1 l2).objs.size = s.heap.objs.size + 2 := by rw [Heap.size_push, z1]
  have z3 : (zTL3 s.heap l1 l2).objs.size = s.heap.objs.size + 3 := by rw [Heap.size_push, z2]
  have z4 : (zTL4 s.heap l1 l2).objs.size = s.heap.objs.size + 4 := by rw [Heap.size_push, z3]
  have g5 : (zTL5 s.heap l1 l2).get? (zTL4 s.heap l1 l2).objs.size = some _ := Heap.get?_push_size _ rfl
  have g4 : (zTL5 s.heap l1 l2).get? (zTL3 s.heap l1 l2).objs.size = some _ := Heap.get?_push_of_some _ (Heap.get?_push_size _ rfl)
  have g3 : (zTL5 s.heap l1 l2).get? (zTL2 s.heap l1 l2).objs.size = some _ := Heap.get?_push_of_some _ (Heap.get?_push_of_some _ (Heap.get?_push_size _ rfl))
  have g2 : (zTL5 s.heap l1 l2).get? (zTL1 s.heap l1).objs.size = some _ := Heap.get?_push_of_some _ (Heap.get?_push_of_some _ (Heap.get?_push_of_some _ (Heap.get?_push_size _ rfl)))
  have g1 : (zTL5 s.heap l1 l2).get? s.heap.objs.size = some _ := Heap.get?_push_of_some _ (Heap.get?_push_of_some _ (Heap.get?_push_of_some _ (Heap.get?_push_of_some _ (Heap.get?_push_size _ rfl))))
  show _ ∧ _
  rw [z2, z3, z4] at g5; rw [z1, z2] at g3; rw [z3] at g4; rw [z1] at g2; rw [z4]
  exact ⟨⟨_, g5, rfl⟩, h _ g5 g3 g4 ⟨_, g1, rfl, rfl⟩ ⟨_, g2, rfl, rfl⟩ fun c o x => Heap.get?_push_of_some _ (Heap.get?_push_of_some _ (Heap.get?_push_of_some _ (Heap.get?_push_of_some _ (Heap.get?_push_of_some _ x))))⟩
theorem call_zLT {l1 l2 : Addr} {xs ys : Array Value} {Q : Value → Shared → Prop} (k1 : s.heap.IsList l1 xs) (k2 : s.heap.IsTuple l2 ys)
    (h : ∀ h', IsZip h' (s.heap.objs.size + 4) (s.heap.objs.size + 2) (s.heap.objs.size + 3) .none → IsPair h' (s.heap.objs.size + 2) (.ref s.heap.objs.size) (.ref (s.heap.objs.size + 1)) → IsPair h' (s.heap.objs.size + 3) .none .none →
      h'.IsListIter s.heap.objs.size l1 0 → h'.IsTupleIter (s.heap.objs.size + 1) l2 0 → (∀ c o, s.heap.get? c = some o → h'.get? c = some o) → Q (.ref (s.heap.objs.size + 4)) { s with heap := h' }) :
    wpAny (model P w) A (call (.type "zip") [.ref l1, .ref l2]) Q E s := by
  refine callType_new F.called_zip (by decide) (F.typeCall_zip_2 _ _) (F.newCall_zip_2 _ _) (fun obj => F.args_object_init_3 obj _ _) F.entry_zip_new (new_zLT l1 l2 xs ys) ⟨k1, k2, ?_⟩
  have z1 : (zLT1 s.heap l1).objs.size = s.heap.objs.size + 1 := Heap.size_push ..
  have z2 : (zLT2 s.heap l1 l2).objs.size = s.heap.objs.size + 2 := by rw [Heap.size_push, z1]
  have z3 : (zLT3 s.heap l1 l2).objs.size = s.heap.objs.size + 3 := by rw [Heap.size_push, z2]
  have z4 : (zLT4 s.heap l1 l2).objs.size = s.heap.objs.size + 4 := by rw [Heap.size_push, z3]
  have g5 : (zLT5 s.heap l1 l2).get? (zLT4 s.heap l1 l2).objs.size = some _ := Heap.get?_push_size _ rfl
  have g4 : (zLT5 s.heap l1 l2).get? (zLT3 s.heap l1 l2).objs.size = some _ := Heap.get?_push_of_some _ (Heap.get?_push_size _ rfl)
  have g3 : (zLT5 s.heap l1 l2).get? (zLT2 s.heap l1 l2).objs.size = some _ := Heap.get?_push_of_some _ (Heap.get?_push_of_some _ (Heap.get?_push_size _ rfl))
  have g2 : (zLT5 s.heap l1 l2).get? (zLT1 s.heap l1).objs.size = some _ := Heap.get?_push_of_some _ (Heap.get?_push_of_some _ (Heap.get?_push_of_some _ (Heap.get?_push_size _ rfl)))
  have g1 : (zLT5 s.heap l1 l2).get? s.heap.objs.size = some _ := Heap.get?_push_of_some _ (Heap.get?_push_of_some _ (Heap.get?_push_of_some _ (Heap.get?_push_of_some _ (Heap.get?_push_size _ rfl))))
  show _ ∧ _
  rw [z2, z3, z4] at g5; rw [z1, z2] at g3; rw [z3] at g4; rw [z1] at g2; rw [z4]
  exact ⟨⟨_, g5, rfl⟩, h _ g5 g3 g4 ⟨_, g1, rfl, rfl⟩ ⟨_, g2, rfl, rfl⟩ fun c o x => Heap.get?_push_of_some _ (Heap.get?_push_of_some _ (Heap.get?_push_of_some _ (Heap.get?_push_of_some _ (Heap.get?_push_of_some _ x))))⟩
end
def iZipM (K : PySem.W.Frag) (ta : TA) : TI := fun σ H R => ta σ H fun vs H1 => ∃ a b xs ys, vs = [.ref a, .ref b] ∧
  ((SqT K H1 a xs ∧ SqL K H1 b ys ∧ R (ItzG (fun H xs => SqT K H a xs) (fun H xs => SqL K H b xs)) H1) ∨ (SqL K H1 a xs ∧ SqT K H1 b ys ∧ R (ItzG (fun H xs => SqL K H a xs) (fun H xs => SqT K H b xs)) H1))
theorem p_zipM {X : Cx} {K : PySem.W.Frag} {e e2 : Expr} {ta : TA} {p pos tpos : Pos} {elts : List Expr} {kk : Nat} (hg : Gl X "zip") (hm : X.mg "zip" = none) (ha : PA X [e, e2] ta) (hK : X.K = K := by rfl)
    (hs : starEach [e, e2] X.env = (false, eval e X.env) :: starEach [e2] X.env := by rfl) (hpl : (backTo pos (starEach [e2] X.env)).any (·.1) = false := by rfl) : PI X (.Tuple elts kk tpos) (.Call (.Name "zip" p) [e, e2] [] pos) (iZipM K ta) := by
  subst hK
  refine ⟨fun pins s σ H R I h => ?_⟩
  refine Call_ (ld_blt I hg hm PyProof.Rows.boot_zip (PyProof.Rows.callWith_type1 (thn (ha.run pos pins s σ H _ I h) fun us s1 ⟨vs, H1, I1, r1, q1⟩ => ?_) hs hpl))
  obtain ⟨a, b, xs, ys, rfl, q1⟩ := q1
  obtain ⟨u, u', rfl, ru, ru'⟩ : ∃ u u', us = [u, u'] ∧ RelV (.ref a) u ∧ RelV (.ref b) u' := by
    cases r1 with
    | cons r rr =>
      cases rr with
      | cons r' rr =>
        cases rr
        exact ⟨_, _, rfl, r, r'⟩
  cases ru
  cases ru'
  have fresh5 : ∀ c, c ∈ [s1.heap.objs.size + 4, s1.heap.objs.size + 2, s1.heap.objs.size + 3, s1.heap.objs.size, s1.heap.objs.size + 1] → FpOk X pins H1 c := fun c hcm => by
    have hle : s1.heap.objs.size ≤ c := by
      simp only [List.mem_cons, List.not_mem_nil, or_false] at hcm
      omega
    exact I1.fpOk hle (I1.hok.fresh hle)
  rcases q1 with ⟨hqx, hqy, q⟩ | ⟨hqx, hqy, q⟩
  · obtain ⟨its, rv, p1, la⟩ := (side_tup (a := a)).get X pins σ H1 s1 xs rfl I1 hqx
    obtain ⟨its2, rv2, p2, lb⟩ := (side_list (a := b)).get X pins σ H1 s1 ys rfl I1 hqy
    refine call_zTL p1 p2 fun h' hz hTI hTO h1 h2 hk => wpAny_pyIter_zip hz ?_
    have I2 : L2.Inv X pins σ H1 { s1 with heap := h' } := I1.kept (t' := s1.toks) hk
    exact ⟨s1.heap.objs.size + 4, [s1.heap.objs.size + 4, s1.heap.objs.size + 2, s1.heap.objs.size + 3, s1.heap.objs.size, s1.heap.objs.size + 1], _, _, H1, rfl, I2, turn_zipG src_tup src_list side_tup side_list (PySem.W.ktu_apart s1.heap.objs.size a b la lb), ⟨hz, hTI, ⟨_, _, hTO⟩, h1, h2⟩, fresh5, q⟩
  · obtain ⟨its, rv, p1, la⟩ := (side_list (a := a)).get X pins σ H1 s1 xs rfl I1 hqx
    obtain ⟨its2, rv2, p2, lb⟩ := (side_tup (a := b)).get X pins σ H1 s1 ys rfl I1 hqy
    refine call_zLT p1 p2 fun h' hz hTI hTO h1 h2 hk => wpAny_pyIter_zip hz ?_
    have I2 : L2.Inv X pins σ H1 { s1 with heap := h' } := I1.kept (t' := s1.toks) hk
    exact ⟨s1.heap.objs.size + 4, [s1.heap.objs.size + 4, s1.heap.objs.size + 2, s1.heap.objs.size + 3, s1.heap.objs.size, s1.heap.objs.size + 1], _, _, H1, rfl, I2, turn_zipG src_list src_tup side_list side_tup (PySem.W.ktu_apart s1.heap.objs.size a b la lb), ⟨hz, hTI, ⟨_, _, hTO⟩, h1, h2⟩, fresh5, q⟩
theorem walk_zipG {R1 R2 : Hp → List V → Prop} {xs ys : List V} {n : Nat} (hn : n = min xs.length ys.length) : Walk (ItzG R1 R2) n (fun H => R1 H xs ∧ R2 H ys) (YPair (fun i => xs[i]?) (fun i => ys[i]?)) := by
  subst hn
  refine ⟨fun i _ hi q => ?_, fun _ q => ⟨xs, ys, q.1, q.2, by omega⟩, fun i H v H' _ q y => ?_⟩
  · have k1 : i < xs.length := by omega
    have k2 : i < ys.length := by omega
    exact ⟨xs, ys, xs[i], ys[i], q.1, q.2, by simp [k1], by simp [k2]⟩
  · obtain ⟨T, x, u, k1, k2, k3, k4, k5⟩ := y
    exact ⟨T, x, u, k1, k2, k3, k4 xs q.1, k5 ys q.2⟩
end Bw
set_option Elab.async false
set_option linter.all false
set_option maxRecDepth 100000
set_option maxHeartbeats 4000000
namespace Bw
open PySem PySem.Spec PyProof.Rows L2
section
variable {X : Cx} {K : PySem.W.Frag}
theorem p_bm {o e : Expr} {es : List Expr} {to : TE} {t : TA} {name : Str} {apos cpos : Pos} {T id : String} {r : V → List V → Hp → VK → Prop} (pa : PlainAttrs T) (slot : Slot T name id) (hty : typeOf (.builtin id) = pure (.type "method_descriptor")) (hm : MtM X id r) (ho : PE X o to) (ha : PA X (e :: es) t) (hK : X.K = K := by rfl)
    (hbase : attributeBase o name X.env (eval o X.env) = eval o X.env := by rfl)
    (hfew : ((backTo cpos (starEach (e :: es) X.env)).all (fun x => !x.1) && (backToKw cpos (keywordEach [] X.env)).all (fun x => x.1.isSome) && decide ((e :: es).length + ([] : List Keyword).length + (if ([] : List Keyword).isEmpty then 0 else 1) < 30)) = true := by rfl)
    (hline : (apos.endLine == cpos.line) = true := by rfl) (hs : starEach (e :: es) X.env = (false, eval e X.env) :: starEach es X.env := by rfl) (hplain : (backTo cpos (starEach es X.env)).any (·.1) = false := by rfl) :
    PE X (.Call (.Attribute o name apos) (e :: es) [] cpos) (tBM K T r to t) := by
  subst hK
  exact pe_bm pa slot hty hm ho ha hbase hfew hline hs hplain
theorem p_zipA {e e2 : Expr} {ta : TA} {p pos tpos : Pos} {elts : List Expr} {kk : Nat} (hg : Gl X "zip") (hm : X.mg "zip" = none) (ha : PA X [e, e2] ta) (hK : X.K = K := by rfl)
    (hs : starEach [e, e2] X.env = (false, eval e X.env) :: starEach [e2] X.env := by rfl) (hpl : (backTo pos (starEach [e2] X.env)).any (·.1) = false := by rfl) : PI X (.Tuple elts kk tpos) (.Call (.Name "zip" p) [e, e2] [] pos) (RZ.iZipA K ta) := by
  subst hK
  exact RZ.pi_zipA hg hm ha hs hpl
/-! ### a walk over a list or a tuple -/
def SqS (K : PySem.W.Frag) (b : Bool) (H : Hp) (a : Addr) (xs : List V) : Prop := if b then SqL K H a xs else SqT K H a xs
def ItS (K : PySem.W.Frag) (b : Bool) (a : Addr) : It := if b then Itl K a else Itt K a
def oS (b : Bool) (xs : List V) : HO := if b then .lst xs else .tup xs
theorem SqS.of {K : PySem.W.Frag} {b : Bool} {H : Hp} {a : Addr} {xs : List V} (h : H a = some (oS b xs)) : SqS K b H a xs := by
  cases b
  · exact SqT.of h
  · exact SqL.of h
theorem SqS.or {K : PySem.W.Frag} {b : Bool} {H : Hp} {a : Addr} {xs : List V} (h : SqS K b H a xs) : SqL K H a xs ∨ SqT K H a xs := by
  cases b
  · exact .inr h
  · exact .inl h
theorem walk_seq {b : Bool} {a : Addr} {xs : List V} : Walk (ItS K b a) xs.length (fun H => SqS K b H a xs) (YAt xs) := by
  cases b
  · exact walk_tup
  · exact walk_list
def iSeq (K : PySem.W.Frag) (tl : TE) : TI := fun σ H R => tl σ H fun v H1 => ∃ (a : Addr) (xs : List V) (b : Bool), v = .ref a ∧ SqS K b H1 a xs ∧ R (ItS K b a) H1
theorem p_seq {tg l : Expr} {tl : TE} (hl : PE X l tl) (hK : X.K = K := by rfl) : PI X tg l (iSeq K tl) := by
  subst hK
  refine ⟨fun pins s σ H R I h => thn (hl.run pins s σ H _ I h) fun v s1 ⟨x, H1, I1, r1, q1⟩ => ?_⟩
  obtain ⟨a, xs, b, rfl, hq, q⟩ := q1
  cases r1
  have hf : ∀ c ∈ [s1.heap.objs.size], FpOk X pins H1 c := fun c hc => by
    rw [List.mem_singleton.mp hc]
    exact I1.fpOk (Nat.le_refl _) (I1.hok.fresh (Nat.le_refl _))
  cases b
  · obtain ⟨its, rv, p, hz⟩ := I1.tuple hq
    exact wpAny_pyIter_tuple (show s1.heap.IsTuple a its.toArray from p) ⟨s1.heap.objs.size, [s1.heap.objs.size], _, _, H1, rfl, I1.kept (t' := s1.toks) fun b o e => Heap.get?_push_of_some _ e, turn_tuple a _, ⟨_, Heap.get?_push_size _ rfl, rfl, rfl⟩, hf, q⟩
  · obtain ⟨its, rv, p, hz⟩ := I1.list hq
    exact wpAny_pyIter_list p.isList ⟨s1.heap.objs.size, [s1.heap.objs.size], _, _, H1, rfl, I1.kept (t' := s1.toks) fun b o e => Heap.get?_push_of_some _ e, turn_list a _, ⟨_, Heap.get?_push_size _ rfl, rfl, rfl⟩, hf, q⟩
end
end Bw
set_option Elab.async false
set_option linter.all false
set_option maxRecDepth 100000
namespace Bw
open PySem PySem.Spec PyProof.Rows L2
def topS (i : Nat) : Stmt := PySem.Challenge.pw_budwright_k16_tables_written_and_read.main.body.getD i (.Pass ⟨0, 0, 0, 0⟩)
structure Tx (mg : Str → Option Value) : Prop where
  len : mg "len" = none
  range : mg "range" = none
  zip : mg "zip" = none
  abs : mg "abs" = none
  all : mg "all" = none
  any : mg "any" = none
  sorted : mg "sorted" = none
  isinstance : mg "isinstance" = none
  int : mg "int" = none
  bool : mg "bool" = none
  tuple : mg "tuple" = none
  list : mg "list" = none
  dict : mg "dict" = none
  str : mg "str" = none
  ValueError : mg "ValueError" = none
  MOST_TIE : ∃ t, mg "MOST_TIE" = some (.int 50 t)
  MOST_BUDS : ∃ t, mg "MOST_BUDS" = some (.int 4 t)
  MOST_ROOTS : ∃ t, mg "MOST_ROOTS" = some (.int 4 t)
  MOST_FIGURES : ∃ t, mg "MOST_FIGURES" = some (.int 6 t)
  FIGURES : ∃ t, mg "FIGURES" = some (.str "0123456789" t)
end Bw
set_option Elab.async false
set_option linter.all false
set_option maxRecDepth 100000
set_option maxHeartbeats 2000000
namespace Bw
open PySem PySem.Spec PyProof.Rows L2
section
variable {P : Program} {w : World} {K : PySem.W.Frag} {mg : Str → Option Value} {base : Heap}
abbrev s_law_draw : Stmt := topS 35
abbrev n_law_draw : List Str := ["_law_feed_here", "_law_many", "_law_cell", "_law_digit", "_law_mix"]
theorem sc_law_draw : FnScope n_law_draw ["_law_feed_here", "_law_many"] (defScope s_law_draw) := ⟨rfl, rfl, rfl, by decide +kernel, rfl, by decide +kernel, by decide +kernel⟩
def spDraw : Sp := fun vs H Q _ => ∃ (f l : Addr) (n : Int), vs = [.ref f, .int n] ∧ FeedAt H f l ∧ 0 < n ∧ n < 1073741824 ∧ ∀ (v : Int) (H' : Hp), 0 ≤ v → v < n → SameBut f H H' → FeedAt H' f l → Q (.int v) H'
theorem ok_draw {f : Addr} {fd : FuncData} {k : Nat} (F : Fun K "_law_draw" "_law_draw" s_law_draw f fd) (T : Tx mg) : FnOk P w K mg base CX0 (k + 1) f fd ["_law_feed_here", "_law_many"] spDraw := by
  refine F.ok sc_law_draw (fun vs H Q E h => ?_) (fun cdv A outer s H vs Q E hr h => ?_)
  · obtain ⟨f, l, n, rfl, _⟩ := h
    rfl
  · obtain ⟨f, l, r, rfl, ⟨ns, i, n, m, c, nlf, hf, hl, hi, hn, hm, hm2⟩, hr0, hr1, q⟩ := h
    refine ⟨_, (C8.pss_cut (ps_if (PW.pt (pw_and (pt_cmpR op_eq (pe_ix ix_list (pv 0) pe_int (fun _ _ => rfl)) pe_int (nomark _)) (pw_and1 (pt_cmpR op_lt (pe_ix ix_list (pv 0) pe_int (fun _ _ => rfl)) (pe_callB call_len_seq (by rfl) T.len PySem.boot_len (pa_cons (pe_ix ix_list (pv 0) pe_int (fun _ _ => rfl)) pa_nil)) (nomark _)))))
    (pss_cons (ps_set (i := 2) sc_law_draw.nd rfl (.inl rfl) (pe_ix ix_list (pe_ix ix_list (pv 0) pe_int (fun _ _ => rfl)) (pe_ix ix_list (pv 0) pe_int (fun _ _ => rfl)) (fun _ _ => rfl)))
    (pss_cons (ps_asg (pe_op op_add (pe_ix ix_list (pv 0) pe_int (fun _ _ => rfl)) pe_int) (pg_sub (pv 0) pe_int set_list))
    (pss_one (ps_if (pt_cmpR op_ge (pv 2) (pe_op op_pow pe_int pe_int) (nomark _))
      (pss_one (ps_asg (pv 2) (pg_sub (pv 0) pe_int set_list)))
      (pss_one (ps_asg (pe_op op_mod (pe_op op_add (pe_op op_add (pe_op op_mul (pe_ix ix_list (pv 0) pe_int (fun _ _ => rfl)) pe_int) (pe_op op_mul (pe_op op_mod (pv 2) pe_int) pe_int)) pe_int) pe_int) (pg_sub (pv 0) pe_int set_list)))))))
    pss_nil)
  (pss_cons (ps_if (pt_cmpR op_gt (pe_ix ix_list (pv 0) pe_int (fun _ _ => rfl)) pe_int (nomark _))
    (pss_cons (ps_set (i := 3) sc_law_draw.nd rfl (.inl rfl) (pe_op op_mod (pe_ix ix_list (pv 0) pe_int (fun _ _ => rfl)) (pv 1)))
    (pss_cons (ps_asg (pe_op op_fdiv (pe_ix ix_list (pv 0) pe_int (fun _ _ => rfl)) (pv 1)) (pg_sub (pv 0) pe_int set_list))
    (pss_one (ps_ret (pv 3)))))
    pss_nil)
  (pss_cons (ps_asg (pe_op op_add (pe_ix ix_list (pv 0) pe_int (fun _ _ => rfl)) pe_int) (pg_sub (pv 0) pe_int set_list))
  (pss_cons (ps_set (i := 4) sc_law_draw.nd rfl (.inl rfl) (pe_ix ix_list (pv 0) pe_int (fun _ _ => rfl)))
  (pss_cons (ps_set (i := 4) sc_law_draw.nd rfl (.inl rfl) (pe_op op_add (pe_op op_add (pe_op op_add (pe_op op_mul (pe_op op_mod (pe_op op_mul (pv 4) (pv 4)) pe_int) pe_int) (pe_op op_mul (pv 4) pe_int)) (pe_op op_mul pe_int (pe_ix ix_list (pv 0) pe_int (fun _ _ => rfl)))) pe_int))
  (pss_cons (ps_asg (pe_op op_mod (pv 4) pe_int) (pg_sub (pv 0) pe_int set_list))
  (pss_one (ps_ret (pe_op op_mod (pe_op op_add (pe_op op_fdiv (pe_ix ix_list (pv 0) pe_int (fun _ _ => rfl)) pe_int) (pe_op op_mul (pe_op op_mod (pe_ix ix_list (pv 0) pe_int (fun _ _ => rfl)) pe_int) pe_int)) (pv 1)))))))))), ?_⟩
    -- between: a feed of the same list
    refine ⟨fun σ H2 => ∃ (y : Option V) (i : Nat) (n m : Int), σ = [some (.ref f), some (.int r), y, none, none] ∧ SameBut f H H2 ∧ H2 f = some (.lst [.ref l, .int i, .int n, .int m, .int c]) ∧ i ≤ ns.length ∧ 0 ≤ n ∧ 0 ≤ m ∧ m < 2147483647, ?_, ?_⟩
    · refine ⟨.ref f, rfl, f, _, 2, .int n, rfl, rfl, SqL.of hf, rfl, rfl, _, rfl, ite2 (fun e => ?_) (fun e => iteF ?_)⟩
      · refine ⟨.ref f, rfl, f, _, 1, .int i, rfl, rfl, SqL.of hf, rfl, .ref f, rfl, f, _, 0, .ref l, rfl, rfl, SqL.of hf, rfl, l, _, rfl, .inl (SqL.of hl), _, _, rfl, rfl, _, rfl, ite2 (fun e => ?_) (fun e => ?_)⟩
        · have hlt : i < ns.length := by
            have := of_decide_eq_true e
            rw [List.length_map] at this
            omega
          have g1 : (ns.map V.int)[i]? = some (.int ns[i]) := by
            rw [List.getElem?_map, List.getElem?_eq_getElem hlt]
            rfl
          generalize ns[i] = u at g1
          -- cell = feed[0][feed[1]]; feed[1] = feed[1] + 1
          refine ⟨.ref f, rfl, f, _, 0, .ref l, rfl, rfl, SqL.of hf, rfl, .ref f, rfl, f, _, 1, .int i, rfl, rfl, SqL.of hf, rfl, l, _, i, .int u, rfl, rfl, SqL.of hl, atI_nat g1, ?_⟩
          refine ⟨.ref f, rfl, f, _, 1, .int i, rfl, rfl, SqL.of hf, rfl, _, _, rfl, rfl, .ref f, rfl, f, _, 1, 1, rfl, rfl, hf, rfl, ?_⟩
          -- if cell >= 10 ** 18
          refine ⟨.int u, rfl, _, _, rfl, rfl, ⟨by decide, by decide, by decide⟩, _, _, rfl, rfl, _, rfl, ite2 (fun e => ?_) (fun e => ?_)⟩
          · have h0 : 0 ≤ u := Int.le_trans (by decide : (0 : Int) ≤ 10 ^ Int.toNat 18) (of_decide_eq_true e)
            refine ⟨.int u, rfl, .ref f, rfl, f, _, 2, 2, rfl, rfl, upd_same, rfl, ?_⟩
            exact ⟨_, i + 1, u, m, rfl, SameBut.upd (SameBut.upd (.refl _ _)), upd_same, hlt, h0, hm, hm2⟩
          · refine ⟨.ref f, rfl, f, _, 3, .int m, rfl, rfl, SqL.of upd_same, rfl, _, _, rfl, rfl, .inl ⟨by omega, by omega⟩, .int u, rfl, _, _, rfl, rfl, (by show (0 : Int) < 1000000007; decide), _, _, rfl, rfl, .inr ⟨by decide, by decide⟩, _, _, rfl, rfl, _, _, rfl, rfl, _, _, rfl, rfl, (by show (0 : Int) < 2147483647; decide), ?_⟩
            refine ⟨.ref f, rfl, f, _, 3, 3, rfl, rfl, upd_same, rfl, ?_⟩
            exact ⟨_, i + 1, n, _, rfl, SameBut.upd (SameBut.upd (.refl _ _)), upd_same, hlt, hn, Int.emod_nonneg _ (by decide), Int.emod_lt_of_pos _ (by decide)⟩
        · exact ⟨none, i, n, m, rfl, .refl _ _, hf, hi, hn, hm, hm2⟩
      · exact ⟨none, i, n, m, rfl, .refl _ _, hf, hi, hn, hm, hm2⟩
    · rintro σ H2 ⟨y, i, n, m, rfl, sb, hf, hi, hn, hm, hm2⟩
      have hl2 : H2 l = some (.lst (ns.map V.int)) := sb _ _ nlf hl
      -- if feed[2] > 0
      refine ⟨.ref f, rfl, f, _, 2, .int n, rfl, rfl, SqL.of hf, rfl, _, _, rfl, rfl, _, rfl, ite2 (fun e => ?_) (fun e => ?_)⟩
      · refine ⟨.ref f, rfl, f, _, 2, .int n, rfl, rfl, SqL.of hf, rfl, .int r, rfl, _, _, rfl, rfl, hr0, ?_⟩
        refine ⟨.ref f, rfl, f, _, 2, .int n, rfl, rfl, SqL.of hf, rfl, .int r, rfl, _, _, rfl, rfl, ⟨hr0, hr1⟩, .ref f, rfl, f, _, 2, 2, rfl, rfl, hf, rfl, ?_⟩
        refine ⟨_, rfl, q _ _ (Int.emod_nonneg _ (by omega)) (Int.emod_lt_of_pos _ hr0) sb.upd ⟨ns, i, _, m, c, nlf, upd_same, by rw [upd_ne nlf]; exact hl2, hi, Int.ediv_nonneg hn (by omega), hm, hm2⟩⟩
      · -- feed[4] = feed[4] + 1
        refine ⟨.ref f, rfl, f, _, 4, .int c, rfl, rfl, SqL.of hf, rfl, _, _, rfl, rfl, .ref f, rfl, f, _, 4, 4, rfl, rfl, hf, rfl, ?_⟩
        -- mix
        refine ⟨.ref f, rfl, f, _, 3, .int m, rfl, rfl, SqL.of upd_same, rfl, ?_⟩
        refine ⟨.int m, rfl, .int m, rfl, _, _, rfl, rfl, .inl ⟨by omega, by omega⟩, _, _, rfl, rfl, (by show (0 : Int) < 2147483587; decide), _, _, rfl, rfl, .inr ⟨by decide, by decide⟩, .int m, rfl, _, _, rfl, rfl, .inr ⟨by decide, by decide⟩, _, _, rfl, rfl, .ref f, rfl, f, _, 4, _, rfl, rfl, SqL.of upd_same, rfl, _, _, rfl, rfl, .inl ⟨by decide, by decide⟩, _, _, rfl, rfl, _, _, rfl, rfl, ?_⟩
        refine ⟨_, rfl, _, _, rfl, rfl, (by show (0 : Int) < 2147483647; decide), .ref f, rfl, f, _, 3, 3, rfl, rfl, upd_same, rfl, ?_⟩
        have a1 : ∀ z : Int, 0 ≤ z % 2147483647 := fun z => Int.emod_nonneg _ (by decide)
        have a2 : ∀ z : Int, z % 2147483647 < 2147483647 := fun z => Int.emod_lt_of_pos _ (by decide)
        refine ⟨.ref f, rfl, f, _, 3, _, rfl, rfl, SqL.of upd_same, rfl, _, _, rfl, rfl, ⟨by decide, by decide⟩, .ref f, rfl, f, _, 3, _, rfl, rfl, SqL.of upd_same, rfl, _, _, rfl, rfl, (by show (0 : Int) < 4093; decide), _, _, rfl, rfl, .inr ⟨by decide, by decide⟩, _, _, rfl, rfl, .int r, rfl, _, _, rfl, rfl, hr0, ?_⟩
        refine q _ _ (Int.emod_nonneg _ (by omega)) (Int.emod_lt_of_pos _ hr0) (SameBut.upd sb.upd) ⟨ns, i, n, _, _, nlf, upd_same, by rw [upd_ne nlf, upd_ne nlf]; exact hl2, hi, hn, a1 _, a2 _⟩
end
end Bw
set_option Elab.async false
set_option linter.all false
set_option maxRecDepth 100000
set_option maxHeartbeats 2000000
namespace Bw
open PySem PySem.Spec PyProof.Rows L2
section
variable {P : Program} {w : World} {K : PySem.W.Frag} {mg : Str → Option Value} {base : Heap}
/-! ### the feed made -/
abbrev s_law_feed : Stmt := topS 34
abbrev n_law_feed : List Str := ["_law_script"]
theorem sc_law_feed : FnScope n_law_feed ["_law_script"] (defScope s_law_feed) := ⟨rfl, rfl, rfl, by decide +kernel, rfl, by decide +kernel, by decide +kernel⟩
def spFeed (K : PySem.W.Frag) : Sp := fun vs H Q _ => ∃ (a : Addr) (ns : List Int), vs = [.ref a] ∧ SqL K H a (ns.map V.int) ∧ ∀ (f l : Addr) (H' : Hp), Same H H' → H f = none → FeedAt H' f l → Q (.ref f) H'
theorem ok_feed {f : Addr} {fd : FuncData} {k : Nat} (F : Fun K "_law_feed" "_law_feed" s_law_feed f fd) (T : Tx mg) : FnOk P w K mg base CX0 (k + 1) f fd ["_law_script"] (spFeed K) := by
  refine F.ok sc_law_feed (fun vs H Q E h => ?_) (fun cdv A outer s H vs Q E hr h => ?_)
  · obtain ⟨a, ns, rfl, _⟩ := h
    rfl
  · obtain ⟨a, ns, rfl, hS, q⟩ := h
    refine ⟨_, (pss_one (ps_ret (pe_lst (pa_cons (pe_callTy call_list_of (by rfl) T.list (by decide +kernel) (pa_cons (pe_slice sl_list (pv 0) po_none (po_some pe_int)) pa_nil)) (pa_cons pe_int (pa_cons pe_int (pa_cons pe_int (pa_cons pe_int pa_nil)))))))), ?_⟩
    refine ⟨.ref a, rfl, 63, rfl, a, _, rfl, hS, fun c nc => ?_⟩
    refine ⟨c, _, rfl, .inl (SqL.of upd_same), fun l nl => ?_⟩
    refine ⟨by show 5 ≤ sizeLine; decide, fun g ng => ?_⟩
    have s1 : Same H (upd H c (.lst (cutV (ns.map V.int) none (some 63)))) := same_upd nc
    have s2 := s1.trans (same_upd (o := .lst (cutV (ns.map V.int) none (some 63))) nl)
    have s3 := s2.trans (same_upd (o := .lst [.ref l, .int 0, .int 0, .int 9106, .int 0]) ng)
    have nlg : l ≠ g := fun e => by
      rw [← e, upd_same] at ng
      cases ng
    refine q g l _ s3 (s2.free ng) ⟨(ns.drop (HT.sIx (ns.map V.int).length 0 none)).take (HT.sIx (ns.map V.int).length (ns.map V.int).length (some 63) - HT.sIx (ns.map V.int).length 0 none), 0, 0, 9106, 0, nlg, upd_same, ?_, Nat.zero_le _, by decide, by decide, by decide⟩
    rw [upd_ne nlg, upd_same]
    unfold cutV
    rw [List.map_take, List.map_drop]
/-! ### one of a row -/
abbrev s_law_pick : Stmt := topS 36
abbrev n_law_pick : List Str := ["_law_feed_here", "_law_row"]
theorem sc_law_pick : FnScope n_law_pick ["_law_feed_here", "_law_row"] (defScope s_law_pick) := ⟨rfl, rfl, rfl, by decide +kernel, rfl, by decide +kernel, by decide +kernel⟩
def spPick : Sp := fun vs H Q _ => ∃ (f l a : Addr) (xs : List V), vs = [.ref f, .ref a] ∧ FeedAt H f l ∧ H a = some (.lst xs) ∧ a ≠ f ∧ 0 < xs.length ∧ xs.length < 1000 ∧ ∀ (v : V) (H' : Hp), v ∈ xs → SameBut f H H' → FeedAt H' f l → Q v H'
theorem ok_pick {f : Addr} {fd : FuncData} {k j : Nat} (F : Fun K "_law_pick" "_law_pick" s_law_pick f fd) (T : Tx mg) (c_law_draw : Cal P w K mg base CX0 k "_law_draw" ["_law_feed_here", "_law_many"] spDraw) : FnOk P w K mg base CX0 (k + 1) f fd ["_law_feed_here", "_law_row"] spPick := by
  refine F.ok sc_law_pick (fun vs H Q E h => ?_) (fun cdv A outer s H vs Q E hr h => ?_)
  · obtain ⟨f, l, a, xs, rfl, _⟩ := h
    rfl
  · obtain ⟨f, l, a, xs, rfl, hf, ha, naf, h0, h1, q⟩ := h
    refine ⟨_, (pss_one (ps_ret (pe_ix ix_list (pv 1) (pe_cal c_law_draw hr (by rfl) (pa_cons (pv 0) (pa_cons (pe_callB call_len_seq (by rfl) T.len PySem.boot_len (pa_cons (pv 1) pa_nil)) pa_nil))) (fun _ _ => rfl)))), ?_⟩
    refine ⟨.ref a, rfl, .ref f, rfl, .ref a, rfl, a, _, rfl, .inl (SqL.of ha), f, l, _, rfl, hf, by omega, by omega, fun v H' v0 v1 sb hf' => ?_⟩
    obtain ⟨n, rfl⟩ : ∃ n : Nat, v = (n : Int) := ⟨v.toNat, by omega⟩
    have hn : n < xs.length := by omega
    exact ⟨a, xs, _, xs[n], rfl, rfl, SqL.of (sb _ _ naf ha), atI_nat (List.getElem?_eq_getElem hn), q _ _ (List.getElem_mem hn) sb hf'⟩
/-! ### the greatest that goes into both -/
abbrev s_law_gcd : Stmt := topS 39
abbrev n_law_gcd : List Str := ["_law_one", "_law_other"]
theorem sc_law_gcd : FnScope n_law_gcd ["_law_one", "_law_other"] (defScope s_law_gcd) := ⟨rfl, rfl, rfl, by decide +kernel, rfl, by decide +kernel, by decide +kernel⟩
def spGcd : Sp := fun vs H Q _ => ∃ (a b : Nat), vs = [.int a, .int b] ∧ Q (.int (Nat.gcd a b)) H
theorem ok_gcd {f : Addr} {fd : FuncData} {k : Nat} (F : Fun K "_law_gcd" "_law_gcd" s_law_gcd f fd) (T : Tx mg) : FnOk P w K mg base CX0 (k + 1) f fd ["_law_one", "_law_other"] spGcd := by
  refine F.ok sc_law_gcd (fun vs H Q E h => ?_) (fun cdv A outer s H vs Q E hr h => ?_)
  · obtain ⟨a, b, rfl, _⟩ := h
    rfl
  · obtain ⟨a, b, rfl, q⟩ := h
    refine ⟨_, (pss_cons (ps_while PassesOwn.never (pt_truth (pv 1) (by intro _; rfl))
      (pss_one (ps_par (i := 0) (j := 1) (by rfl) sc_law_gcd.nd rfl rfl (by decide) rfl rfl (pa_cons (pv 1) (pa_cons (pe_op op_mod (pv 0) (pv 1)) pa_nil)) (by rfl))))
      (pss_one (ps_ret (pe_callB call_abs (by rfl) T.abs (by decide +kernel) (pa_cons (pv 0) pa_nil))))), ?_⟩
    refine while_by (fun σ H' => ∃ x y : Nat, σ = [some (.int x), some (.int y)] ∧ Nat.gcd x y = Nat.gcd a b ∧ H' = H) (fun σ _ => match σ with | [_, some (.int y)] => y.toNat | _ => 0) ⟨a, b, rfl, rfl, rfl⟩ ?_ ?_
    · rintro σ H' ⟨x, y, rfl, hg, rfl⟩
      refine ⟨.int y, rfl, ((y : Int) != 0), rfl, ?_⟩
      by_cases hy : y = 0
      · subst hy
        refine iteF ⟨_, rfl, _, rfl, ?_⟩
        rw [if_neg (by omega)]
        rw [Nat.gcd_zero_right] at hg
        rw [hg]
        exact q
      · have e : ((y : Int) != 0) = true := by simp [hy]
        rw [e]
        refine iteT ⟨_, rfl, _, rfl, _, rfl, _, _, rfl, rfl, (by show (0 : Int) < (y : Int); omega), _, _, rfl, ?_, ?_⟩
        · refine ⟨y, x % y, rfl, ?_, rfl⟩
          rw [← hg, Nat.gcd_comm y (x % y), ← Nat.gcd_rec y x, Nat.gcd_comm]
        · show ((x : Int) % (y : Int)).toNat < ((y : Int)).toNat
          have h1 := Int.emod_lt_of_pos (x : Int) (show (0 : Int) < (y : Int) by omega)
          have h2 := Int.emod_nonneg (x : Int) (show (y : Int) ≠ 0 by omega)
          omega
    · rintro σ H' Q1 Q2 hq ⟨v, e, k, t, q1⟩
      exact ⟨v, e, k, t, hq _ _ q1⟩
end
end Bw
set_option Elab.async false
set_option linter.all false
set_option maxRecDepth 100000
set_option maxHeartbeats 1000000
namespace Bw
open PySem PySem.Spec PyProof.Rows L2
/-! ### tables, as lists of rows -/
def ent (rows : List (List Int)) (i j : Nat) : Int := (rows.getD i []).getD j 0
structure TabOk (rows : List (List Int)) (n : Nat) : Prop where
  n1 : 1 ≤ n
  n4 : n ≤ 4
  len : n ≤ rows.length
  len4 : rows.length ≤ n + 4
  wide : ∀ r ∈ rows, r.length = n
  tie : ∀ r ∈ rows, ∀ t ∈ r, -50 ≤ t ∧ t ≤ 50
  even : ∃ d : Nat → Int, (∀ i, i < n → 0 < d i) ∧ ∀ i j, i < n → j < n → d i * ent rows i j = -(d j * ent rows j i)
def matRow (n : Nat) (b : Nat → Int) : List Int := (List.range n).map b
def matRows (n : Nat) (B : Nat → Nat → Int) : List (List Int) := (List.range n).map fun i => matRow n (B i)
theorem matRow_len (n : Nat) (b : Nat → Int) : (matRow n b).length = n := by simp [matRow]
theorem matRows_len (n : Nat) (B : Nat → Nat → Int) : (matRows n B).length = n := by simp [matRows]
theorem matRow_get {n : Nat} {b : Nat → Int} {j : Nat} (h : j < n) : (matRow n b)[j]? = some (b j) := by simp [matRow, h]
theorem matRows_get {n : Nat} {B : Nat → Nat → Int} {i : Nat} (h : i < n) : (matRows n B)[i]? = some (matRow n (B i)) := by simp [matRows, h]
theorem matRow_getD {n : Nat} {b : Nat → Int} {j : Nat} (h : j < n) : (matRow n b).getD j 0 = b j := by simp [matRow, h]
theorem matRow_set {n : Nat} {b : Nat → Int} {j : Nat} {v : Int} : (matRow n b).set j v = matRow n (fun k => if k = j then v else b k) := by
  apply List.ext_getElem?
  intro k
  rw [List.getElem?_set]
  by_cases hk : k < n
  · rw [matRow_get hk, matRow_get hk]
    by_cases e : j = k
    · subst e
      simp [matRow_len, hk]
    · rw [if_neg e, if_neg (fun z => e z.symm)]
  · have h1 : (matRow n b)[k]? = none := List.getElem?_eq_none (by rw [matRow_len]; omega)
    have h2 : (matRow n fun k => if k = j then v else b k)[k]? = none := List.getElem?_eq_none (by rw [matRow_len]; omega)
    rw [h1, h2, matRow_len]
    split
    · rw [if_neg (by omega)]
    · rfl
theorem rep_flat (n : Nat) : (List.replicate n [V.int 0]).flatten = (matRow n fun _ => 0).map V.int := by
  apply List.ext_getElem?
  intro k
  have e : (matRow n fun _ => (0 : Int)) = List.replicate n 0 := by
    unfold matRow
    rw [List.map_const', List.length_range]
  rw [e, List.map_replicate, List.flatten_replicate_singleton]
end Bw
set_option Elab.async false
set_option linter.all false
set_option maxRecDepth 100000
set_option maxHeartbeats 2000000
namespace Bw
open PySem PySem.Spec PyProof.Rows L2
/-! ### lists of rows that may still be written -/
def RowsAt (H : Hp) (as : List Addr) (n : Nat) (B : Nat → Nat → Int) : Prop := as.length = n ∧ as.Nodup ∧ ∀ i b, as[i]? = some b → H b = some (.lst ((matRow n (B i)).map V.int))
def TabAt (H : Hp) (a : Addr) (rows : List (List Int)) : Prop := ∃ as : List Addr, H a = some (.tup (as.map V.ref)) ∧ as.length = rows.length ∧ ∀ (i : Nat) (r : List Int), rows[i]? = some r → ∃ b, as[i]? = some b ∧ H b = some (.tup (r.map V.int))
theorem TabAt.same {H H' : Hp} {a : Addr} {rows : List (List Int)} (s : Same H H') (h : TabAt H a rows) : TabAt H' a rows := by
  obtain ⟨as, h1, h2, h3⟩ := h
  exact ⟨as, s _ _ h1, h2, fun i r e => by
    obtain ⟨b, e1, e2⟩ := h3 i r e
    exact ⟨b, e1, s _ _ e2⟩⟩
theorem TabAt.but {H H' : Hp} {f l a : Addr} {rows : List (List Int)} (s : SameBut f H H') (hf : FeedAt H f l) (h : TabAt H a rows) : TabAt H' a rows := by
  obtain ⟨as, h1, h2, h3⟩ := h
  exact ⟨as, s _ _ (hf.tup h1) h1, h2, fun i r e => by
    obtain ⟨b, e1, e2⟩ := h3 i r e
    exact ⟨b, e1, s _ _ (hf.tup e2) e2⟩⟩
def put2 (B : Nat → Nat → Int) (i j : Nat) (v : Int) : Nat → Nat → Int := fun a b => if a = i ∧ b = j then v else B a b
theorem RowsAt.put {H : Hp} {as : List Addr} {n : Nat} {B : Nat → Nat → Int} (h : RowsAt H as n B) {i j : Nat} {b : Addr} (hb : as[i]? = some b) (v : Int) :
    RowsAt (upd H b (.lst (((matRow n (B i)).map V.int).set j (V.int v)))) as n (put2 B i j v) := by
  obtain ⟨h1, h2, h3⟩ := h
  refine ⟨h1, h2, fun k c e => ?_⟩
  by_cases hk : k = i
  · subst hk
    have : c = b := Option.some.inj (e.symm.trans hb)
    subst this
    rw [upd_same, ← List.map_set, matRow_set]
    have z : (fun k_1 => if k_1 = j then v else B k k_1) = put2 B k j v k := by
      funext y
      unfold put2
      by_cases hy : y = j
      · rw [if_pos hy, if_pos ⟨rfl, hy⟩]
      · rw [if_neg hy, if_neg (fun z => hy z.2)]
    rw [z]
  · have ne : c ≠ b := fun z => by
      subst z
      exact hk (nd_ix h2 e hb)
    rw [upd_ne ne, h3 k c e]
    have z : put2 B i j v k = B k := by
      funext y
      unfold put2
      rw [if_neg (fun z => hk z.1)]
    rw [z]
def loadAt (ls : List Int) (i : Nat) : Int := ls.getD i 1
structure Good (n : Nat) (r : Int) (ls : List Int) (B : Nat → Nat → Int) : Prop where
  len : ls.length = n
  load : ∀ x ∈ ls, 1 ≤ x ∧ x ≤ 4
  ev : ∀ i j, i < n → j < n → loadAt ls i * B i j = -(loadAt ls j * B j i)
  bd : ∀ i j, -(4 * r) ≤ B i j ∧ B i j ≤ 4 * r
theorem Good.zero {n : Nat} {r : Int} {ls : List Int} (h1 : ls.length = n) (h2 : ∀ x ∈ ls, 1 ≤ x ∧ x ≤ 4) (h3 : 0 ≤ r) : Good n r ls fun _ _ => 0 :=
  ⟨h1, h2, fun i j _ _ => by rw [Int.mul_zero, Int.mul_zero]; rfl, fun _ _ => ⟨by omega, by omega⟩⟩
theorem loadAt_get {ls : List Int} {i : Nat} {x : Int} (h : ls[i]? = some x) : loadAt ls i = x := by
  unfold loadAt
  rw [List.getD_eq_getElem?_getD, h]
  rfl
theorem mul_bd {t x r : Int} (h1 : -r ≤ t) (h2 : t ≤ r) (h3 : 0 ≤ x) (h4 : x ≤ 4) : -(4 * r) ≤ t * x ∧ t * x ≤ 4 * r := by
  have h0 : 0 ≤ r := by omega
  have a1 : t * x ≤ r * x := Int.mul_le_mul_of_nonneg_right h2 h3
  have a2 : r * x ≤ r * 4 := Int.mul_le_mul_of_nonneg_left h4 h0
  have a3 : -r * x ≤ t * x := Int.mul_le_mul_of_nonneg_right h1 h3
  have a4 : -r * x = -(r * x) := Int.neg_mul ..
  omega
theorem Good.put {n : Nat} {r : Int} {ls : List Int} {B : Nat → Nat → Int} (g : Good n r ls B) {i j : Nat} {x y t : Int} {c : Nat} (hij : i < j) (hi : ls[i]? = some x) (hj : ls[j]? = some y) (hc : 0 < c) (cx : (c : Int) ∣ x) (cy : (c : Int) ∣ y) (h1 : -r ≤ t) (h2 : t ≤ r) :
    Good n r ls (put2 (put2 B i j (t * (y / c))) j i (0 - t * (x / c))) := by
  have hx := g.load x (List.mem_of_getElem? hi)
  have hy := g.load y (List.mem_of_getElem? hj)
  obtain ⟨x', rfl⟩ := cx
  obtain ⟨y', rfl⟩ := cy
  have c0 : (c : Int) ≠ 0 := by omega
  have ex : (c : Int) * x' / c = x' := Int.mul_ediv_cancel_left _ c0
  have ey : (c : Int) * y' / c = y' := Int.mul_ediv_cancel_left _ c0
  rw [ex, ey]
  have x0 : 0 ≤ x' := by
    rcases Int.lt_or_le x' 0 with h | h
    · have := Int.mul_neg_of_pos_of_neg (show (0 : Int) < c by omega) h
      omega
    · exact h
  have y0 : 0 ≤ y' := by
    rcases Int.lt_or_le y' 0 with h | h
    · have := Int.mul_neg_of_pos_of_neg (show (0 : Int) < c by omega) h
      omega
    · exact h
  have x4 : x' ≤ 4 := by
    have : 1 * x' ≤ c * x' := Int.mul_le_mul_of_nonneg_right (by omega) x0
    omega
  have y4 : y' ≤ 4 := by
    have : 1 * y' ≤ c * y' := Int.mul_le_mul_of_nonneg_right (by omega) y0
    omega
  have b1 := mul_bd h1 h2 y0 y4
  have b2 := mul_bd h1 h2 x0 x4
  have key : (c : Int) * x' * (t * y') = -(c * y' * (0 - t * x')) := by
    rw [Int.zero_sub, Int.mul_neg, Int.neg_neg]
    rw [Int.mul_assoc, Int.mul_assoc, Int.mul_left_comm x' t y', Int.mul_left_comm y' t x', Int.mul_comm x' y']
  refine ⟨g.len, g.load, fun a b ha hb => ?_, fun a b => ?_⟩
  · unfold put2
    by_cases e1 : a = j ∧ b = i
    · obtain ⟨rfl, rfl⟩ := e1
      rw [if_pos ⟨rfl, rfl⟩, if_neg (fun z => by omega), if_pos ⟨rfl, rfl⟩, loadAt_get hi, loadAt_get hj]
      omega
    · rw [if_neg e1]
      by_cases e2 : a = i ∧ b = j
      · obtain ⟨rfl, rfl⟩ := e2
        rw [if_pos ⟨rfl, rfl⟩, if_pos ⟨rfl, rfl⟩, loadAt_get hi, loadAt_get hj]
        exact key
      · rw [if_neg e2, if_neg (fun z => e2 ⟨z.2, z.1⟩), if_neg (fun z => e1 ⟨z.2, z.1⟩)]
        exact g.ev a b ha hb
  · unfold put2
    by_cases e1 : a = j ∧ b = i
    · rw [if_pos e1]
      omega
    · rw [if_neg e1]
      by_cases e2 : a = i ∧ b = j
      · rw [if_pos e2]
        omega
      · rw [if_neg e2]
        exact g.bd a b
end Bw
set_option Elab.async false
set_option linter.all false
set_option maxRecDepth 100000
set_option maxHeartbeats 4000000
namespace Bw
open PySem PySem.Spec PyProof.Rows L2
section
variable {P : Program} {w : World} {K : PySem.W.Frag} {mg : Str → Option Value} {base : Heap}
abbrev s_law_even : Stmt := topS 40
abbrev n_law_even : List Str := ["_law_feed_here", "_law_many", "_law_reach", "_law_heavy", "_law_load", "_law_rows", "_law_i", "_law_j", "_law_tie", "_law_by", "_law_k", "_law_row"]
theorem sc_law_even : FnScope n_law_even ["_law_feed_here", "_law_many", "_law_reach"] (defScope s_law_even) := ⟨rfl, rfl, rfl, by decide +kernel, rfl, by decide +kernel, by decide +kernel⟩
def spEven : Sp := fun vs H Q _ => ∃ (f l : Addr) (n : Nat) (r : Int), vs = [.ref f, .int n, .int r] ∧ FeedAt H f l ∧ n ≤ 4 ∧ 1 ≤ r ∧ r ≤ 12 ∧
  ∀ (a : Addr) (ls : List Int) (B : Nat → Nat → Int) (H' : Hp), SameBut f H H' → FeedAt H' f l → TabAt H' a (matRows n B) → Good n r ls B → Q (.ref a) H'
theorem ok_even {f : Addr} {fd : FuncData} {k : Nat} (F : Fun K "_law_even" "_law_even" s_law_even f fd) (T : Tx mg) (c_law_draw : Cal P w K mg base CX0 1 "_law_draw" ["_law_feed_here", "_law_many"] spDraw)
    (c_law_pick : Cal P w K mg base CX0 2 "_law_pick" ["_law_feed_here", "_law_row"] spPick) (c_law_gcd : Cal P w K mg base CX0 1 "_law_gcd" ["_law_one", "_law_other"] spGcd) : FnOk P w K mg base CX0 3 f fd ["_law_feed_here", "_law_many", "_law_reach"] spEven := by
  refine F.ok sc_law_even (fun vs H Q E h => ?_) (fun cdv A outer s H vs Q E hr h => ?_)
  · obtain ⟨f, l, n, r, rfl, _⟩ := h
    rfl
  · obtain ⟨f, l, n, r, rfl, hf, n4, r1, r12, q⟩ := h
    have hr1 := hr.mono (show 1 ≤ 2 by decide)
    refine ⟨_, (pss_cons (ps_set (i := 3) sc_law_even.nd rfl (.inr rfl) (pe_cal c_law_pick hr (by rfl) (pa_cons (pv 0) (pa_cons (pe_lst (pa_cons (pe_lst (pa_cons pe_int pa_nil)) (pa_cons (pe_lst (pa_cons pe_int pa_nil)) (pa_cons (pe_lst (pa_cons pe_int (pa_cons pe_int pa_nil))) (pa_cons (pe_lst (pa_cons pe_int (pa_cons pe_int pa_nil))) (pa_cons (pe_lst (pa_cons pe_int (pa_cons pe_int (pa_cons pe_int pa_nil)))) pa_nil)))))) pa_nil))))
  (pss_cons (ps_setLc (i := 4) (own := [("_law_k", 10)]) (by rfl) sc_law_even.nd rfl rfl (sw_true rfl rfl rfl (by decide +kernel)) (pi_range1 (by rfl) T.range (pa_cons (pv 1) pa_nil)) (blkOk_by (own := [("_law_k", 10)]) (N := n_law_even) (sc := defScope s_law_even) (by decide +kernel)) (fun _ _ _ _ _ => (pg_name (i := 10) sc_law_even.nd rfl (.inl rfl))) (fun _ _ _ _ _ => pts_nil) (fun _ _ _ _ _ => (pe_cal c_law_pick hr (by rfl) (pa_cons (pv 0) (pa_cons (pv 3) pa_nil)))))
  (pss_cons (ps_setLc (i := 5) (own := [("_law_k", 10)]) (by rfl) sc_law_even.nd rfl rfl (sw_true rfl rfl rfl (by decide +kernel)) (pi_range1 (by rfl) T.range (pa_cons (pv 1) pa_nil)) (blkOk_by (own := [("_law_k", 10)]) (N := n_law_even) (sc := defScope s_law_even) (by decide +kernel)) (fun _ _ _ _ _ => (pg_name (i := 10) sc_law_even.nd rfl (.inl rfl))) (fun _ _ _ _ _ => pts_nil) (fun _ _ _ _ _ => (pe_op op_rep (pe_lst (pa_cons pe_int pa_nil)) (pv 1))))
  (pss_cons (ps_for PassesOwn.never rfl (pi_range1 (by rfl) T.range (pa_cons (pv 1) pa_nil)) (pg_name (i := 6) sc_law_even.nd rfl (.inl rfl))
    (pss_one (ps_for PassesOwn.never rfl (pi_range2 (by rfl) T.range (pa_cons (pe_op op_add (pv 6) pe_int) (pa_cons (pv 1) pa_nil))) (pg_name (i := 7) sc_law_even.nd rfl (.inl rfl))
      (pss_cons (ps_set (i := 8) sc_law_even.nd rfl (.inl rfl) (pe_cal c_law_pick hr (by rfl) (pa_cons (pv 0) (pa_cons (pe_lst (pa_cons pe_int (pa_cons pe_int (pa_cons (pe_un un_neg pe_int) (pa_cons pe_int (pa_cons (pe_op op_sub (pe_cal c_law_draw hr1 (by rfl) (pa_cons (pv 0) (pa_cons (pe_op op_add (pe_op op_mul pe_int (pv 2)) pe_int) pa_nil))) (pv 2)) pa_nil)))))) pa_nil))))
      (pss_cons (ps_set (i := 9) sc_law_even.nd rfl (.inl rfl) (pe_cal c_law_gcd hr1 (by rfl) (pa_cons (pe_ix ix_list (pv 4) (pv 6) (fun _ _ => rfl)) (pa_cons (pe_ix ix_list (pv 4) (pv 7) (fun _ _ => rfl)) pa_nil))))
      (pss_cons (ps_asg (pe_op op_mul (pv 8) (pe_op op_fdiv (pe_ix ix_list (pv 4) (pv 7) (fun _ _ => rfl)) (pv 9))) (pg_sub (pe_ix ix_list (pv 5) (pv 6) (fun _ _ => rfl)) (pv 7) set_list))
      (pss_one (ps_asg (pe_op op_sub pe_int (pe_op op_mul (pv 8) (pe_op op_fdiv (pe_ix ix_list (pv 4) (pv 6) (fun _ _ => rfl)) (pv 9)))) (pg_sub (pe_ix ix_list (pv 5) (pv 7) (fun _ _ => rfl)) (pv 6) set_list)))))))))
  (pss_one (ps_ret (pe_callTy (c_tup (K := K)) (by rfl) T.tuple (by decide +kernel) (pa_cons (pe_lc (own := [("_law_row", 11)]) (by rfl) sc_law_even.nd (pi_list (pv 5)) (blkOk_by (own := [("_law_row", 11)]) (N := n_law_even) (sc := defScope s_law_even) (by decide +kernel)) (fun _ _ _ _ _ => (pg_name (i := 11) sc_law_even.nd rfl (.inl rfl))) (fun _ _ _ _ _ => pts_nil) (fun _ _ _ _ _ => (pe_callTy (c_tup (K := K)) (by rfl) T.tuple (by decide +kernel) (pa_cons (pv 11) pa_nil)))) pa_nil)))))))), ?_⟩
    -- heavy = pick(feed, [..])
    refine ⟨.ref f, rfl, by show 1 ≤ sizeLine; decide, fun p1 e1 => ⟨by show 1 ≤ sizeLine; decide, fun p2 e2 => ⟨by show 2 ≤ sizeLine; decide, fun p3 e3 => ⟨by show 2 ≤ sizeLine; decide, fun p4 e4 => ⟨by show 3 ≤ sizeLine; decide, fun p5 e5 => ⟨by show 5 ≤ sizeLine; decide, fun o eo => ?_⟩⟩⟩⟩⟩⟩
    have s1 := same_upd (o := .lst [.int 1]) e1
    have s2 := same_upd (o := .lst [.int 1]) e2
    have s3 := same_upd (o := .lst [.int 1, .int 2]) e3
    have s4 := same_upd (o := .lst [.int 1, .int 3]) e4
    have s5 := same_upd (o := .lst [.int 1, .int 2, .int 4]) e5
    have s6 := same_upd (o := .lst [.ref p1, .ref p2, .ref p3, .ref p4, .ref p5]) eo
    have t5 := s5.trans s6
    have t4 := s4.trans t5
    have t3 := s3.trans t4
    have t2 := s2.trans t3
    have t1 := s1.trans t2
    have o0 : H o = none := s1.free (s2.free (s3.free (s4.free (s5.free eo))))
    refine ⟨f, l, o, _, rfl, hf.same t1, upd_same, hf.ne o0, by show 0 < 5; decide, by show 5 < 1000; decide, fun v H1 hv sb1 hf1 => ?_⟩
    have hv : ∃ (h : Addr) (hs : List Int), v = .ref h ∧ H h = none ∧ H1 h = some (.lst (hs.map V.int)) ∧ 0 < hs.length ∧ hs.length < 1000 ∧ ∀ x ∈ hs, 1 ≤ x ∧ x ≤ 4 := by
      simp only [List.mem_cons, List.not_mem_nil, or_false] at hv
      have p20 : H p2 = none := s1.free e2
      have p30 : H p3 = none := s1.free (s2.free e3)
      have p40 : H p4 = none := s1.free (s2.free (s3.free e4))
      have p50 : H p5 = none := s1.free (s2.free (s3.free (s4.free e5)))
      rcases hv with rfl | rfl | rfl | rfl | rfl
      · exact ⟨p1, [1], rfl, e1, sb1 _ _ (hf.ne e1) (t2 _ _ upd_same), by decide, by decide, by decide⟩
      · exact ⟨p2, [1], rfl, p20, sb1 _ _ (hf.ne p20) (t3 _ _ upd_same), by decide, by decide, by decide⟩
      · exact ⟨p3, [1, 2], rfl, p30, sb1 _ _ (hf.ne p30) (t4 _ _ upd_same), by decide, by decide, by decide⟩
      · exact ⟨p4, [1, 3], rfl, p40, sb1 _ _ (hf.ne p40) (t5 _ _ upd_same), by decide, by decide, by decide⟩
      · exact ⟨p5, [1, 2, 4], rfl, p50, sb1 _ _ (hf.ne p50) (s6 _ _ upd_same), by decide, by decide, by decide⟩
    obtain ⟨h, hs, rfl, h0, hh, hs0, hs1, hs4⟩ := hv
    have sb1 : SameBut f H H1 := (t1.but).trans sb1
    clear hv s1 s2 s3 s4 s5 s6 t1 t2 t3 t4 t5 eo e5 e4 e3 e2 e1
    -- load = [pick(feed, heavy) for k in range(many)]
    refine ⟨.int n, rfl, n, rfl, by omega, by omega, fun L eL => ?_⟩
    have L0 : H L = none := by
      by_cases z : L = f
      · subst z
        exact absurd rfl (hf1.ne eL)
      · cases y : H L with
        | none => rfl
        | some u =>
          rw [sb1 _ _ z y] at eL
          cases eL
    have nLf : L ≠ f := hf1.ne eL
    have nhL : h ≠ L := ne_of_none hh eL
    refine lc_range (fun i H' => ∃ ls : List Int, ls.length = i ∧ (∀ x ∈ ls, 1 ≤ x ∧ x ≤ 4) ∧ H' L = some (.lst (ls.map V.int)) ∧ SameBut f H H' ∧ FeedAt H' f l ∧ H' h = some (.lst (hs.map V.int))) ⟨[], rfl, by simp, upd_same, sb1.updN L0, hf1.put nLf (hf1.ne2 eL), by rw [upd_ne nhL]; exact hh⟩ ?_ ?_
    · rintro i H2 hi ⟨ls, el, hls, eL2, sb2, hf2, hh2⟩
      refine ⟨rfl, ?_⟩
      refine ⟨.ref f, rfl, .ref h, rfl, f, l, h, _, rfl, hf2, hh2, hf.ne h0, by rw [List.length_map]; omega, by rw [List.length_map]; omega, fun v H3 hv sb3 hf3 => ?_⟩
      obtain ⟨x, hx, rfl⟩ := List.mem_map.mp hv
      refine ⟨ls.map V.int, sb3 _ _ nLf eL2, by rw [List.length_map]; exact small1000 (by omega), ls ++ [x], by rw [List.length_append, el]; rfl, ?_, ?_, (sb2.trans sb3).updN L0, hf3.put nLf (hf.ne2 L0), ?_⟩
      · intro y hy
        rcases List.mem_append.mp hy with hy | hy
        · exact hls y hy
        · rw [List.mem_singleton.mp hy]
          exact hs4 x hx
      · rw [upd_same, List.map_append]
        rfl
      · rw [upd_ne nhL]
        exact sb3 _ _ (hf.ne h0) hh2
    · rintro H2 ⟨ls, el, hls, eL2, sb2, hf2, hh2⟩
      -- rows = [[0] * many for k in range(many)]
      refine ⟨.int n, rfl, n, rfl, by omega, by omega, fun R eR => ?_⟩
      have R0 : H R = none := by
        by_cases z : R = f
        · subst z
          exact absurd rfl (hf2.ne eR)
        · cases y : H R with
          | none => rfl
          | some u =>
            rw [sb2 _ _ z y] at eR
            cases eR
      have nRf : R ≠ f := hf2.ne eR
      have nRL : R ≠ L := Ne.symm (ne_of_none eL2 eR)
      refine lc_range (fun i H' => ∃ as : List Addr, as.length = i ∧ as.Nodup ∧ (∀ b ∈ as, H b = none ∧ b ≠ L ∧ b ≠ R ∧ H' b = some (.lst ((matRow n fun _ => 0).map V.int))) ∧ H' R = some (.lst (as.map V.ref)) ∧ SameBut f H H' ∧ FeedAt H' f l ∧ H' L = some (.lst (ls.map V.int))) ⟨[], rfl, List.nodup_nil, by simp, upd_same, sb2.updN R0, hf2.put nRf (hf2.ne2 eR), by rw [upd_ne nRL.symm]; exact eL2⟩ ?_ ?_
      · rintro i H3 hi ⟨as, ea, nd, has, eR3, sb3, hf3, eL3⟩
        refine ⟨rfl, ?_⟩
        refine ⟨by show 1 ≤ sizeLine; decide, fun z ez => ⟨.int n, rfl, z, n, _, rfl, rfl, upd_same, by omega, by omega, ?_, fun b eb => ?_⟩⟩
        · show 1 * ((n : Int)).toNat ≤ sizeLine
          exact Nat.le_of_lt (small1000 (by omega))
        · have sz := same_upd (o := .lst [.int 0]) ez
          have sb := same_upd (o := .lst (List.replicate ((n : Int)).toNat [V.int 0]).flatten) eb
          have b3 : H3 b = none := sz.free eb
          have b0 : H b = none := by
            by_cases z : b = f
            · subst z
              exact absurd rfl (hf3.ne b3)
            · cases y : H b with
              | none => rfl
              | some u =>
                rw [sb3 _ _ z y] at b3
                cases b3
          have nbR : b ≠ R := Ne.symm (ne_of_none eR3 b3)
          have nbL : b ≠ L := Ne.symm (ne_of_none eL3 b3)
          refine ⟨as.map V.ref, sb _ _ (sz _ _ eR3), by rw [List.length_map]; exact small1000 (by omega), as ++ [b], by rw [List.length_append, ea]; rfl, ?_, ?_, ?_, ((sb3.trans (sz.trans sb).but).updN R0), (hf3.same (sz.trans sb)).put nRf (hf.ne2 R0), ?_⟩
          · refine List.nodup_append.mpr ⟨nd, by simp, ?_⟩
            intro u hu v hv e
            rw [List.mem_singleton.mp hv] at e
            subst e
            have := (has _ hu).2.2.2
            rw [b3] at this
            cases this
          · intro u hu
            rcases List.mem_append.mp hu with hu | hu
            · obtain ⟨u0, u1, u2, u3⟩ := has u hu
              exact ⟨u0, u1, u2, by rw [upd_ne u2]; exact sb _ _ (sz _ _ u3)⟩
            · rw [List.mem_singleton.mp hu]
              refine ⟨b0, nbL, nbR, ?_⟩
              rw [upd_ne nbR, upd_same, Int.toNat_natCast, rep_flat]
          · rw [upd_same, List.map_append]
            rfl
          · rw [upd_ne nRL.symm]
            exact sb _ _ (sz _ _ eL3)
      · rintro H3 ⟨as, ea, nd, has, eR3, sb3, hf3, eL3⟩
        have rw0 : RowsAt H3 as n fun _ _ => 0 := ⟨ea, nd, fun i b e => (has b (List.mem_of_getElem? e)).2.2.2⟩
        have hb0 : ∀ b ∈ as, H b = none ∧ b ≠ L ∧ b ≠ R := fun b hb => ⟨(has b hb).1, (has b hb).2.1, (has b hb).2.2.1⟩
        have g0 : Good n r ls fun _ _ => 0 := Good.zero el hls (by omega)
        clear has
        -- the loops
        refine ⟨.int n, rfl, n, rfl, by omega, by omega, for_range (fun i σ H' => ∃ (y6 y7 y8 y9 : Option V) (B : Nat → Nat → Int), σ = [some (.ref f), some (.int n), some (.int r), some (.ref h), some (.ref L), some (.ref R), y6, y7, y8, y9, none, none] ∧ SameBut f H H' ∧ FeedAt H' f l ∧ H' L = some (.lst (ls.map V.int)) ∧ H' R = some (.lst (as.map V.ref)) ∧ RowsAt H' as n B ∧ Good n r ls B)
          ⟨none, none, none, none, _, rfl, sb3, hf3, eL3, eR3, rw0, g0⟩ ?_ ?_⟩
        · rintro i σ H4 hi ⟨y6, y7, y8, y9, B, rfl, sb4, hf4, eL4, eR4, rw4, g4⟩
          have hi : i < n := hi
          refine ⟨_, rfl, _, _, rfl, rfl, _, rfl, _, n, rfl, ⟨by omega, by omega, by omega, by omega⟩, for_range (fun j σ H' => ∃ (y7 y8 y9 : Option V) (B : Nat → Nat → Int), σ = [some (.ref f), some (.int n), some (.int r), some (.ref h), some (.ref L), some (.ref R), some (.int (0 + (i : Int))), y7, y8, y9, none, none] ∧ SameBut f H H' ∧ FeedAt H' f l ∧ H' L = some (.lst (ls.map V.int)) ∧ H' R = some (.lst (as.map V.ref)) ∧ RowsAt H' as n B ∧ Good n r ls B)
            ⟨y7, y8, y9, B, rfl, sb4, hf4, eL4, eR4, rw4, g4⟩ ?_ ?_⟩
          · rintro j σ H5 hj ⟨y7, y8, y9, B, rfl, sb5, hf5, eL5, eR5, rw5, g5⟩
            obtain ⟨J, hJ⟩ : ∃ J : Nat, (0 + (i : Int)) + 1 + (j : Int) = (J : Int) := ⟨i + 1 + j, by omega⟩
            rw [hJ]
            have hij : i < J := by omega
            have hJn : J < n := by omega
            have e0 : (0 : Int) + (i : Int) = (i : Int) := by omega
            rw [e0]
            -- tie = pick(feed, [0, 1, -1, 1, draw(2 * reach + 1) - reach])
            refine ⟨.ref f, rfl, 1, rfl, .ref f, rfl, .int r, rfl, _, _, rfl, rfl, .inl ⟨by decide, by decide⟩, _, _, rfl, rfl, f, l, _, rfl, hf5, by omega, by omega, fun u H6 u0 u1 sb6 hf6 => ?_⟩
            refine ⟨.int r, rfl, _, _, rfl, rfl, by show 5 ≤ sizeLine; decide, fun o eo => ?_⟩
            have so := same_upd (o := .lst [.int 0, .int 1, .int (-1), .int 1, .int (u - r)]) eo
            have nof : o ≠ f := hf6.ne eo
            refine ⟨f, l, o, _, rfl, hf6.same so, upd_same, nof, by show 0 < 5; decide, by show 5 < 1000; decide, fun v H7 hv sb7 hf7 => ?_⟩
            obtain ⟨t, rfl, t1, t2⟩ : ∃ t : Int, v = .int t ∧ -r ≤ t ∧ t ≤ r := by
              simp only [List.mem_cons, List.not_mem_nil, or_false] at hv
              rcases hv with rfl | rfl | rfl | rfl | rfl
              · exact ⟨0, rfl, by omega, by omega⟩
              · exact ⟨1, rfl, by omega, by omega⟩
              · exact ⟨-1, rfl, by omega, by omega⟩
              · exact ⟨1, rfl, by omega, by omega⟩
              · exact ⟨u - r, rfl, by omega, by omega⟩
            have sb57 : SameBut f H5 H7 := (sb6.trans so.but).trans sb7
            have eL7 := sb57 _ _ nLf eL5
            have eR7 := sb57 _ _ nRf eR5
            have rw7 : RowsAt H7 as n B := ⟨rw5.1, rw5.2.1, fun k b e => sb57 _ _ (hf.ne (hb0 b (List.mem_of_getElem? e)).1) (rw5.2.2 k b e)⟩
            have sb7 : SameBut f H H7 := sb5.trans sb57
            clear sb57 so eo nof sb6 hf6 sb5 hf5
            -- by = gcd(load[i], load[j])
            have il : i < ls.length := by omega
            have jl : J < ls.length := by omega
            obtain ⟨x, hx⟩ : ∃ x, ls[i]? = some x := ⟨_, List.getElem?_eq_getElem il⟩
            obtain ⟨y, hy⟩ : ∃ y, ls[J]? = some y := ⟨_, List.getElem?_eq_getElem jl⟩
            have gx : (ls.map V.int)[i]? = some (.int x) := by rw [List.getElem?_map, hx]; rfl
            have gy : (ls.map V.int)[J]? = some (.int y) := by rw [List.getElem?_map, hy]; rfl
            have x1 := hls x (List.mem_of_getElem? hx)
            have y1 := hls y (List.mem_of_getElem? hy)
            obtain ⟨xn, rfl⟩ : ∃ xn : Nat, x = (xn : Int) := ⟨x.toNat, by omega⟩
            obtain ⟨yn, rfl⟩ : ∃ yn : Nat, y = (yn : Int) := ⟨y.toNat, by omega⟩
            refine ⟨_, rfl, _, rfl, L, _, i, _, rfl, rfl, SqL.of eL7, atI_nat gx, _, rfl, _, rfl, L, _, J, _, rfl, rfl, SqL.of eL7, atI_nat gy, xn, yn, rfl, ?_⟩
            have c0 : 0 < Nat.gcd xn yn := Nat.gcd_pos_of_pos_left _ (by omega)
            have c4 : Nat.gcd xn yn ≤ 4 := Nat.le_trans (Nat.gcd_le_left _ (by omega)) (by omega)
            obtain ⟨bi, hbi⟩ : ∃ b, as[i]? = some b := ⟨_, List.getElem?_eq_getElem (by omega)⟩
            obtain ⟨bj, hbj⟩ : ∃ b, as[J]? = some b := ⟨_, List.getElem?_eq_getElem (by omega)⟩
            have gbi : (as.map V.ref)[i]? = some (.ref bi) := by rw [List.getElem?_map, hbi]; rfl
            have gbj : (as.map V.ref)[J]? = some (.ref bj) := by rw [List.getElem?_map, hbj]; rfl
            obtain ⟨bi0, biL, biR⟩ := hb0 bi (List.mem_of_getElem? hbi)
            obtain ⟨bj0, bjL, bjR⟩ := hb0 bj (List.mem_of_getElem? hbj)
            have gd := Good.put g5 hij hx hy c0 (Int.natCast_dvd_natCast.mpr (Nat.gcd_dvd_left xn yn)) (Int.natCast_dvd_natCast.mpr (Nat.gcd_dvd_right xn yn)) t1 t2
            generalize Nat.gcd xn yn = c at c0 c4 gd
            -- rows[i][j] = tie * (load[j] // by)
            refine ⟨.int t, rfl, _, rfl, _, rfl, L, _, J, _, rfl, rfl, SqL.of eL7, atI_nat gy, .int c, rfl, _, _, rfl, rfl, ⟨by omega, by omega⟩, _, _, rfl, rfl, .inl ⟨by omega, by omega⟩, ?_⟩
            refine ⟨_, rfl, _, rfl, R, _, i, _, rfl, rfl, SqL.of eR7, atI_nat gbi, _, rfl, bi, _, J, J, rfl, rfl, rw7.2.2 i bi hbi, ?_, ?_⟩
            · unfold ixN
              rw [if_pos (by omega), List.length_map, matRow_len, if_pos (by omega), Int.toNat_natCast]
            have rw8 := RowsAt.put rw7 (j := J) hbi (t * ((yn : Int) / (c : Int)))
            have eL8 := (upd_ne (H := H7) (o := .lst (((matRow n (B i)).map V.int).set J (V.int (t * ((yn : Int) / (c : Int)))))) (Ne.symm biL)).trans eL7
            have eR8 := (upd_ne (H := H7) (o := .lst (((matRow n (B i)).map V.int).set J (V.int (t * ((yn : Int) / (c : Int)))))) (Ne.symm biR)).trans eR7
            have sb8 := sb7.updN (o := .lst (((matRow n (B i)).map V.int).set J (V.int (t * ((yn : Int) / (c : Int)))))) bi0
            have hf8 := hf7.put (o := .lst (((matRow n (B i)).map V.int).set J (V.int (t * ((yn : Int) / (c : Int)))))) (hf.ne bi0) (hf.ne2 bi0)
            generalize upd H7 bi (.lst (((matRow n (B i)).map V.int).set J (V.int (t * ((yn : Int) / (c : Int)))))) = H8 at rw8 eL8 eR8 sb8 hf8
            -- rows[j][i] = 0 - tie * (load[i] // by)
            refine ⟨.int t, rfl, _, rfl, _, rfl, L, _, i, _, rfl, rfl, SqL.of eL8, atI_nat gx, .int c, rfl, _, _, rfl, rfl, ⟨by omega, by omega⟩, _, _, rfl, rfl, .inl ⟨by omega, by omega⟩, _, _, rfl, rfl, ?_⟩
            refine ⟨_, rfl, _, rfl, R, _, J, _, rfl, rfl, SqL.of eR8, atI_nat gbj, _, rfl, bj, _, i, i, rfl, rfl, rw8.2.2 J bj hbj, ?_, ?_⟩
            · unfold ixN
              rw [if_pos (by omega), List.length_map, matRow_len, if_pos (by omega), Int.toNat_natCast]
            exact ⟨_, _, _, _, rfl, sb8.updN bj0, hf8.put (hf.ne bj0) (hf.ne2 bj0), (upd_ne (Ne.symm bjL)).trans eL8, (upd_ne (Ne.symm bjR)).trans eR8, RowsAt.put rw8 hbj _, gd⟩
          · rintro σ H5 ⟨y7, y8, y9, B, rfl, rest⟩
            exact ⟨_, y7, y8, y9, B, rfl, rest⟩
        · rintro σ H4 ⟨y6, y7, y8, y9, B, rfl, sb4, hf4, eL4, eR4, rw4, g4⟩
          -- return tuple([tuple(row) for row in rows])
          refine ⟨_, rfl, R, rfl, ⟨_, SqL.of eR4⟩, fun D eD => ?_⟩
          have D0 : H D = none := by
            by_cases z : D = f
            · subst z
              exact absurd rfl (hf4.ne eD)
            · cases y : H D with
              | none => rfl
              | some u =>
                rw [sb4 _ _ z y] at eD
                cases eD
          have sD := same_upd (o := .lst []) eD
          have nDR : R ≠ D := ne_of_none eR4 eD
          refine lc_list (K := K) (a := R) (xs := as.map V.ref) (fun i H' => ∃ ts : List Addr, ts.length = i ∧ (∀ (k : Nat) (b : Addr), ts[k]? = some b → H' b = some (.tup ((matRow n (B k)).map V.int))) ∧ H' D = some (.lst (ts.map V.ref)) ∧ (∀ b o, b ≠ D → H4 b = some o → H' b = some o)) ⟨[], rfl, by simp, upd_same, fun b o nb e => by rw [upd_ne nb]; exact e⟩ (fun i H' _ ⟨ts, _, _, _, k⟩ => SqL.of (k _ _ nDR eR4)) ?_ ?_
          · rintro i v H5 hv ⟨ts, et, hts, eD5, k5⟩
            rw [List.getElem?_map] at hv
            cases ei : as[i]? with
            | none =>
              rw [ei] at hv
              cases hv
            | some b =>
              rw [ei] at hv
              cases hv
              have hb5 : H5 b = some (.lst ((matRow n (B i)).map V.int)) := k5 _ _ (ne_of_none (rw4.2.2 i b ei) eD) (rw4.2.2 i b ei)
              refine ⟨rfl, .ref b, rfl, b, _, rfl, .inl ⟨SqL.of hb5, fun p ep => ?_⟩⟩
              have sp := same_upd (o := .tup ((matRow n (B i)).map V.int)) ep
              have npD : p ≠ D := Ne.symm (ne_of_none eD5 ep)
              refine ⟨ts.map V.ref, sp _ _ eD5, by rw [List.length_map]; exact small1000 (by have := (List.getElem?_eq_some_iff.mp ei).1; omega), ts ++ [p], by rw [List.length_append, et]; rfl, fun k c e => ?_, ?_, fun c o nc e => ?_⟩
              · rw [List.getElem?_append] at e
                split at e
                · have hc := hts k c e
                  have ncD : c ≠ D := ne_of hc eD5 (by intro z; cases z)
                  rw [upd_ne ncD]
                  exact sp _ _ hc
                · next hk =>
                  have : k = i := by
                    have h2 := (List.getElem?_eq_some_iff.mp e).1
                    rw [List.length_singleton] at h2
                    omega
                  subst this
                  have : c = p := by
                    have z : k - ts.length = 0 := by omega
                    rw [z] at e
                    exact (Option.some.inj e).symm
                  subst this
                  rw [upd_ne npD, upd_same]
              · rw [upd_same, List.map_append]
                rfl
              · rw [upd_ne nc]
                exact sp _ _ (k5 _ _ nc e)
          · rintro H5 ⟨ts, et, hts, eD5, k5⟩
            refine ⟨D, _, rfl, .inl ⟨SqL.of eD5, fun a ea => ?_⟩⟩
            have sa := same_upd (o := .tup (ts.map V.ref)) ea
            have sb5 : SameBut f H H5 := fun b o nb e => k5 _ _ (ne_of_none e D0) (sb4 _ _ nb e)
            have hf5 : FeedAt H5 f l := by
              obtain ⟨ns, i, n, m, c, a1, a2, a3, a4⟩ := hf4
              exact ⟨ns, i, n, m, c, a1, k5 _ _ (ne_of_none a2 eD) a2, k5 _ _ (ne_of_none a3 eD) a3, a4⟩
            refine q a ls B _ (sb5.trans sa.but) (hf5.same sa) ⟨ts, upd_same, ?_, fun i r e => ?_⟩ g4
            · rw [matRows_len, et, List.length_map]
              exact rw4.1
            · have hi : i < n := by
                have := (List.getElem?_eq_some_iff.mp e).1
                rw [matRows_len] at this
                exact this
              rw [matRows_get hi] at e
              cases e
              have ht : i < ts.length := by
                rw [et, List.length_map]
                omega
              exact ⟨_, List.getElem?_eq_getElem ht, sa _ _ (hts i _ (List.getElem?_eq_getElem ht))⟩
end
end Bw
set_option Elab.async false
set_option linter.all false
set_option maxRecDepth 100000
set_option maxHeartbeats 4000000
namespace Bw
open PySem PySem.Spec PyProof.Rows L2
theorem SameBut.none {f l a : Addr} {H H1 : Hp} (s : SameBut f H H1) (h : FeedAt H1 f l) (e : H1 a = none) : H a = none := by
  by_cases z : a = f
  · subst z
    exact absurd rfl (h.ne e)
  · cases y : H a with
    | none => rfl
    | some u =>
      rw [s _ _ z y] at e
      cases e
section
variable {P : Program} {w : World} {K : PySem.W.Frag} {mg : Str → Option Value} {base : Heap}
abbrev s_law_roots : Stmt := topS 41
abbrev n_law_roots : List Str := ["_law_feed_here", "_law_ties", "_law_most", "_law_reach", "_law_rows", "_law_k", "_law_one"]
theorem sc_law_roots : FnScope n_law_roots ["_law_feed_here", "_law_ties", "_law_most", "_law_reach"] (defScope s_law_roots) := ⟨rfl, rfl, rfl, by decide +kernel, rfl, by decide +kernel, by decide +kernel⟩
/-- roots for a table of n buds: new rows of n numbers from -r to r -/
def spRoots : Sp := fun vs H Q _ => ∃ (f l a : Addr) (rows : List (List Int)) (n m : Nat) (r : Int), vs = [.ref f, .ref a, .int m, .int r] ∧ FeedAt H f l ∧ TabAt H a rows ∧ 1 ≤ n ∧ n ≤ 4 ∧ rows.length ≤ 8 ∧ 1 ≤ rows.length ∧ (∀ x ∈ rows, x.length = n) ∧ m ≤ 4 ∧ 0 ≤ r ∧ r ≤ 50 ∧
  ∀ (b : Addr) (more : List (List Int)) (H' : Hp), SameBut f H H' → FeedAt H' f l → TabAt H' b (rows ++ more) → more.length ≤ m → (∀ x ∈ more, x.length = n ∧ ∀ t ∈ x, -r ≤ t ∧ t ≤ r) → Q (.ref b) H'
theorem ok_roots {f : Addr} {fd : FuncData} {k : Nat} (F : Fun K "_law_roots" "_law_roots" s_law_roots f fd) (T : Tx mg) (c_law_draw : Cal P w K mg base CX0 1 "_law_draw" ["_law_feed_here", "_law_many"] spDraw) :
    FnOk P w K mg base CX0 2 f fd ["_law_feed_here", "_law_ties", "_law_most", "_law_reach"] spRoots := by
  refine F.ok sc_law_roots (fun vs H Q E h => ?_) (fun cdv A outer s H vs Q E hr h => ?_)
  · obtain ⟨f, l, a, rows, n, m, r, rfl, _⟩ := h
    rfl
  · obtain ⟨f, l, a, rows, n, m, r, rfl, hf, hT, n1, n4, hl8, hl1, hw, m4, r0, r50, q⟩ := h
    refine ⟨_, (pss_cons (ps_set (i := 4) sc_law_roots.nd rfl (.inl rfl) (pe_callTy (c_lst (K := K)) (by rfl) T.list (by decide +kernel) (pa_cons (pv 1) pa_nil)))
  (pss_cons (ps_for PassesOwn.never rfl (pi_range1 (by rfl) T.range (pa_cons (pe_cal c_law_draw hr (by rfl) (pa_cons (pv 0) (pa_cons (pe_op op_add (pv 2) pe_int) pa_nil))) pa_nil)) (pg_name (i := 5) sc_law_roots.nd rfl (.inl rfl))
    (pss_one (ps_expr (pe_bm PySem.F.plainAttrs_list PySem.F.slot_list_append PySem.F.type_list_append mt_append (pv 4) (pa_cons (pe_callTy (c_tup (K := K)) (by rfl) T.tuple (by decide +kernel) (pa_cons (pe_lc (own := [("_law_one", 6)]) (by rfl) sc_law_roots.nd (p_tup (K := K) (pe_ix (i_tup (K := K)) (pv 1) pe_int (fun _ _ => rfl))) (blkOk_by (own := [("_law_one", 6)]) (N := n_law_roots) (sc := defScope s_law_roots) (by decide +kernel)) (fun _ _ _ _ _ => (pg_name (i := 6) sc_law_roots.nd rfl (.inl rfl))) (fun _ _ _ _ _ => pts_nil) (fun _ _ _ _ _ => (pe_op op_sub (pe_cal c_law_draw hr (by rfl) (pa_cons (pv 0) (pa_cons (pe_op op_add (pe_op op_mul pe_int (pv 3)) pe_int) pa_nil))) (pv 3)))) pa_nil)) pa_nil)))))
  (pss_one (ps_ret (pe_callTy (c_tup (K := K)) (by rfl) T.tuple (by decide +kernel) (pa_cons (pv 4) pa_nil)))))), ?_⟩
    obtain ⟨as, ha, hal, has⟩ := id hT
    -- rows = list(ties)
    refine ⟨.ref a, rfl, a, _, rfl, .inr (SqT.of ha), fun R eR => ?_⟩
    have sR := same_upd (o := .lst (as.map V.ref)) eR
    have nRf : R ≠ f := hf.ne eR
    have nRl : R ≠ l := hf.ne2 eR
    -- range(draw(most + 1))
    refine ⟨.ref f, rfl, .int m, rfl, _, _, rfl, rfl, f, l, _, rfl, hf.same sR, by omega, by omega, fun u H1 u0 u1 sb1 hf1 => ?_⟩
    refine ⟨u, rfl, by omega, by omega, ?_⟩
    have hd0 : ∃ r0 b0, rows[0]? = some r0 ∧ as[0]? = some b0 ∧ H b0 = some (.tup (r0.map V.int)) ∧ r0.length = n := by
      have z : 0 < rows.length := by omega
      obtain ⟨b0, e1, e2⟩ := has 0 _ (List.getElem?_eq_getElem z)
      exact ⟨_, b0, List.getElem?_eq_getElem z, e1, e2, hw _ (List.getElem_mem z)⟩
    obtain ⟨r0', b0, er0, eb0, hb0, lr0⟩ := hd0
    refine for_range (fun i σ H' => ∃ (y5 : Option V) (ts : List Addr) (more : List (List Int)), σ = [some (.ref f), some (.ref a), some (.int m), some (.int r), some (.ref R), y5, none] ∧ SameBut f H H' ∧ FeedAt H' f l ∧ H' R = some (.lst ((as ++ ts).map V.ref)) ∧ ts.length = i ∧ more.length = i ∧
      (∀ (k : Nat) (x : List Int), more[k]? = some x → ∃ b, ts[k]? = some b ∧ H' b = some (.tup (x.map V.int))) ∧ (∀ x ∈ more, x.length = n ∧ ∀ t ∈ x, -r ≤ t ∧ t ≤ r)) ?_ ?_ ?_
    · exact ⟨none, [], [], rfl, (sR.but).trans sb1, hf1, by rw [List.append_nil]; exact sb1 _ _ nRf upd_same, rfl, rfl, by simp, by simp⟩
    · rintro i σ H2 hi ⟨y5, ts, more, rfl, sb2, hf2, eR2, lt, lm, hts, hmo⟩
      have ha2 := sb2 _ _ (hf.tup ha) ha
      have hb2 := sb2 _ _ (hf.tup hb0) hb0
      have g0 : (as.map V.ref)[0]? = some (.ref b0) := by rw [List.getElem?_map, eb0]; rfl
      -- rows.append(tuple([..]))
      refine ⟨.ref R, rfl, .inl ⟨rfl, _, SqL.of eR2⟩, .ref a, rfl, a, _, 0, .ref b0, rfl, rfl, SqT.of ha2, atI_nat (j := 0) g0, b0, rfl, ⟨_, SqT.of hb2⟩, fun D eD => ?_⟩
      have D0 : H D = none := sb2.none hf2 eD
      have nDf : D ≠ f := hf2.ne eD
      have nDR : D ≠ R := Ne.symm (ne_of_none eR2 eD)
      refine lc_tup (K := K) (a := b0) (xs := r0'.map V.int) (fun j H' => ∃ x : List Int, x.length = j ∧ (∀ t ∈ x, -r ≤ t ∧ t ≤ r) ∧ H' D = some (.lst (x.map V.int)) ∧ FeedAt H' f l ∧ (∀ b o, b ≠ D → b ≠ f → H2 b = some o → H' b = some o)) ⟨[], rfl, by simp, upd_same, hf2.put nDf (hf2.ne2 eD), fun b o h1 h2 e => by rw [upd_ne h1]; exact e⟩
        (fun j H' _ ⟨x, _, _, _, _, k⟩ => SqT.of (k _ _ (ne_of_none hb2 eD) (hf.tup hb0) hb2)) ?_ ?_
      · rintro j v H3 hv ⟨x, lx, hx, eD3, hf3, k3⟩
        refine ⟨rfl, .ref f, rfl, .int r, rfl, _, _, rfl, rfl, .inl ⟨by decide, by decide⟩, _, _, rfl, rfl, f, l, _, rfl, hf3, by omega, by omega, fun t H4 t0 t1 sb4 hf4 => ?_⟩
        have hj : j < n := by
          have := (List.getElem?_eq_some_iff.mp hv).1
          rw [List.length_map] at this
          omega
        refine ⟨.int r, rfl, _, _, rfl, rfl, x.map V.int, sb4 _ _ nDf eD3, by rw [List.length_map]; exact small1000 (by omega), x ++ [t - r], by rw [List.length_append, lx]; rfl, fun z hz => ?_, ?_, hf4.put nDf (hf.ne2 D0), fun b o h1 h2 e => ?_⟩
        · rcases List.mem_append.mp hz with hz | hz
          · exact hx z hz
          · rw [List.mem_singleton.mp hz]
            omega
        · rw [upd_same, List.map_append]
          rfl
        · rw [upd_ne h1]
          exact sb4 _ _ h2 (k3 _ _ h1 h2 e)
      · rintro H3 ⟨x, lx, hx, eD3, hf3, k3⟩
        rw [List.length_map, lr0] at lx
        refine ⟨D, _, rfl, .inl ⟨SqL.of eD3, fun p ep => ?_⟩⟩
        have sp := same_upd (o := .tup (x.map V.int)) ep
        have eR3 := k3 _ _ (Ne.symm nDR) nRf eR2
        have npR : p ≠ R := Ne.symm (ne_of_none eR3 ep)
        refine ⟨R, _, _, rfl, rfl, sp _ _ eR3, ?_, ?_⟩
        · rw [List.length_map, List.length_append]
          exact small1000 (by omega)
        · refine ⟨_, ts ++ [p], more ++ [x], rfl, ?_, (hf3.same sp).put nRf nRl, ?_, by rw [List.length_append, lt]; rfl, by rw [List.length_append, lm]; rfl, fun k z e => ?_, fun z hz => ?_⟩
          · refine SameBut.updN (fun b o nb e => sp _ _ (k3 _ _ (ne_of_none e D0) nb (sb2 _ _ nb e))) eR
          · rw [upd_same, ← List.append_assoc, List.map_append (l₂ := [p])]
            rfl
          · rw [List.getElem?_append] at e
            split at e
            · next hk =>
              obtain ⟨b, e1, e2⟩ := hts k z e
              refine ⟨b, by rw [List.getElem?_append, if_pos (by omega)]; exact e1, ?_⟩
              have nbR : b ≠ R := ne_of e2 eR2 (by intro z; cases z)
              rw [upd_ne nbR]
              exact sp _ _ (k3 _ _ (ne_of_none e2 eD) (hf2.tup e2) e2)
            · next hk =>
              have h2 := (List.getElem?_eq_some_iff.mp e).1
              rw [List.length_singleton] at h2
              have z0 : k - more.length = 0 := by omega
              rw [z0] at e
              have : x = z := Option.some.inj e
              subst this
              refine ⟨p, ?_, ?_⟩
              · rw [List.getElem?_append, if_neg (by omega)]
                have z1 : k - ts.length = 0 := by omega
                rw [z1]
                rfl
              · rw [upd_ne npR, upd_same]
          · rcases List.mem_append.mp hz with hz | hz
            · exact hmo z hz
            · rw [List.mem_singleton.mp hz]
              exact ⟨lx, hx⟩
    · rintro σ H2 ⟨y5, ts, more, rfl, sb2, hf2, eR2, lt, lm, hts, hmo⟩
      refine ⟨.ref R, rfl, R, _, rfl, .inl ⟨SqL.of eR2, fun p ep => ?_⟩⟩
      have sp := same_upd (o := .tup ((as ++ ts).map V.ref)) ep
      refine q p more _ (sb2.trans sp.but) (hf2.same sp) ⟨as ++ ts, upd_same, by rw [List.length_append, List.length_append, hal, lt, lm], fun i x e => ?_⟩ (by omega) hmo
      rw [List.getElem?_append] at e
      split at e
      · next hk =>
        obtain ⟨b, e1, e2⟩ := has i x e
        exact ⟨b, by rw [List.getElem?_append, if_pos (by omega)]; exact e1, sp _ _ (sb2 _ _ (hf.tup e2) e2)⟩
      · next hk =>
        obtain ⟨b, e1, e2⟩ := hts _ x e
        exact ⟨b, by rw [List.getElem?_append, if_neg (by omega), hal]; exact e1, sp _ _ e2⟩
end
end Bw
set_option Elab.async false
set_option linter.all false
set_option maxRecDepth 100000
set_option maxHeartbeats 4000000
namespace Bw
open PySem PySem.Spec PyProof.Rows L2
theorem ent_mat {n : Nat} {B : Nat → Nat → Int} {more : List (List Int)} {i j : Nat} (hi : i < n) (hj : j < n) : ent (matRows n B ++ more) i j = B i j := by
  unfold ent
  have e : (matRows n B ++ more).getD i [] = matRow n (B i) := by
    rw [List.getD_eq_getElem?_getD, List.getElem?_append, if_pos (by rw [matRows_len]; exact hi), matRows_get hi]
    rfl
  rw [e, matRow_getD hj]
theorem tabOk_drawn {n : Nat} {r : Int} {ls : List Int} {B : Nat → Nat → Int} {more : List (List Int)} (n1 : 1 ≤ n) (n4 : n ≤ 4) (g : Good n r ls B) (r1 : 0 ≤ r) (r12 : r ≤ 12) (hm : more.length ≤ 4) (hmo : ∀ x ∈ more, x.length = n ∧ ∀ t ∈ x, -50 ≤ t ∧ t ≤ 50) : TabOk (matRows n B ++ more) n := by
  have hmat : ∀ x ∈ matRows n B, ∃ i, i < n ∧ x = matRow n (B i) := fun x hx => by
    unfold matRows at hx
    obtain ⟨i, hi, rfl⟩ := List.mem_map.mp hx
    exact ⟨i, List.mem_range.mp hi, rfl⟩
  refine ⟨n1, n4, ?_, ?_, fun x hx => ?_, fun x hx t ht => ?_, loadAt ls, fun i hi => ?_, fun i j hi hj => ?_⟩
  · rw [List.length_append, matRows_len]
    omega
  · rw [List.length_append, matRows_len]
    omega
  · rcases List.mem_append.mp hx with hx | hx
    · obtain ⟨i, _, rfl⟩ := hmat x hx
      exact matRow_len ..
    · exact (hmo x hx).1
  · rcases List.mem_append.mp hx with hx | hx
    · obtain ⟨i, _, rfl⟩ := hmat x hx
      unfold matRow at ht
      obtain ⟨j, _, rfl⟩ := List.mem_map.mp ht
      have := g.bd i j
      omega
    · exact (hmo x hx).2 t ht
  · have h : i < ls.length := by
      rw [g.len]
      exact hi
    rw [loadAt_get (List.getElem?_eq_getElem h)]
    have := g.load _ (List.getElem_mem h)
    omega
  · rw [ent_mat hi hj, ent_mat hj hi]
    exact g.ev i j hi hj
section
variable {P : Program} {w : World} {K : PySem.W.Frag} {mg : Str → Option Value} {base : Heap}
end
end Bw
set_option Elab.async false
set_option linter.all false
set_option maxRecDepth 100000
set_option maxHeartbeats 4000000
namespace Bw
open PySem PySem.Spec PyProof.Rows L2
theorem ip_mul {X : Cx} : PIp X .Mult (rI CMul fun i j => .int (i * j)) := fun pins s σ H x y v u Q I a b q => iop_mul pins s σ H x y v u Q I a b q
section
variable {P : Program} {w : World} {K : PySem.W.Frag} {mg : Str → Option Value} {base : Heap}
/-! ### is_number -/
abbrev s_is_number : Stmt := topS 12
abbrev n_is_number : List Str := ["thing"]
theorem sc_is_number : FnScope n_is_number ["thing"] (defScope s_is_number) := ⟨rfl, rfl, rfl, by decide +kernel, rfl, by decide +kernel, by decide +kernel⟩
def spIsNum : Sp := fun vs H Q _ => ∃ i : Int, vs = [.int i] ∧ Q (.bl true) H
theorem ok_isnum {f : Addr} {fd : FuncData} {k : Nat} (F : Fun K "is_number" "is_number" s_is_number f fd) (T : Tx mg) : FnOk P w K mg base CX0 (k + 1) f fd ["thing"] spIsNum := by
  refine F.ok sc_is_number (fun vs H Q E h => ?_) (fun cdv A outer s H vs Q E hr h => ?_)
  · obtain ⟨i, rfl, _⟩ := h
    rfl
  · obtain ⟨i, rfl, q⟩ := h
    refine ⟨_, (pss_one (ps_ret (pe_and (pe_callB (c_isi (K := K)) (by rfl) T.isinstance (by decide +kernel) (pa_cons (pv 0) (pa_cons (pe_bltn (v := .ty "int") (by rfl) T.int (by decide +kernel) rfl) pa_nil))) (pe_one (pe_not (pe_callB (c_isi (K := K)) (by rfl) T.isinstance (by decide +kernel) (pa_cons (pv 0) (pa_cons (pe_bltn (v := .ty "bool") (by rfl) T.bool (by decide +kernel) rfl) pa_nil)))))))), ?_⟩
    refine ⟨.int i, rfl, _, _, _, _, true, rfl, .ty "int", .base (.int i), kit_ty (by decide +kernel), true, rfl, ?_⟩
    exact ⟨.int i, rfl, _, _, _, _, false, rfl, .ty "bool", .base (.int i), kit_ty (by decide +kernel), false, rfl, q⟩
/-! ### is_row -/
abbrev s_is_row : Stmt := topS 23
abbrev n_is_row : List Str := ["row", "many", "tie"]
theorem sc_is_row : FnScope n_is_row ["row", "many"] (defScope s_is_row) := ⟨rfl, rfl, rfl, by decide +kernel, rfl, by decide +kernel, by decide +kernel⟩
def spIsRow : Sp := fun vs H Q _ => ∃ (a : Addr) (r : List Int), vs = [.ref a, .int r.length] ∧ H a = some (.tup (r.map V.int)) ∧ r.length ≤ 4 ∧ (∀ t ∈ r, -50 ≤ t ∧ t ≤ 50) ∧ ∀ H', Same H H' → Q (.bl true) H'
theorem all_rep (n : Nat) : (List.replicate n true).all id = true := by
  rw [List.all_eq_true]
  intro x hx
  exact List.eq_of_mem_replicate hx
theorem ok_isrow {f : Addr} {fd : FuncData} (F : Fun K "is_row" "is_row" s_is_row f fd) (T : Tx mg) (c_is_number : Cal P w K mg base CX0 1 "is_number" ["thing"] spIsNum) : FnOk P w K mg base CX0 2 f fd ["row", "many"] spIsRow := by
  refine F.ok sc_is_row (fun vs H Q E h => ?_) (fun cdv A outer s H vs Q E hr h => ?_)
  · obtain ⟨a, r, rfl, _⟩ := h
    rfl
  · obtain ⟨a, r, rfl, ha, l4, hb, q⟩ := h
    refine ⟨_, (pss_cons (ps_if (PW.pt (pw_or (pt_not (pt_val (pe_callB (c_isi (K := K)) (by rfl) T.isinstance (by decide +kernel) (pa_cons (pv 0) (pa_cons (pe_bltn (v := .ty "tuple") (by rfl) T.tuple (by decide +kernel) rfl) pa_nil))))) (pw_or1 (pt_cmpR op_ne (pe_callB (c_len (K := K)) (by rfl) T.len PySem.boot_len (pa_cons (pv 0) pa_nil)) (pv 1) (nomark _)))))
    (pss_one (ps_ret pe_bl))
    pss_nil)
  (pss_one (ps_ret (pe_callB (c_all (K := K) rfl) (by rfl) T.all (by decide +kernel) (pa_cons (pe_lc (own := [("tie", 2)]) (by rfl) sc_is_row.nd (p_tup (K := K) (pv 0)) (blkOk_by (own := [("tie", 2)]) (N := n_is_row) (sc := defScope s_is_row) (by decide +kernel)) (fun _ _ _ _ _ => (pg_name (i := 2) sc_is_row.nd rfl (.inl rfl))) (fun _ _ _ _ _ => pts_nil) (fun _ _ _ _ _ => (pe_and (pe_cal c_is_number hr (by rfl) (pa_cons (pv 2) pa_nil)) (pe_one (pe_cmpR op_le (pe_callB call_abs (by rfl) T.abs (by decide +kernel) (pa_cons (pv 2) pa_nil)) (pe_gint (by rfl) T.MOST_TIE) (nomark _)))))) pa_nil))))), ?_⟩
    refine ⟨.ref a, rfl, _, _, _, _, true, rfl, .ty "tuple", .base (.tup ha), kit_ty (by decide +kernel), true, rfl, ?_⟩
    refine iteF ⟨.ref a, rfl, a, _, rfl, .inr (SqT.of ha), .int r.length, rfl, rfl, _, rfl, ?_⟩
    rw [List.length_map]
    refine iteNS rfl ?_
    -- all([..])
    refine ⟨.ref a, rfl, a, rfl, ⟨_, SqT.of ha⟩, fun D eD => ?_⟩
    have naD : a ≠ D := ne_of_none ha eD
    refine lc_tup (K := K) (a := a) (xs := r.map V.int) (fun j H' => H' D = some (.lst ((List.replicate j true).map V.bl)) ∧ ∀ b o, b ≠ D → H b = some o → H' b = some o) ⟨upd_same, fun b o n e => by rw [upd_ne n]; exact e⟩ (fun j H' _ ⟨_, k⟩ => SqT.of (k _ _ naD ha)) ?_ ?_
    · rintro j v H1 hv ⟨e1, k1⟩
      obtain ⟨t, ht, rfl⟩ := int_at hv
      have hj : j < r.length := (List.getElem?_eq_some_iff.mp ht).1
      have hbt := hb t (List.mem_of_getElem? ht)
      refine ⟨rfl, .int t, rfl, t, rfl, true, rfl, ?_⟩
      refine ⟨.int t, rfl, t, rfl, _, _, rfl, rfl, _, e1, by rw [List.length_map, List.length_replicate]; exact small1000 (by omega), ?_, fun b o n e => ?_⟩
      · have ed : decide ((if t < 0 then -t else t) ≤ 50) = true := decide_eq_true (by split <;> omega)
        rw [upd_same]
        show some (HO.lst (_ ++ [V.bl (decide ((if t < 0 then -t else t) ≤ 50))])) = _
        rw [ed, List.replicate_succ', List.map_append]
        rfl
      · rw [upd_ne n]
        exact k1 _ _ n e
    · rintro H1 ⟨e1, k1⟩
      refine ⟨D, _, rfl, SqL.of e1, ?_⟩
      rw [all_rep]
      exact q _ fun b o e => k1 _ _ (ne_of_none e eD) e
/-! ### bud_count -/
abbrev s_bud_count : Stmt := topS 26
abbrev n_bud_count : List Str := ["table"]
theorem sc_bud_count : FnScope n_bud_count ["table"] (defScope s_bud_count) := ⟨rfl, rfl, rfl, by decide +kernel, rfl, by decide +kernel, by decide +kernel⟩
/-- a table's row, tracked -/
theorem TabAt.row {H : Hp} {a : Addr} {rows : List (List Int)} (h : TabAt H a rows) {i : Nat} (hi : i < rows.length) : ∃ (as : List Addr) (b : Addr), H a = some (.tup (as.map V.ref)) ∧ (as.map V.ref)[i]? = some (.ref b) ∧ H b = some (.tup ((rows.getD i []).map V.int)) := by
  obtain ⟨as, h1, h2, h3⟩ := h
  obtain ⟨b, e1, e2⟩ := h3 i _ (List.getElem?_eq_getElem hi)
  refine ⟨as, b, h1, by rw [List.getElem?_map, e1]; rfl, ?_⟩
  rw [List.getD_eq_getElem?_getD, List.getElem?_eq_getElem hi]
  exact e2
theorem row_len {rows : List (List Int)} {n i : Nat} (w : ∀ r ∈ rows, r.length = n) (hi : i < rows.length) : (rows.getD i []).length = n := by
  rw [List.getD_eq_getElem?_getD, List.getElem?_eq_getElem hi]
  exact w _ (List.getElem_mem hi)
def spBuds : Sp := fun vs H Q _ => ∃ (a : Addr) (rows : List (List Int)) (n : Nat), vs = [.ref a] ∧ TabAt H a rows ∧ 0 < rows.length ∧ (∀ r ∈ rows, r.length = n) ∧ Q (.int n) H
theorem ok_buds {f : Addr} {fd : FuncData} {k : Nat} (F : Fun K "bud_count" "bud_count" s_bud_count f fd) (T : Tx mg) : FnOk P w K mg base CX0 (k + 1) f fd ["table"] spBuds := by
  refine F.ok sc_bud_count (fun vs H Q E h => ?_) (fun cdv A outer s H vs Q E hr h => ?_)
  · obtain ⟨a, rows, n, rfl, _⟩ := h
    rfl
  · obtain ⟨a, rows, n, rfl, hT, h0, hw, q⟩ := h
    refine ⟨_, (pss_one (ps_ret (pe_callB (c_len (K := K)) (by rfl) T.len PySem.boot_len (pa_cons (pe_ix (i_tup (K := K)) (pv 0) pe_int (fun _ _ => rfl)) pa_nil)))), ?_⟩
    obtain ⟨as, b, e1, e2, e3⟩ := hT.row h0
    refine ⟨.ref a, rfl, a, _, 0, .ref b, rfl, rfl, SqT.of e1, atI_nat (j := 0) e2, b, _, rfl, .inr (SqT.of e3), ?_⟩
    rw [List.length_map, row_len hw h0]
    exact q
/-! ### pair_bars -/
abbrev s_pair_bars : Stmt := topS 28
abbrev n_pair_bars : List Str := ["table", "i", "j", "one", "other"]
theorem sc_pair_bars : FnScope n_pair_bars ["table", "i", "j"] (defScope s_pair_bars) := ⟨rfl, rfl, rfl, by decide +kernel, rfl, by decide +kernel, by decide +kernel⟩
def spPair : Sp := fun vs H Q _ => ∃ (a : Addr) (rows : List (List Int)) (n i j : Nat), vs = [.ref a, .int i, .int j] ∧ TabAt H a rows ∧ TabOk rows n ∧ i < n ∧ j < n ∧ Q (.bl false) H
theorem ent_get {rows : List (List Int)} {n i j : Nat} (w : ∀ r ∈ rows, r.length = n) (hi : i < rows.length) (hj : j < n) : ((rows.getD i []).map V.int)[j]? = some (.int (ent rows i j)) := by
  have h := row_len w hi
  unfold ent
  have hj2 : j < (rows.getD i []).length := by omega
  rw [List.getElem?_map, List.getElem?_eq_getElem hj2, List.getD_eq_getElem?_getD (i := j), List.getElem?_eq_getElem hj2]
  rfl
theorem ent_bd {rows : List (List Int)} {n i j : Nat} (O : TabOk rows n) (hi : i < rows.length) (hj : j < n) : -50 ≤ ent rows i j ∧ ent rows i j ≤ 50 := by
  have h := row_len O.wide hi
  have hj2 : j < (rows.getD i []).length := by omega
  have e : ent rows i j = (rows.getD i [])[j] := by
    unfold ent
    rw [List.getD_eq_getElem?_getD (i := j), List.getElem?_eq_getElem hj2]
    rfl
  rw [e]
  refine O.tie (rows.getD i []) ?_ _ (List.getElem_mem hj2)
  rw [List.getD_eq_getElem?_getD, List.getElem?_eq_getElem hi]
  exact List.getElem_mem hi
theorem pair_math {x y c d : Int} (hc : 0 < c) (hd : 0 < d) (e : c * x = -(d * y)) : (x = 0 ∧ y = 0) ∨ x * y < 0 := by
  rcases Int.lt_trichotomy x 0 with hx | hx | hx
  · right
    have h1 : c * x < 0 := Int.mul_neg_of_pos_of_neg hc hx
    have h2 : 0 < y := by
      rcases Int.lt_or_le 0 y with h | h
      · exact h
      · have := Int.mul_nonpos_of_nonneg_of_nonpos (Int.le_of_lt hd) h
        omega
    exact Int.mul_neg_of_neg_of_pos hx h2
  · left
    subst hx
    rw [Int.mul_zero] at e
    refine ⟨rfl, ?_⟩
    have : d * y = 0 := by omega
    rcases Int.mul_eq_zero.mp this with h | h
    · omega
    · exact h
  · right
    have h1 : 0 < c * x := Int.mul_pos hc hx
    have h2 : y < 0 := by
      rcases Int.lt_or_le y 0 with h | h
      · exact h
      · have := Int.mul_nonneg (Int.le_of_lt hd) h
        omega
    exact Int.mul_neg_of_pos_of_neg hx h2
theorem ok_pair {f : Addr} {fd : FuncData} {k : Nat} (F : Fun K "pair_bars" "pair_bars" s_pair_bars f fd) (T : Tx mg) : FnOk P w K mg base CX0 (k + 1) f fd ["table", "i", "j"] spPair := by
  refine F.ok sc_pair_bars (fun vs H Q E h => ?_) (fun cdv A outer s H vs Q E hr h => ?_)
  · obtain ⟨a, rows, n, i, j, rfl, _⟩ := h
    rfl
  · obtain ⟨a, rows, n, i, j, rfl, hT, O, hi, hj, q⟩ := h
    refine ⟨_, (pss_cons (ps_set (i := 3) sc_pair_bars.nd rfl (.inl rfl) (pe_ix (i_tup (K := K)) (pe_ix (i_tup (K := K)) (pv 0) (pv 1) (fun _ _ => rfl)) (pv 2) (fun _ _ => rfl)))
  (pss_cons (ps_set (i := 4) sc_pair_bars.nd rfl (.inl rfl) (pe_ix (i_tup (K := K)) (pe_ix (i_tup (K := K)) (pv 0) (pv 2) (fun _ _ => rfl)) (pv 1) (fun _ _ => rfl)))
  (pss_one (ps_ret (pe_and (pe_not (pe_and (pe_cmpR op_eq (pv 3) pe_int (nomark _)) (pe_one (pe_cmpR op_eq (pv 4) pe_int (nomark _))))) (pe_one (pe_cmpR op_ge (pe_op op_mul (pv 3) (pv 4)) pe_int (nomark _)))))))), ?_⟩
    have hl := O.len
    have hi2 : i < rows.length := by omega
    have hj2 : j < rows.length := by omega
    obtain ⟨as, bi, e1, e2, e3⟩ := hT.row hi2
    obtain ⟨as', bj, e1', e2', e3'⟩ := hT.row hj2
    obtain ⟨d, d0, dv⟩ := O.even
    have key := pair_math (d0 i hi) (d0 j hj) (dv i j hi hj)
    have bd := ent_bd O hi2 hj
    refine ⟨.ref a, rfl, .int i, rfl, a, _, i, .ref bi, rfl, rfl, SqT.of e1, atI_nat e2, .int j, rfl, bi, _, j, _, rfl, rfl, SqT.of e3, atI_nat (ent_get O.wide hi2 hj), ?_⟩
    refine ⟨.ref a, rfl, .int j, rfl, a, _, j, .ref bj, rfl, rfl, SqT.of e1', atI_nat e2', .int i, rfl, bj, _, i, _, rfl, rfl, SqT.of e3', atI_nat (ent_get O.wide hj2 hi), ?_⟩
    generalize ent rows i j = x at key bd
    generalize ent rows j i = y at key
    refine ⟨.int x, rfl, rfl, _, rfl, ?_⟩
    rcases key with ⟨rfl, rfl⟩ | key
    · exact ⟨.int 0, rfl, rfl, true, rfl, false, rfl, q⟩
    · refine ite2 (fun e => ?_) (fun e => ?_)
      · have : x = 0 := V.int.inj (of_decide_eq_true e)
        subst this
        omega
      · refine ⟨false, rfl, true, rfl, .int x, rfl, .int y, rfl, x, y, rfl, rfl, .inl ⟨by omega, by omega⟩, _, _, rfl, rfl, ?_⟩
        have z : decide (x * y ≥ 0) = false := decide_eq_false (by omega)
        show Q (V.bl (decide (x * y ≥ 0))) H
        rw [z]
        exact q
end
end Bw
set_option Elab.async false
set_option linter.all false
set_option maxRecDepth 100000
set_option maxHeartbeats 4000000
namespace Bw
open PySem PySem.Spec PyProof.Rows L2
/-! ### walks whose turn is any reading -/
theorem it_list {K : PySem.W.Frag} {a : Addr} {xs : List V} {H1 : Hp} {Qd : Hp → Prop} {Body : V → Hp → (Hp → Prop) → Prop} (Pv : Nat → Hp → Prop) (h0 : Pv 0 H1) (hl : ∀ i H, i ≤ xs.length → Pv i H → SqL K H a xs)
    (hs : ∀ i x H, xs[i]? = some x → Pv i H → Body x H (Pv (i + 1))) (hd : ∀ H, Pv xs.length H → Qd H) :
    ∃ W : Nat → Nat → Hp → Prop, (∃ m, W 0 m H1) ∧ ∀ i m H, W i m H → ((Itl K a).stop i H ∧ Qd H) ∨ ((Itl K a).go i H ∧ ∃ Nx : Hp → Prop, (∀ H', Nx H' → ∃ m', m' < m ∧ W (i + 1) m' H') ∧ ∀ x H', (Itl K a).yld i H x H' → Body x H' Nx) := by
  refine ⟨fun i m H => m = xs.length - i ∧ i ≤ xs.length ∧ Pv i H, ⟨xs.length, by simp, Nat.zero_le _, h0⟩, ?_⟩
  rintro i m H ⟨rfl, hi, p⟩
  have q := hl i H hi p
  by_cases hlt : i < xs.length
  · refine .inr ⟨⟨xs, xs[i], q, by simp [hlt]⟩, Pv (i + 1), fun H' p' => ⟨xs.length - (i + 1), by omega, rfl, hlt, p'⟩, fun x H' y => ?_⟩
    obtain ⟨e, y⟩ := y
    subst e
    exact hs i x _ (y _ q) p
  · exact .inl ⟨⟨xs, q, by omega⟩, hd H (by
      have : i = xs.length := by omega
      rw [this] at p
      exact p)⟩
theorem it_range {lo : Int} {n : Nat} {H1 : Hp} {Qd : Hp → Prop} {Body : V → Hp → (Hp → Prop) → Prop} (Pv : Nat → Hp → Prop) (h0 : Pv 0 H1) (hs : ∀ i H, i < n → Pv i H → Body (.int (lo + i)) H (Pv (i + 1))) (hd : ∀ H, Pv n H → Qd H) :
    ∃ W : Nat → Nat → Hp → Prop, (∃ m, W 0 m H1) ∧ ∀ i m H, W i m H → ((Itr lo n).stop i H ∧ Qd H) ∨ ((Itr lo n).go i H ∧ ∃ Nx : Hp → Prop, (∀ H', Nx H' → ∃ m', m' < m ∧ W (i + 1) m' H') ∧ ∀ x H', (Itr lo n).yld i H x H' → Body x H' Nx) := by
  refine ⟨fun i m H => m = n - i ∧ i ≤ n ∧ Pv i H, ⟨n, by simp, Nat.zero_le _, h0⟩, ?_⟩
  rintro i m H ⟨rfl, hi, p⟩
  by_cases hlt : i < n
  · refine .inr ⟨hlt, Pv (i + 1), fun H' p' => ⟨n - (i + 1), by omega, rfl, hlt, p'⟩, fun x H' y => ?_⟩
    obtain ⟨e, y⟩ := y
    subst e y
    exact hs i _ hlt p
  · exact .inl ⟨(by show n ≤ i; omega), hd H (by
      have : i = n := by omega
      rw [this] at p
      exact p)⟩
section
variable {P : Program} {w : World} {K : PySem.W.Frag} {mg : Str → Option Value} {base : Heap}
/-! ### check_form -/
abbrev s_check_form : Stmt := topS 24
abbrev n_check_form : List Str := ["table", "many", "row"]
theorem sc_check_form : FnScope n_check_form ["table"] (defScope s_check_form) := ⟨rfl, rfl, rfl, by decide +kernel, rfl, by decide +kernel, by decide +kernel⟩
/-- what is asked of a good table -/
def spGood : Sp := fun vs H Q _ => ∃ (a : Addr) (rows : List (List Int)) (n : Nat), vs = [.ref a] ∧ TabAt H a rows ∧ TabOk rows n ∧ ∀ H', Same H H' → Q .non H'
theorem ok_form {f : Addr} {fd : FuncData} (F : Fun K "check_form" "check_form" s_check_form f fd) (T : Tx mg) (c_is_row : Cal P w K mg base CX0 2 "is_row" ["row", "many"] spIsRow) : FnOk P w K mg base CX0 3 f fd ["table"] spGood := by
  refine F.ok sc_check_form (fun vs H Q E h => ?_) (fun cdv A outer s H vs Q E hr h => ?_)
  · obtain ⟨a, rows, n, rfl, _⟩ := h
    rfl
  · obtain ⟨a, rows, n, rfl, hT, O, q⟩ := h
    refine ⟨_, (pss_cons (ps_if (PW.pt (pw_or (pt_not (pt_val (pe_callB (c_isi (K := K)) (by rfl) T.isinstance (by decide +kernel) (pa_cons (pv 0) (pa_cons (pe_bltn (v := .ty "tuple") (by rfl) T.tuple (by decide +kernel) rfl) pa_nil))))) (pw_or (pt_cmpR op_eq (pe_callB (c_len (K := K)) (by rfl) T.len PySem.boot_len (pa_cons (pv 0) pa_nil)) pe_int (nomark _)) (pw_or1 (pt_not (pt_val (pe_callB (c_isi (K := K)) (by rfl) T.isinstance (by decide +kernel) (pa_cons (pe_ix (i_tup (K := K)) (pv 0) pe_int (fun _ _ => rfl)) (pa_cons (pe_bltn (v := .ty "tuple") (by rfl) T.tuple (by decide +kernel) rfl) pa_nil)))))))))
    (pss_one ps_never)
    pss_nil)
  (pss_cons (ps_set (i := 1) sc_check_form.nd rfl (.inr rfl) (pe_callB (c_len (K := K)) (by rfl) T.len PySem.boot_len (pa_cons (pe_ix (i_tup (K := K)) (pv 0) pe_int (fun _ _ => rfl)) pa_nil)))
  (pss_cons (ps_if (PW.pt (pw_or (pt_not (pt_chain op_le op_le pe_int (pv 1) (pe_gint (by rfl) T.MOST_BUDS))) (pw_or1 (pt_not (pt_chain op_le op_le (pv 1) (pe_callB (c_len (K := K)) (by rfl) T.len PySem.boot_len (pa_cons (pv 0) pa_nil)) (pe_op op_add (pv 1) (pe_gint (by rfl) T.MOST_ROOTS)))))))
    (pss_one ps_never)
    pss_nil)
  (pss_one (ps_if (pt_not (pt_val (pe_callB (c_all (K := K) rfl) (by rfl) T.all (by decide +kernel) (pa_cons (pe_lc (own := [("row", 2)]) (by rfl) sc_check_form.nd (p_tup (K := K) (pv 0)) (blkOk_by (own := [("row", 2)]) (N := n_check_form) (sc := defScope s_check_form) (by decide +kernel)) (fun _ _ _ _ _ => (pg_name (i := 2) sc_check_form.nd rfl (.inl rfl))) (fun _ _ _ _ _ => pts_nil) (fun _ _ _ _ _ => (pe_cal c_is_row hr (by rfl) (pa_cons (pv 2) (pa_cons (pv 1) pa_nil))))) pa_nil))))
    (pss_one ps_never)
    pss_nil))))), ?_⟩
    have h1 := O.n1
    have h2 := O.n4
    have h3 := O.len
    have h4 := O.len4
    have l0 : 0 < rows.length := by omega
    obtain ⟨as, ha, hal, has⟩ := id hT
    obtain ⟨b, hb1, hb⟩ := has 0 _ (List.getElem?_eq_getElem l0)
    have hb0 : (as.map V.ref)[0]? = some (.ref b) := by rw [List.getElem?_map, hb1]; rfl
    have hw0 := O.wide _ (List.getElem_mem l0)
    -- the form
    refine ⟨.ref a, rfl, _, _, _, _, true, rfl, .ty "tuple", .base (.tup ha), kit_ty (by decide +kernel), true, rfl, ?_⟩
    refine iteF ⟨.ref a, rfl, a, _, rfl, .inr (SqT.of ha), rfl, _, rfl, ite2 (fun e => ?_) (fun _ => ?_)⟩
    · have := V.int.inj (of_decide_eq_true e)
      rw [List.length_map] at this
      omega
    refine ⟨.ref a, rfl, a, _, 0, .ref b, rfl, rfl, SqT.of ha, atI_nat (j := 0) hb0, _, _, _, _, true, rfl, .ty "tuple", .base (.tup hb), kit_ty (by decide +kernel), true, rfl, iteF ?_⟩
    -- many
    refine ⟨.ref a, rfl, a, _, 0, .ref b, rfl, rfl, SqT.of ha, atI_nat (j := 0) hb0, b, _, rfl, .inr (SqT.of hb), ?_⟩
    rw [List.length_map, hw0]
    refine ⟨.int n, rfl, _, _, rfl, rfl, _, rfl, ite2 (fun _ => ⟨_, _, rfl, rfl, _, rfl, iteNS (show (n : Int) ≤ 4 by omega) ?_⟩) (fun e => absurd (decide_eq_true (show (1 : Int) ≤ n by omega)) e)⟩
    refine ⟨.int n, rfl, .ref a, rfl, a, _, rfl, .inr (SqT.of ha), _, _, rfl, rfl, _, rfl, ?_⟩
    rw [List.length_map, hal]
    refine ite2 (fun _ => ⟨.int n, rfl, _, _, rfl, rfl, _, _, rfl, rfl, _, rfl, iteNS (show (rows.length : Int) ≤ n + 4 by omega) ?_⟩) (fun e => absurd (decide_eq_true (show (n : Int) ≤ rows.length by omega)) e)
    -- all rows
    refine ⟨.ref a, rfl, a, rfl, ⟨_, SqT.of ha⟩, fun D eD => ?_⟩
    have naD : a ≠ D := ne_of_none ha eD
    refine lc_tup (K := K) (a := a) (xs := as.map V.ref) (fun j H' => H' D = some (.lst ((List.replicate j true).map V.bl)) ∧ ∀ b o, b ≠ D → H b = some o → H' b = some o) ⟨upd_same, fun b o n e => by rw [upd_ne n]; exact e⟩ (fun j H' _ ⟨_, k⟩ => SqT.of (k _ _ naD ha)) ?_ ?_
    · rintro j v H1 hv ⟨e1, k1⟩
      rw [List.getElem?_map] at hv
      cases ej : as[j]? with
      | none =>
        rw [ej] at hv
        cases hv
      | some c =>
        rw [ej] at hv
        cases hv
        have hj : j < rows.length := by
          have := (List.getElem?_eq_some_iff.mp ej).1
          omega
        obtain ⟨c', e2, hc⟩ := has j _ (List.getElem?_eq_getElem hj)
        cases (Option.some.inj (ej.symm.trans e2))
        have hw := O.wide _ (List.getElem_mem hj)
        have ht := O.tie _ (List.getElem_mem hj)
        generalize rows[j] = r at hc hw ht
        refine ⟨rfl, .ref c, rfl, .int n, rfl, c, r, by rw [hw]; rfl, k1 _ _ (ne_of_none hc eD) hc, by omega, ht, fun H2 s2 => ?_⟩
        refine ⟨_, s2 _ _ e1, by rw [List.length_map, List.length_replicate]; exact small1000 (by omega), ?_, fun b o n e => ?_⟩
        · rw [upd_same, List.replicate_succ', List.map_append]
          rfl
        · rw [upd_ne n]
          exact s2 _ _ (k1 _ _ n e)
    · rintro H1 ⟨e1, k1⟩
      refine ⟨D, _, rfl, SqL.of e1, true, ?_, iteF (q _ fun b o e => k1 _ _ (ne_of_none e eD) e)⟩
      rw [all_rep]
/-! ### unlike_rows -/
abbrev s_unlike_rows : Stmt := topS 27
abbrev n_unlike_rows : List Str := ["many", "length", "rows", "step", "row", "number"]
theorem sc_unlike_rows : FnScope n_unlike_rows ["many", "length"] (defScope s_unlike_rows) := ⟨rfl, rfl, rfl, by decide +kernel, rfl, by decide +kernel, by decide +kernel⟩
def ringV (g : List Nat) : List V := g.map fun x => V.int (x : Nat)
/-- tuples of so many places -/
def RingsAt (H : Hp) (n m : Nat) (ts : List Addr) : Prop := ∀ t ∈ ts, ∃ g : List Nat, H t = some (.tup (ringV g)) ∧ g.length = m ∧ ∀ x ∈ g, x < n
def spUnlike : Sp := fun vs H Q _ => ∃ (n m : Nat), vs = [.int n, .int m] ∧ n ≤ 4 ∧ m ≤ 4 ∧ ∀ (p : Addr) (ts : List Addr) (H' : Hp), Same H H' → H' p = some (.lst (ts.map V.ref)) → RingsAt H' n m ts → ts.length ≤ 256 → Q (.ref p) H'
theorem pow4 {i : Nat} (h : i ≤ 4) : 4 ^ i ≤ 256 := Nat.pow_le_pow_right (by decide) h
theorem flat_ring (g : List Nat) : (ringV g).all flatV = true := by
  rw [List.all_eq_true]
  intro x hx
  unfold ringV at hx
  obtain ⟨y, _, rfl⟩ := List.mem_map.mp hx
  rfl
theorem ok_unlike {f : Addr} {fd : FuncData} {k : Nat} (F : Fun K "unlike_rows" "unlike_rows" s_unlike_rows f fd) (T : Tx mg) : FnOk P w K mg base CX0 (k + 1) f fd ["many", "length"] spUnlike := by
  refine F.ok sc_unlike_rows (fun vs H Q E h => ?_) (fun cdv A outer s H vs Q E hr h => ?_)
  · obtain ⟨n, m, rfl, _⟩ := h
    rfl
  · obtain ⟨n, m, rfl, n4, m4, q⟩ := h
    refine ⟨_, (pss_cons (ps_set (i := 2) sc_unlike_rows.nd rfl (.inl rfl) (pe_lst (pa_cons (pe_tup pa_nil) pa_nil)))
      (pss_cons (ps_for PassesOwn.never rfl (pi_range1 (by rfl) T.range (pa_cons (pv 1) pa_nil)) (pg_name (i := 3) sc_unlike_rows.nd rfl (.inl rfl))
        (pss_one (ps_setLc2 (i := 2) (own := [("row", 4), ("number", 5)]) (vs1 := [5]) (by rfl) sc_unlike_rows.nd rfl rfl (sw_true rfl rfl rfl (by decide +kernel)) (p_list (K := K) (pv 2)) (blkOk_by (own := [("row", 4), ("number", 5)]) (N := n_unlike_rows) (sc := defScope s_unlike_rows) (by decide +kernel)) (by decide)
          (fun _ _ _ _ _ => (pg_name (i := 4) sc_unlike_rows.nd rfl (.inl rfl))) (fun _ _ _ _ _ => pts_nil) (fun _ _ _ _ _ => (pi_range1 (by rfl) T.range (pa_cons (pv 0) pa_nil))) (fun _ _ _ _ _ => (pg_name (i := 5) sc_unlike_rows.nd rfl (.inl rfl))) (fun _ _ _ _ _ => pts_one (pt_cmpR (o_notin (K := K)) (pv 5) (pv 4) (by rfl)))
          (fun _ _ _ _ _ => (pe_op (o_cat (K := K)) (pv 4) (pe_tup (pa_cons (pv 5) pa_nil)))))))
      (pss_one (ps_ret (pv 2))))), ?_⟩
    -- rows = [()]
    refine ⟨Nat.zero_le _, fun e he => ⟨by show 1 ≤ sizeLine; decide, fun R eR => ?_⟩⟩
    have s1 := same_upd (o := .tup []) he
    have s2 := same_upd (o := .lst [.ref e]) eR
    refine ⟨.int m, rfl, m, rfl, by omega, by omega, for_range (fun i σ H' => ∃ (y3 : Option V) (R : Addr) (ts : List Addr), σ = [some (.int n), some (.int m), some (.ref R), y3, none, none] ∧ Same H H' ∧ H' R = some (.lst (ts.map V.ref)) ∧ RingsAt H' n i ts ∧ ts.length ≤ 4 ^ i)
      ⟨none, R, [e], rfl, s1.trans s2, upd_same, fun t ht => ?_, Nat.le_refl 1⟩ ?_ ?_⟩
    · rw [List.mem_singleton.mp ht]
      exact ⟨[], s2 _ _ upd_same, rfl, by simp⟩
    · rintro i σ H1 hi ⟨y3, R, ts, rfl, sm, eR1, hts, lts⟩
      have hi : i < m := hi
      have l256 : ts.length ≤ 256 := Nat.le_trans lts (pow4 (by omega))
      refine ⟨.ref R, rfl, R, rfl, ⟨_, SqL.of eR1⟩, fun D eD => ?_⟩
      have nRD : R ≠ D := ne_of_none eR1 eD
      refine it_list (K := K) (a := R) (xs := ts.map V.ref) (fun j H' => ∃ us : List Addr, H' D = some (.lst (us.map V.ref)) ∧ RingsAt H' n (i + 1) us ∧ us.length ≤ 4 * j ∧ ∀ b o, b ≠ D → H1 b = some o → H' b = some o)
        ⟨[], upd_same, fun t ht => by simp at ht, by simp, fun b o n e => by rw [upd_ne n]; exact e⟩ (fun j H' _ ⟨us, _, _, _, k⟩ => SqL.of (k _ _ nRD eR1)) ?_ ?_
      · rintro j v H2 hv ⟨us, eD2, hus, lus, k2⟩
        rw [List.getElem?_map] at hv
        cases ej : ts[j]? with
        | none =>
          rw [ej] at hv
          cases hv
        | some t =>
          rw [ej] at hv
          cases hv
          have hjl := (List.getElem?_eq_some_iff.mp ej).1
          obtain ⟨g, hg, lg, gb⟩ := hts t (List.mem_of_getElem? ej)
          refine ⟨rfl, .int n, rfl, n, rfl, by omega, by omega, it_range (fun x H' => ∃ us : List Addr, H' D = some (.lst (us.map V.ref)) ∧ RingsAt H' n (i + 1) us ∧ us.length ≤ 4 * j + x ∧ ∀ b o, b ≠ D → H1 b = some o → H' b = some o) ⟨us, eD2, hus, lus, k2⟩ ?_ ?_⟩
          · rintro x H3 hx ⟨us, eD3, hus, lus, k3⟩
            have hx : x < n := hx
            have e0 : (0 : Int) + (x : Int) = ((x : Nat) : Int) := by omega
            rw [e0]
            have ht3 := k3 _ _ (ne_of_none hg eD) hg
            refine ⟨rfl, .int x, rfl, .ref t, rfl, t, _, rfl, .inr (SqT.of ht3), rfl, flat_ring g, _, rfl, ite2 (fun _ => ?_) (fun _ => ⟨us, eD3, hus, by omega, k3⟩)⟩
            refine ⟨.ref t, rfl, .int x, rfl, by show 1 ≤ sizeLine; decide, fun c ec => ?_⟩
            have sc := same_upd (o := .tup [.int x]) ec
            have done : ∀ (z : Addr) (H4 : Hp), Same H3 H4 → H4 z = some (.tup (ringV (g ++ [x]))) → ∃ acc, H4 D = some (.lst acc) ∧ acc.length < sizeLine ∧ ∃ us : List Addr, (upd H4 D (.lst (acc ++ [.ref z]))) D = some (.lst (us.map V.ref)) ∧ RingsAt (upd H4 D (.lst (acc ++ [.ref z]))) n (i + 1) us ∧ us.length ≤ 4 * j + (x + 1) ∧ ∀ b o, b ≠ D → H1 b = some o → (upd H4 D (.lst (acc ++ [.ref z]))) b = some o := by
              intro z H4 s4 hz
              have eD4 := s4 _ _ eD3
              refine ⟨_, eD4, by rw [List.length_map]; exact Nat.lt_of_le_of_lt (show us.length ≤ 5000 by omega) (by decide), us ++ [z], by rw [upd_same, List.map_append]; rfl, fun t' ht' => ?_, by rw [List.length_append]; show us.length + 1 ≤ _; omega, fun b o nb e => by rw [upd_ne nb]; exact s4 _ _ (k3 _ _ nb e)⟩
              rcases List.mem_append.mp ht' with ht' | ht'
              · obtain ⟨g', a1, a2, a3⟩ := hus t' ht'
                have a4 := s4 _ _ a1
                refine ⟨g', ?_, a2, a3⟩
                rw [upd_ne (ne_of a4 eD4 (by intro z; cases z))]
                exact a4
              · rw [List.mem_singleton.mp ht']
                refine ⟨g ++ [x], ?_, by rw [List.length_append, lg]; rfl, fun y hy => ?_⟩
                · rw [upd_ne (ne_of hz eD4 (by intro z; cases z))]
                  exact hz
                · rcases List.mem_append.mp hy with hy | hy
                  · exact gb y hy
                  · rw [List.mem_singleton.mp hy]
                    exact hx
            refine ⟨t, c, ringV g, [.int x], rfl, rfl, SqT.of (sc _ _ ht3), SqT.of upd_same, ?_, fun z => ?_, fun _ z => (by cases z), fun _ _ p ep => ?_⟩
            · unfold ringV
              rw [List.length_map]
              show g.length + 1 ≤ sizeLine
              exact Nat.le_of_lt (small1000 (by omega))
            · refine done c _ sc ?_
              rw [upd_same]
              unfold ringV at z ⊢
              rw [List.map_append, z]
              rfl
            · refine done p _ (sc.trans (same_upd ep)) ?_
              rw [upd_same]
              unfold ringV
              rw [List.map_append]
              rfl
          · rintro H3 ⟨us, eD3, hus, lus, k3⟩
            have lus : us.length ≤ 4 * j + ((n : Int)).toNat := lus
            exact ⟨us, eD3, hus, by omega, k3⟩
      · rintro H2 ⟨us, eD2, hus, lus, k2⟩
        rw [List.length_map] at lus
        exact ⟨_, D, us, rfl, fun b o e => k2 _ _ (ne_of_none (sm _ _ e) eD) (sm _ _ e), eD2, hus, by rw [Nat.pow_succ]; omega⟩
    · rintro σ H1 ⟨y3, R, ts, rfl, sm, eR1, hts, lts⟩
      exact ⟨.ref R, rfl, q R ts _ sm eR1 hts (Nat.le_trans lts (pow4 m4))⟩
end
end Bw
set_option Elab.async false
set_option linter.all false
set_option maxRecDepth 100000
set_option maxHeartbeats 4000000
namespace Bw
open PySem PySem.Spec PyProof.Rows L2
/-! ### rings of an even table -/
def np (l : List Nat) : Nat := l.foldr (· * ·) 1
def fl (F : Nat × Nat → Int) (zs : List (Nat × Nat)) : Int := zs.foldl (fun p z => p * F z) 1
theorem fl_abs (F : Nat × Nat → Int) : ∀ (zs : List (Nat × Nat)) (c : Int), (zs.foldl (fun p z => p * F z) c).natAbs = c.natAbs * np (zs.map fun z => (F z).natAbs)
  | [], c => (Nat.mul_one _).symm
  | z :: zs, c => by
    show (zs.foldl (fun p z => p * F z) (c * F z)).natAbs = c.natAbs * ((F z).natAbs * np (zs.map fun z => (F z).natAbs))
    rw [fl_abs F zs, Int.natAbs_mul, Nat.mul_assoc]
theorem np_bal (D : Nat → Nat) (F G : Nat × Nat → Nat) : ∀ zs : List (Nat × Nat), (∀ z ∈ zs, D z.1 * F z = D z.2 * G z) → np ((zs.map (·.1)).map D) * np (zs.map F) = np ((zs.map (·.2)).map D) * np (zs.map G)
  | [], _ => rfl
  | z :: zs, h => by
    have h1 := h z (List.mem_cons_self ..)
    have ih := np_bal D F G zs fun y hy => h y (List.mem_cons_of_mem _ hy)
    show (D z.1 * np ((zs.map (·.1)).map D)) * (F z * np (zs.map F)) = (D z.2 * np ((zs.map (·.2)).map D)) * (G z * np (zs.map G))
    rw [Nat.mul_mul_mul_comm, h1, ih, Nat.mul_mul_mul_comm]
theorem np_append (l m : List Nat) : np (l ++ m) = np l * np m := by
  induction l with
  | nil => exact (Nat.one_mul _).symm
  | cons x l ih =>
    show x * np (l ++ m) = x * np l * np m
    rw [ih, Nat.mul_assoc]
theorem np_pos : ∀ l : List Nat, (∀ x ∈ l, 0 < x) → 0 < np l
  | [], _ => Nat.one_pos
  | x :: l, h => Nat.mul_pos (h x (List.mem_cons_self ..)) (np_pos l fun y hy => h y (List.mem_cons_of_mem _ hy))
def rot (g : List Nat) : List Nat := g.drop 1 ++ g.take 1
theorem rot_len (g : List Nat) : (rot g).length = g.length := by
  unfold rot
  rw [List.length_append, List.length_drop, List.length_take]
  omega
theorem rot_mem {g : List Nat} {x : Nat} (h : x ∈ rot g) : x ∈ g := by
  rcases List.mem_append.mp h with h | h
  · exact List.mem_of_mem_drop h
  · exact List.mem_of_mem_take h
theorem np_rot (D : Nat → Nat) (g : List Nat) : np ((rot g).map D) = np (g.map D) := by
  unfold rot
  rw [List.map_append, np_append, Nat.mul_comm, ← np_append, ← List.map_append, List.take_append_drop]
theorem ring_math {rows : List (List Int)} {n : Nat} (O : TabOk rows n) {g : List Nat} (hg : ∀ x ∈ g, x < n) :
    (fl (fun z => ent rows z.1 z.2) (g.zip (rot g))).natAbs = (fl (fun z => ent rows z.2 z.1) (g.zip (rot g))).natAbs := by
  obtain ⟨d, d0, dv⟩ := O.even
  have b := np_bal (fun x => (d x).natAbs) (fun z => (ent rows z.1 z.2).natAbs) (fun z => (ent rows z.2 z.1).natAbs) (g.zip (rot g)) (fun z hz => by
    have h1 := hg _ (List.of_mem_zip hz).1
    have h2 := hg _ (rot_mem (List.of_mem_zip hz).2)
    have e := congrArg Int.natAbs (dv _ _ h1 h2)
    rw [Int.natAbs_neg, Int.natAbs_mul, Int.natAbs_mul] at e
    exact e)
  rw [List.map_fst_zip (by rw [rot_len]; exact Nat.le_refl _), List.map_snd_zip (by rw [rot_len]; exact Nat.le_refl _), np_rot] at b
  have pos : 0 < np (g.map fun x => (d x).natAbs) := np_pos _ fun x hx => by
    obtain ⟨y, hy, rfl⟩ := List.mem_map.mp hx
    have := d0 y (hg y hy)
    omega
  have c := Nat.eq_of_mul_eq_mul_left pos b
  unfold fl
  rw [fl_abs (fun z => ent rows z.1 z.2), fl_abs (fun z => ent rows z.2 z.1), c]
theorem fl_take {F : Nat × Nat → Int} {zs : List (Nat × Nat)} {i : Nat} {z : Nat × Nat} (h : zs[i]? = some z) : fl F (zs.take (i + 1)) = fl F (zs.take i) * F z := by
  unfold fl
  rw [List.take_add_one, h, List.foldl_append]
  rfl
theorem abs_if (x : Int) : (if x < 0 then -x else x) = (x.natAbs : Int) := by
  split <;> omega
section
variable {P : Program} {w : World} {K : PySem.W.Frag} {mg : Str → Option Value} {base : Heap}
abbrev s_ring_bars : Stmt := topS 29
abbrev n_ring_bars : List Str := ["table", "ring", "onward", "back", "i", "j"]
theorem sc_ring_bars : FnScope n_ring_bars ["table", "ring"] (defScope s_ring_bars) := ⟨rfl, rfl, rfl, by decide +kernel, rfl, by decide +kernel, by decide +kernel⟩
def spRing : Sp := fun vs H Q _ => ∃ (a t : Addr) (rows : List (List Int)) (n : Nat) (g : List Nat), vs = [.ref a, .ref t] ∧ TabAt H a rows ∧ TabOk rows n ∧ H t = some (.tup (ringV g)) ∧ 2 ≤ g.length ∧ g.length ≤ 4 ∧ (∀ x ∈ g, x < n) ∧ ∀ H', Same H H' → Q (.bl false) H'
theorem cut_ring1 {g : List Nat} (h : 2 ≤ g.length) : cutV (ringV g) (some 1) none = ringV (g.drop 1) := by
  unfold cutV ringV
  rw [show HT.sIx (g.map fun x => V.int (x : Nat)).length 0 (some 1) = min 1 (g.map fun x => V.int (x : Nat)).length from HT.sIx_nat _ 0 1, HT.sIx_none, List.length_map, Nat.min_eq_left (by omega), List.map_drop, List.take_of_length_le]
  rw [List.length_drop, List.length_map]
  exact Nat.le_refl _
theorem cut_ring2 {g : List Nat} (h : 2 ≤ g.length) : cutV (ringV g) none (some 1) = ringV (g.take 1) := by
  unfold cutV ringV
  rw [show HT.sIx (g.map fun x => V.int (x : Nat)).length (g.map fun x => V.int (x : Nat)).length (some 1) = min 1 (g.map fun x => V.int (x : Nat)).length from HT.sIx_nat _ _ 1, HT.sIx_none, List.length_map, Nat.min_eq_left (by omega), List.map_take, List.drop_zero]
theorem ringV_len (g : List Nat) : (ringV g).length = g.length := by
  unfold ringV
  rw [List.length_map]
theorem ringV_at {g : List Nat} {i : Nat} {y : V} (h : (ringV g)[i]? = some y) : ∃ x, g[i]? = some x ∧ y = .int (x : Nat) := by
  unfold ringV at h
  rw [List.getElem?_map] at h
  cases e : g[i]? with
  | none =>
    rw [e] at h
    cases h
  | some u =>
    rw [e] at h
    exact ⟨u, rfl, (Option.some.inj h).symm⟩
theorem ok_ring {f : Addr} {fd : FuncData} {k : Nat} (F : Fun K "ring_bars" "ring_bars" s_ring_bars f fd) (T : Tx mg) : FnOk P w K mg base CX0 (k + 1) f fd ["table", "ring"] spRing := by
  refine F.ok sc_ring_bars (fun vs H Q E h => ?_) (fun cdv A outer s H vs Q E hr h => ?_)
  · obtain ⟨a, t, rows, n, g, rfl, _⟩ := h
    rfl
  · obtain ⟨a, t, rows, n, g, rfl, hT, O, ht, g2, g4, hg, q⟩ := h
    refine ⟨_, (pss_cons (ps_set (i := 2) sc_ring_bars.nd rfl (.inl rfl) pe_int)
  (pss_cons (ps_set (i := 3) sc_ring_bars.nd rfl (.inl rfl) pe_int)
  (pss_cons (ps_for PassesOwn.never rfl (RZ.pi_zipA (by rfl) T.zip (pa_cons (pv 1) (pa_cons (pe_op (o_cat (K := K)) (pe_slice (l_tup (K := K)) (pv 1) (po_some pe_int) po_none) (pe_slice (l_tup (K := K)) (pv 1) po_none (po_some pe_int))) pa_nil))) (pg_tup rfl (pgs_cons (pg_name (i := 4) sc_ring_bars.nd rfl (.inl rfl)) (pgs_cons (pg_name (i := 5) sc_ring_bars.nd rfl (.inl rfl)) pgs_nil)))
    (pss_cons (ps_aug (i := 2) sc_ring_bars.nd rfl (.inl rfl) (pe_ix (i_tup (K := K)) (pe_ix (i_tup (K := K)) (pv 0) (pv 4) (fun _ _ => rfl)) (pv 5) (fun _ _ => rfl)) ip_mul)
    (pss_one (ps_aug (i := 3) sc_ring_bars.nd rfl (.inl rfl) (pe_ix (i_tup (K := K)) (pe_ix (i_tup (K := K)) (pv 0) (pv 5) (fun _ _ => rfl)) (pv 4) (fun _ _ => rfl)) ip_mul))))
  (pss_one (ps_ret (pe_cmpR op_ne (pe_callB call_abs (by rfl) T.abs (by decide +kernel) (pa_cons (pv 2) pa_nil)) (pe_callB call_abs (by rfl) T.abs (by decide +kernel) (pa_cons (pv 3) pa_nil)) (nomark _))))))), ?_⟩
    -- zip(ring, ring[1:] + ring[:1])
    refine ⟨.ref t, rfl, .ref t, rfl, 1, rfl, t, _, rfl, SqT.of ht, fun z => ?_, fun _ c ec => ?_⟩
    · have z1 := z.1
      rw [show HT.sIx (ringV g).length 0 (some 1) = min 1 (ringV g).length from HT.sIx_nat _ 0 1, ringV_len] at z1
      omega
    have s1 := same_upd (o := .tup (cutV (ringV g) (some 1) none)) ec
    refine ⟨.ref t, rfl, 1, rfl, t, _, rfl, SqT.of (s1 _ _ ht), fun z => ?_, fun _ e ee => ?_⟩
    · have z1 := z.2
      rw [show HT.sIx (ringV g).length (ringV g).length (some 1) = min 1 (ringV g).length from HT.sIx_nat _ _ 1, ringV_len] at z1
      omega
    have s2 := same_upd (o := .tup (cutV (ringV g) none (some 1))) ee
    have hc := s2 _ _ (upd_same (H := H) (a := c) (o := .tup (cutV (ringV g) (some 1) none)))
    have hlc : (cutV (ringV g) (some 1) none).length = g.length - 1 := by rw [cut_ring1 g2, ringV_len, List.length_drop]
    have hle : (cutV (ringV g) none (some 1)).length = 1 := by
      rw [cut_ring2 g2, ringV_len, List.length_take]
      omega
    refine ⟨c, e, _, _, rfl, rfl, SqT.of hc, SqT.of upd_same, ?_, fun z => ?_, fun _ z => ?_, fun _ _ p ep => ?_⟩
    · rw [hlc, hle]
      exact Nat.le_of_lt (small1000 (by omega))
    · rw [z] at hlc
      have : 0 = g.length - 1 := hlc
      omega
    · rw [z] at hle
      cases hle
    have s3 := same_upd (o := .tup (cutV (ringV g) (some 1) none ++ cutV (ringV g) none (some 1))) ep
    have hp : (upd (upd (upd H c (.tup (cutV (ringV g) (some 1) none))) e (.tup (cutV (ringV g) none (some 1)))) p (.tup (cutV (ringV g) (some 1) none ++ cutV (ringV g) none (some 1)))) p = some (.tup (ringV (rot g))) := by
      rw [upd_same, cut_ring1 g2, cut_ring2 g2]
      unfold rot ringV
      rw [List.map_append]
    have s13 := s1.trans (s2.trans s3)
    generalize (upd (upd (upd H c (.tup (cutV (ringV g) (some 1) none))) e (.tup (cutV (ringV g) none (some 1)))) p (.tup (cutV (ringV g) (some 1) none ++ cutV (ringV g) none (some 1)))) = H3 at hp s13
    have ht3 := s13 _ _ ht
    have hT3 := hT.same s13
    refine ⟨t, p, ringV g, ringV (rot g), rfl, .inr ⟨SqT.of ht3, SqT.of hp, RZ.for_zipT (by rw [ringV_len, ringV_len, rot_len]) (fun i σ H' => ∃ y4 y5 : Option V, σ = [some (.ref a), some (.ref t), some (.int (fl (fun z => ent rows z.1 z.2) ((g.zip (rot g)).take i))), some (.int (fl (fun z => ent rows z.2 z.1) ((g.zip (rot g)).take i))), y4, y5] ∧ Same H3 H') ⟨none, none, rfl, .refl _⟩ (fun i σ H' ⟨_, _, _, s⟩ => ⟨SqT.of (s _ _ ht3), SqT.of (s _ _ hp)⟩) ?_ ?_⟩⟩
    · rintro i vx vy Tt σ H4 hx hy ⟨y4, y5, rfl, s4⟩ nT
      obtain ⟨x, ex, rfl⟩ := ringV_at hx
      obtain ⟨y, ey, rfl⟩ := ringV_at hy
      have hxn := hg x (List.mem_of_getElem? ex)
      have hyn := hg y (rot_mem (List.mem_of_getElem? ey))
      have hl := O.len
      have hz : (g.zip (rot g))[i]? = some (x, y) := by
        rw [List.getElem?_zip_eq_some]
        exact ⟨ex, ey⟩
      have s5 := s4.trans (same_upd (o := .tup [.int x, .int y]) nT)
      have hT5 := hT3.same s5
      obtain ⟨as, bx, e1, e2, e3⟩ := hT5.row (show x < rows.length by omega)
      obtain ⟨as', by', e1', e2', e3'⟩ := hT5.row (show y < rows.length by omega)
      have bd1 := ent_bd O (show x < rows.length by omega) hyn
      have bd2 := ent_bd O (show y < rows.length by omega) hxn
      refine ⟨Tt, [.int x, .int y], rfl, SqT.of upd_same, rfl, .int x, [.int y], rfl, .int y, [], rfl, rfl, ?_⟩
      refine ⟨_, rfl, .ref a, rfl, .int x, rfl, a, _, x, .ref bx, rfl, rfl, SqT.of e1, atI_nat e2, .int y, rfl, bx, _, y, _, rfl, rfl, SqT.of e3, atI_nat (ent_get O.wide (by omega) hyn), _, _, rfl, rfl, .inr ⟨by omega, by omega⟩, ?_⟩
      refine ⟨_, rfl, .ref a, rfl, .int y, rfl, a, _, y, .ref by', rfl, rfl, SqT.of e1', atI_nat e2', .int x, rfl, by', _, x, _, rfl, rfl, SqT.of e3', atI_nat (ent_get O.wide (by omega) hxn), _, _, rfl, rfl, .inr ⟨by omega, by omega⟩, ?_⟩
      refine ⟨some (.int x), some (.int y), ?_, s5⟩
      rw [fl_take hz, fl_take hz]
      rfl
    · rintro σ H4 ⟨y4, y5, rfl, s4⟩
      have et : (g.zip (rot g)).take (ringV g).length = g.zip (rot g) := List.take_of_length_le (by rw [ringV_len, List.length_zip]; omega)
      rw [et]
      have m := ring_math O hg
      refine ⟨_, rfl, _, rfl, _, rfl, _, rfl, rfl, ?_⟩
      rw [abs_if, abs_if, m, decide_eq_true rfl]
      exact q _ (s13.trans s4)
/-! ### barred -/
abbrev s_barred : Stmt := topS 30
abbrev n_barred : List Str := ["table", "many", "i", "j", "ring"]
theorem sc_barred : FnScope n_barred ["table"] (defScope s_barred) := ⟨rfl, rfl, rfl, by decide +kernel, rfl, by decide +kernel, by decide +kernel⟩
theorem ok_barred {f : Addr} {fd : FuncData} (F : Fun K "barred" "barred" s_barred f fd) (T : Tx mg) (c_check_form : Cal P w K mg base CX0 3 "check_form" ["table"] spGood) (c_bud_count : Cal P w K mg base CX0 1 "bud_count" ["table"] spBuds)
    (c_pair_bars : Cal P w K mg base CX0 1 "pair_bars" ["table", "i", "j"] spPair) (c_unlike_rows : Cal P w K mg base CX0 1 "unlike_rows" ["many", "length"] spUnlike) (c_ring_bars : Cal P w K mg base CX0 1 "ring_bars" ["table", "ring"] spRing) : FnOk P w K mg base CX0 4 f fd ["table"] spGood := by
  refine F.ok sc_barred (fun vs H Q E h => ?_) (fun cdv A outer s H vs Q E hr h => ?_)
  · obtain ⟨a, rows, n, rfl, _⟩ := h
    rfl
  · obtain ⟨a, rows, n, rfl, hT, O, q⟩ := h
    have hr1 := hr.mono (show 1 ≤ 3 by decide)
    refine ⟨_, (pss_cons (ps_expr (pe_cal c_check_form hr (by rfl) (pa_cons (pv 0) pa_nil)))
  (pss_cons (ps_set (i := 1) sc_barred.nd rfl (.inl rfl) (pe_cal c_bud_count hr1 (by rfl) (pa_cons (pv 0) pa_nil)))
  (pss_cons (ps_for PassesOwn.never rfl (pi_range1 (by rfl) T.range (pa_cons (pv 1) pa_nil)) (pg_name (i := 2) sc_barred.nd rfl (.inl rfl))
    (pss_one (ps_for PassesOwn.never rfl (pi_range2 (by rfl) T.range (pa_cons (pv 2) (pa_cons (pv 1) pa_nil))) (pg_name (i := 3) sc_barred.nd rfl (.inl rfl))
      (pss_one (ps_if (pt_val (pe_cal c_pair_bars hr1 (by rfl) (pa_cons (pv 0) (pa_cons (pv 2) (pa_cons (pv 3) pa_nil)))))
        (pss_one (ps_ret (pe_tup (pa_cons (pv 2) (pa_cons (pv 3) pa_nil)))))
        pss_nil)))))
  (pss_cons (ps_for PassesOwn.never rfl (p_list (K := K) (pe_op op_cat (pe_cal c_unlike_rows hr1 (by rfl) (pa_cons (pv 1) (pa_cons pe_int pa_nil))) (pe_cal c_unlike_rows hr1 (by rfl) (pa_cons (pv 1) (pa_cons pe_int pa_nil))))) (pg_name (i := 4) sc_barred.nd rfl (.inl rfl))
    (pss_one (ps_if (pt_val (pe_cal c_ring_bars hr1 (by rfl) (pa_cons (pv 0) (pa_cons (pv 4) pa_nil))))
      (pss_one (ps_ret (pv 4)))
      pss_nil)))
  (pss_one (ps_ret pe_non)))))), ?_⟩
    have h1 := O.n1
    have h2 := O.n4
    have h3 := O.len
    refine ⟨.ref a, rfl, a, rows, n, rfl, hT, O, fun H1 s1 => ?_⟩
    refine ⟨.ref a, rfl, a, rows, n, rfl, hT.same s1, by omega, O.wide, ?_⟩
    refine ⟨.int n, rfl, n, rfl, by omega, by omega, for_range (fun i σ H' => ∃ y2 y3 : Option V, σ = [some (.ref a), some (.int n), y2, y3, none] ∧ Same H H') ⟨none, none, rfl, s1⟩ ?_ ?_⟩
    · rintro i σ H2 hi ⟨y2, y3, rfl, s2⟩
      have hi : i < n := hi
      have e0 : (0 : Int) + (i : Int) = (i : Int) := by omega
      rw [e0]
      refine ⟨_, rfl, _, rfl, i, n, rfl, ⟨by omega, by omega, by omega, by omega⟩, for_range (fun j σ H' => ∃ y3 : Option V, σ = [some (.ref a), some (.int n), some (.int i), y3, none] ∧ Same H H') ⟨y3, rfl, s2⟩ ?_ ?_⟩
      · rintro j σ H3 hj ⟨y3, rfl, s3⟩
        obtain ⟨J, hJ⟩ : ∃ J : Nat, (i : Int) + (j : Int) = (J : Int) := ⟨i + j, by omega⟩
        rw [hJ]
        exact ⟨_, rfl, _, rfl, _, rfl, a, rows, n, i, J, rfl, hT.same s3, O, hi, by omega, false, rfl, iteF ⟨_, rfl, s3⟩⟩
      · rintro σ H3 ⟨y3, rfl, s3⟩
        exact ⟨_, y3, rfl, s3⟩
    · rintro σ H2 ⟨y2, y3, rfl, s2⟩
      refine ⟨.int n, rfl, n, 3, rfl, h2, by decide, fun p ts H3 s3 hp hts l3 => ?_⟩
      refine ⟨.int n, rfl, n, 4, rfl, h2, by decide, fun p' ts' H4 s4 hp' hts' l4 => ?_⟩
      refine ⟨p, p', _, _, rfl, rfl, s4 _ _ hp, hp', ?_, fun R eR => ?_⟩
      · rw [List.length_map, List.length_map]
        exact Nat.le_trans (show ts.length + ts'.length ≤ 1000 by omega) (by decide)
      have sR := same_upd (o := .lst (ts.map V.ref ++ ts'.map V.ref)) eR
      refine ⟨R, rfl, ⟨_, SqL.of upd_same⟩, for_list (K := K) (a := R) (xs := ts.map V.ref ++ ts'.map V.ref) (fun i σ H' => ∃ y4 : Option V, σ = [some (.ref a), some (.int n), y2, y3, y4] ∧ Same (upd H4 R (.lst (ts.map V.ref ++ ts'.map V.ref))) H') ⟨none, rfl, .refl _⟩ (fun i σ H' _ ⟨_, _, s⟩ => SqL.of (s _ _ upd_same)) ?_ ?_⟩
      · rintro i v σ H5 hv ⟨y4, rfl, s5⟩
        obtain ⟨t, g, rfl, hg, gl, gb⟩ : ∃ (t : Addr) (g : List Nat), v = .ref t ∧ H4 t = some (.tup (ringV g)) ∧ (g.length = 3 ∨ g.length = 4) ∧ ∀ x ∈ g, x < n := by
          rcases List.mem_append.mp (List.mem_of_getElem? hv) with h | h
          · obtain ⟨t, ht, e⟩ := List.mem_map.mp h
            subst e
            obtain ⟨g, a1, a2, a3⟩ := hts t ht
            exact ⟨t, g, rfl, s4 _ _ a1, .inl a2, a3⟩
          · obtain ⟨t, ht, e⟩ := List.mem_map.mp h
            subst e
            obtain ⟨g, a1, a2, a3⟩ := hts' t ht
            exact ⟨t, g, rfl, a1, .inr a2, a3⟩
        refine ⟨_, rfl, _, rfl, a, t, rows, n, g, rfl, hT.same (s2.trans (s3.trans (s4.trans (sR.trans s5)))), O, s5 _ _ (sR _ _ hg), by omega, by omega, gb, fun H6 s6 => ?_⟩
        exact ⟨false, rfl, iteF ⟨_, rfl, s5.trans s6⟩⟩
      · rintro σ H5 ⟨y4, rfl, s5⟩
        exact q _ (s2.trans (s3.trans (s4.trans (sR.trans s5))))
/-! ### check_table -/
abbrev s_check_table : Stmt := topS 25
abbrev n_check_table : List Str := ["table", "ring"]
theorem sc_check_table : FnScope n_check_table ["table"] (defScope s_check_table) := ⟨rfl, rfl, rfl, by decide +kernel, rfl, by decide +kernel, by decide +kernel⟩
theorem ok_check {f : Addr} {fd : FuncData} (F : Fun K "check_table" "check_table" s_check_table f fd) (T : Tx mg) (c_barred : Cal P w K mg base CX0 4 "barred" ["table"] spGood) : FnOk P w K mg base CX0 5 f fd ["table"] spGood := by
  refine F.ok sc_check_table (fun vs H Q E h => ?_) (fun cdv A outer s H vs Q E hr h => ?_)
  · obtain ⟨a, rows, n, rfl, _⟩ := h
    rfl
  · obtain ⟨a, rows, n, rfl, hT, O, q⟩ := h
    refine ⟨_, (pss_cons (ps_set (i := 1) sc_check_table.nd rfl (.inl rfl) (pe_cal c_barred hr (by rfl) (pa_cons (pv 0) pa_nil)))
  (pss_one (ps_if (pt_cmpR op_notN (pv 1) pe_non (nomark _))
    (pss_one ps_never)
    pss_nil))), ?_⟩
    refine ⟨.ref a, rfl, a, rows, n, rfl, hT, O, fun H1 s1 => ?_⟩
    exact ⟨.non, rfl, rfl, _, rfl, iteF (q _ s1)⟩
end
end Bw
set_option Elab.async false
set_option linter.all false
set_option maxRecDepth 100000
set_option maxHeartbeats 4000000
namespace Bw
open PySem PySem.Spec PyProof.Rows L2
/-! ### walks whose turn is any reading -/
theorem it_listS {K : PySem.W.Frag} {a : Addr} {xs : List V} {H1 : Hp} {Qd : Hp → Prop} {Body : V → Hp → (Hp → Prop) → Prop} (Pv : Nat → Hp → Prop) (h0 : Pv 0 H1) (hl : ∀ i H, i ≤ xs.length → Pv i H → SqL K H a xs)
    (hs : ∀ i x H, xs[i]? = some x → Pv i H → Body x H (Pv (i + 1))) (hd : ∀ H, Pv xs.length H → Qd H) :
    ∃ W : Nat → Nat → Hp → Prop, (∃ m, W 0 m H1) ∧ ∀ i m H, W i m H → ((Itl K a).stop i H ∧ Qd H) ∨ ((Itl K a).go i H ∧ ∃ Nx : Hp → Prop, (∀ H', Nx H' → ∃ m', m' < m ∧ W (i + 1) m' H') ∧ ∀ x H', (Itl K a).yld i H x H' → Body x H' Nx) := by
  refine ⟨fun i m H => m = xs.length - i ∧ i ≤ xs.length ∧ Pv i H, ⟨xs.length, by simp, Nat.zero_le _, h0⟩, ?_⟩
  rintro i m H ⟨rfl, hi, p⟩
  have q := hl i H hi p
  by_cases hlt : i < xs.length
  · refine .inr ⟨⟨xs, xs[i], q, by simp [hlt]⟩, Pv (i + 1), fun H' p' => ⟨xs.length - (i + 1), by omega, rfl, hlt, p'⟩, fun x H' y => ?_⟩
    obtain ⟨e, y⟩ := y
    subst e
    exact hs i x _ (y _ q) p
  · exact .inl ⟨⟨xs, q, by omega⟩, hd H (by
      have : i = xs.length := by omega
      rw [this] at p
      exact p)⟩
theorem it_rangeS {lo : Int} {n : Nat} {H1 : Hp} {Qd : Hp → Prop} {Body : V → Hp → (Hp → Prop) → Prop} (Pv : Nat → Hp → Prop) (h0 : Pv 0 H1) (hs : ∀ i H, i < n → Pv i H → Body (.int (lo + i)) H (Pv (i + 1))) (hd : ∀ H, Pv n H → Qd H) :
    ∃ W : Nat → Nat → Hp → Prop, (∃ m, W 0 m H1) ∧ ∀ i m H, W i m H → ((Itr lo n).stop i H ∧ Qd H) ∨ ((Itr lo n).go i H ∧ ∃ Nx : Hp → Prop, (∀ H', Nx H' → ∃ m', m' < m ∧ W (i + 1) m' H') ∧ ∀ x H', (Itr lo n).yld i H x H' → Body x H' Nx) := by
  refine ⟨fun i m H => m = n - i ∧ i ≤ n ∧ Pv i H, ⟨n, by simp, Nat.zero_le _, h0⟩, ?_⟩
  rintro i m H ⟨rfl, hi, p⟩
  by_cases hlt : i < n
  · refine .inr ⟨hlt, Pv (i + 1), fun H' p' => ⟨n - (i + 1), by omega, rfl, hlt, p'⟩, fun x H' y => ?_⟩
    obtain ⟨e, y⟩ := y
    subst e y
    exact hs i _ hlt p
  · exact .inl ⟨(by show n ≤ i; omega), hd H (by
      have : i = n := by omega
      rw [this] at p
      exact p)⟩
theorem all_repS (n : Nat) : (List.replicate n true).all id = true := by
  rw [List.all_eq_true]
  intro x hx
  exact List.eq_of_mem_replicate hx
theorem it_zipT {K : PySem.W.Frag} {a b : Addr} {xs ys : List V} {H1 : Hp} {Qd : Hp → Prop} {Body : V → Hp → (Hp → Prop) → Prop} (hl : xs.length = ys.length) (Pv : Nat → Hp → Prop) (h0 : Pv 0 H1) (hq : ∀ i H, Pv i H → SqT K H a xs ∧ SqT K H b ys)
    (hs : ∀ (i : Nat) (x y : V) (T : Addr) (H : Hp), xs[i]? = some x → ys[i]? = some y → Pv i H → H T = none → Body (.ref T) (upd H T (.tup [x, y])) (Pv (i + 1))) (hd : ∀ H, Pv xs.length H → Qd H) :
    ∃ W : Nat → Nat → Hp → Prop, (∃ m, W 0 m H1) ∧ ∀ i m H, W i m H → ((RZ.ItzT K a b).stop i H ∧ Qd H) ∨ ((RZ.ItzT K a b).go i H ∧ ∃ Nx : Hp → Prop, (∀ H', Nx H' → ∃ m', m' < m ∧ W (i + 1) m' H') ∧ ∀ x H', (RZ.ItzT K a b).yld i H x H' → Body x H' Nx) := by
  refine ⟨fun i m H => m = xs.length - i ∧ i ≤ xs.length ∧ Pv i H, ⟨xs.length, rfl, Nat.zero_le _, h0⟩, ?_⟩
  rintro i m H ⟨rfl, hi, p⟩
  obtain ⟨qx, qy⟩ := hq i H p
  by_cases hlt : i < xs.length
  · have hx : xs[i]? = some xs[i] := List.getElem?_eq_getElem hlt
    have hy : ys[i]? = some ys[i] := List.getElem?_eq_getElem (by omega)
    refine .inr ⟨⟨xs, ys, _, _, qx, qy, hx, hy⟩, Pv (i + 1), fun H' p' => ⟨xs.length - (i + 1), by omega, rfl, hlt, p'⟩, fun v H' y => ?_⟩
    obtain ⟨T, x', y', rfl, hT, rfl, f1, f2⟩ := y
    exact hs i x' y' T H (f1 xs qx) (f2 ys qy) p hT
  · have e : i = xs.length := by omega
    subst e
    exact .inl ⟨⟨xs, ys, qx, qy, Or.inl (Nat.le_refl _)⟩, hd H p⟩
theorem it_zipL {K : PySem.W.Frag} {a b : Addr} {xs ys : List V} {H1 : Hp} {Qd : Hp → Prop} {Body : V → Hp → (Hp → Prop) → Prop} (hl : xs.length = ys.length) (Pv : Nat → Hp → Prop) (h0 : Pv 0 H1) (hq : ∀ i H, Pv i H → SqL K H a xs ∧ SqL K H b ys)
    (hs : ∀ (i : Nat) (x y : V) (T : Addr) (H : Hp), xs[i]? = some x → ys[i]? = some y → Pv i H → H T = none → Body (.ref T) (upd H T (.tup [x, y])) (Pv (i + 1))) (hd : ∀ H, Pv xs.length H → Qd H) :
    ∃ W : Nat → Nat → Hp → Prop, (∃ m, W 0 m H1) ∧ ∀ i m H, W i m H → ((Itz K a b).stop i H ∧ Qd H) ∨ ((Itz K a b).go i H ∧ ∃ Nx : Hp → Prop, (∀ H', Nx H' → ∃ m', m' < m ∧ W (i + 1) m' H') ∧ ∀ x H', (Itz K a b).yld i H x H' → Body x H' Nx) := by
  refine ⟨fun i m H => m = xs.length - i ∧ i ≤ xs.length ∧ Pv i H, ⟨xs.length, rfl, Nat.zero_le _, h0⟩, ?_⟩
  rintro i m H ⟨rfl, hi, p⟩
  obtain ⟨qx, qy⟩ := hq i H p
  by_cases hlt : i < xs.length
  · have hx : xs[i]? = some xs[i] := List.getElem?_eq_getElem hlt
    have hy : ys[i]? = some ys[i] := List.getElem?_eq_getElem (by omega)
    refine .inr ⟨⟨xs, ys, _, _, qx, qy, hx, hy⟩, Pv (i + 1), fun H' p' => ⟨xs.length - (i + 1), by omega, rfl, hlt, p'⟩, fun v H' y => ?_⟩
    obtain ⟨T, x', y', rfl, hT, rfl, f1, f2⟩ := y
    exact hs i x' y' T H (f1 xs qx) (f2 ys qy) p hT
  · have e : i = xs.length := by omega
    subst e
    exact .inl ⟨⟨xs, ys, qx, qy, Or.inl (Nat.le_refl _)⟩, hd H p⟩
/-- alike data, at most n deep -/
def Al : Nat → Hp → V → V → Prop
  | 0, _, _, _ => False
  | n + 1, H, x, y => (x = y ∧ ((∃ i, x = .int i) ∨ (∃ z, x = .str z) ∨ (∃ b, x = .bl b) ∨ x = .non)) ∨
    (∃ (a b : Addr) (xs ys : List V), x = .ref a ∧ y = .ref b ∧ H a = some (.tup xs) ∧ H b = some (.tup ys) ∧ xs.length = ys.length ∧ xs.length ≤ 1000 ∧ ∀ (j : Nat) (u v : V), xs[j]? = some u → ys[j]? = some v → Al n H u v) ∨
    (∃ (a b : Addr) (xs ys : List V), x = .ref a ∧ y = .ref b ∧ H a = some (.lst xs) ∧ H b = some (.lst ys) ∧ xs.length = ys.length ∧ xs.length ≤ 1000 ∧ ∀ (j : Nat) (u v : V), xs[j]? = some u → ys[j]? = some v → Al n H u v)
theorem Al.same : ∀ {n : Nat} {H H' : Hp} {x y : V}, Same H H' → Al n H x y → Al n H' x y
  | 0, _, _, _, _, _, h => h
  | n + 1, H, H', x, y, s, h => by
    rcases h with h | ⟨a, b, xs, ys, h1, h2, h3, h4, h5, h6, h7⟩ | ⟨a, b, xs, ys, h1, h2, h3, h4, h5, h6, h7⟩
    · exact .inl h
    · exact .inr (.inl ⟨a, b, xs, ys, h1, h2, s _ _ h3, s _ _ h4, h5, h6, fun j u v e1 e2 => (h7 j u v e1 e2).same s⟩)
    · exact .inr (.inr ⟨a, b, xs, ys, h1, h2, s _ _ h3, s _ _ h4, h5, h6, fun j u v e1 e2 => (h7 j u v e1 e2).same s⟩)
section
variable {P : Program} {w : World} {K : PySem.W.Frag} {mg : Str → Option Value} {base : Heap}
abbrev s_law_same : Stmt := topS 37
abbrev n_law_same : List Str := ["_law_found", "_law_due", "_law_one", "_law_two"]
theorem sc_law_same : FnScope n_law_same ["_law_found", "_law_due"] (defScope s_law_same) := ⟨rfl, rfl, rfl, by decide +kernel, rfl, by decide +kernel, by decide +kernel⟩
def spSame (n : Nat) : Sp := fun vs H Q _ => ∃ x y : V, vs = [x, y] ∧ Al n H x y ∧ ∀ H', Same H H' → Q (.bl true) H'
theorem ok_same {f : Addr} {fd : FuncData} (F : Fun K "_law_same" "_law_same" s_law_same f fd) (T : Tx mg) (gf : mg "_law_same" = some (.ref f)) (bf : Binds K fd ["_law_found", "_law_due"] []) : ∀ n : Nat, FnOk P w K mg base CX0 (n + 1) f fd ["_law_found", "_law_due"] (spSame n)
  | 0 => F.ok sc_law_same (fun vs H Q E h => by
      obtain ⟨_, _, _, h, _⟩ := h
      exact h.elim) (fun cdv A outer s H vs Q E hr h => by
      obtain ⟨_, _, _, h, _⟩ := h
      exact h.elim)
  | n + 1 => by
    have c_law_same : Cal P w K mg base CX0 (n + 1) "_law_same" ["_law_found", "_law_due"] (spSame n) := ⟨f, fd, ok_same F T gf bf n, gf, F.kp, bf⟩
    refine F.ok sc_law_same (fun vs H Q E h => ?_) (fun cdv A outer s H vs Q E hr h => ?_)
    · obtain ⟨x, y, rfl, _⟩ := h
      rfl
    · obtain ⟨x, y, rfl, h, q⟩ := h
      refine ⟨_, (pss_cons (ps_if (pt_val (pe_callB (c_isi (K := K)) (by rfl) T.isinstance (by decide +kernel) (pa_cons (pv 1) (pa_cons (pe_bltn (v := .ty "dict") (by rfl) T.dict (by decide +kernel) rfl) pa_nil))))
    pss_never
    pss_nil)
  (pss_cons (ps_if (pt_cmpR op_ne (pe_callB (c_isi (K := K)) (by rfl) T.isinstance (by decide +kernel) (pa_cons (pv 1) (pa_cons (pe_bltn (v := .ty "tuple") (by rfl) T.tuple (by decide +kernel) rfl) pa_nil))) (pe_callB (c_isi (K := K)) (by rfl) T.isinstance (by decide +kernel) (pa_cons (pv 0) (pa_cons (pe_bltn (v := .ty "tuple") (by rfl) T.tuple (by decide +kernel) rfl) pa_nil))) (nomark _))
    (pss_one (ps_ret pe_bl))
    pss_nil)
  (pss_cons (ps_if (pt_cmpR op_ne (pe_callB (c_isi (K := K)) (by rfl) T.isinstance (by decide +kernel) (pa_cons (pv 1) (pa_cons (pe_bltn (v := .ty "list") (by rfl) T.list (by decide +kernel) rfl) pa_nil))) (pe_callB (c_isi (K := K)) (by rfl) T.isinstance (by decide +kernel) (pa_cons (pv 0) (pa_cons (pe_bltn (v := .ty "list") (by rfl) T.list (by decide +kernel) rfl) pa_nil))) (nomark _))
    (pss_one (ps_ret pe_bl))
    pss_nil)
  (pss_cons (ps_if (pt_val (pe_callB (c_isiT (K := K)) (by rfl) T.isinstance (by decide +kernel) (pa_cons (pv 1) (pa_cons (pe_tup (pa_cons (pe_bltn (v := .ty "list") (by rfl) T.list (by decide +kernel) rfl) (pa_cons (pe_bltn (v := .ty "tuple") (by rfl) T.tuple (by decide +kernel) rfl) pa_nil))) pa_nil))))
    (pss_one (ps_ret (pe_and (pe_cmpR op_eq (pe_callB (c_len (K := K)) (by rfl) T.len PySem.boot_len (pa_cons (pv 0) pa_nil)) (pe_callB (c_len (K := K)) (by rfl) T.len PySem.boot_len (pa_cons (pv 1) pa_nil)) (nomark _)) (pe_one (pe_callB (c_all (K := K) rfl) (by rfl) T.all (by decide +kernel) (pa_cons (pe_lc (own := [("_law_one", 2), ("_law_two", 3)]) (by rfl) sc_law_same.nd (RZ.pi_zipA (by rfl) T.zip (pa_cons (pv 0) (pa_cons (pv 1) pa_nil))) (blkOk_by (own := [("_law_one", 2), ("_law_two", 3)]) (N := n_law_same) (sc := defScope s_law_same) (by decide +kernel)) (fun _ _ _ _ _ => (g_tup (K := K) (n := 2) rfl (pgs_cons (pg_name (i := 2) sc_law_same.nd rfl (.inl rfl)) (pgs_cons (pg_name (i := 3) sc_law_same.nd rfl (.inl rfl)) pgs_nil)))) (fun _ _ _ _ _ => pts_nil) (fun _ _ _ _ _ => (pe_cal c_law_same hr (by rfl) (pa_cons (pv 2) (pa_cons (pv 3) pa_nil))))) pa_nil))))))
    pss_nil)
  (pss_cons (ps_if (pt_cmpR op_ne (pe_callB (c_isi (K := K)) (by rfl) T.isinstance (by decide +kernel) (pa_cons (pv 1) (pa_cons (pe_bltn (v := .ty "bool") (by rfl) T.bool (by decide +kernel) rfl) pa_nil))) (pe_callB (c_isi (K := K)) (by rfl) T.isinstance (by decide +kernel) (pa_cons (pv 0) (pa_cons (pe_bltn (v := .ty "bool") (by rfl) T.bool (by decide +kernel) rfl) pa_nil))) (nomark _))
    (pss_one (ps_ret pe_bl))
    pss_nil)
  (pss_cons (ps_if (pt_cmpR op_ne (pe_callB (c_isi (K := K)) (by rfl) T.isinstance (by decide +kernel) (pa_cons (pv 1) (pa_cons (pe_bltn (v := .ty "str") (by rfl) T.str (by decide +kernel) rfl) pa_nil))) (pe_callB (c_isi (K := K)) (by rfl) T.isinstance (by decide +kernel) (pa_cons (pv 0) (pa_cons (pe_bltn (v := .ty "str") (by rfl) T.str (by decide +kernel) rfl) pa_nil))) (nomark _))
    (pss_one (ps_ret pe_bl))
    pss_nil)
  (pss_one (ps_ret (pe_and (pe_cmpR op_eq (pe_cmpR op_isN (pv 1) pe_non (nomark _)) (pe_cmpR op_isN (pv 0) pe_non (nomark _)) (nomark _)) (pe_one (pe_cmpR op_eq (pv 0) (pv 1) (nomark _)))))))))))), ?_⟩
      rcases h with ⟨rfl, h⟩ | ⟨a, b, xs, ys, rfl, rfl, ha, hb, hl, hz, hi⟩ | ⟨a, b, xs, ys, rfl, rfl, ha, hb, hl, hz, hi⟩
      · -- numbers, texts, truths, None
        obtain ⟨t, b1, b2, ty, k1, k2, k3, k4, k5, hsc⟩ : ∃ (t : String) (b1 b2 : Bool), (∀ H', TyOf K H' x (.type t)) ∧ kitB t "dict" = some false ∧ kitB t "tuple" = some false ∧ kitB t "list" = some false ∧ kitB t "bool" = some b1 ∧ kitB t "str" = some b2 ∧ scal x x = true := by
          rcases h with ⟨i, rfl⟩ | ⟨z, rfl⟩ | ⟨b, rfl⟩ | rfl
          · exact ⟨"int", false, false, fun _ => .int i, by decide +kernel, by decide +kernel, by decide +kernel, by decide +kernel, by decide +kernel, rfl⟩
          · exact ⟨"str", false, true, fun _ => .str z, by decide +kernel, by decide +kernel, by decide +kernel, by decide +kernel, by decide +kernel, rfl⟩
          · exact ⟨"bool", true, false, fun _ => .bl b, by decide +kernel, by decide +kernel, by decide +kernel, by decide +kernel, by decide +kernel, rfl⟩
          · exact ⟨"NoneType", false, false, fun _ => .non, by decide +kernel, by decide +kernel, by decide +kernel, by decide +kernel, by decide +kernel, rfl⟩
        have kA : PySem.W.kitAny K (.type t) [.type "list", .type "tuple"] = some false := kitAny_cons (kit_ty k3) (fun _ => kitAny_cons (kit_ty k2) (fun _ => kitAny_nil) (fun z => by cases z)) (fun z => by cases z)
        refine ⟨x, rfl, _, _, _, _, false, rfl, .ty "dict", .base (ty _), kit_ty k1, false, rfl, iteF ?_⟩
        refine ⟨x, rfl, _, _, _, _, false, rfl, .ty "tuple", .base (ty _), kit_ty k2, x, rfl, _, _, _, _, false, rfl, .ty "tuple", .base (ty _), kit_ty k2, rfl, _, rfl, iteNS rfl ?_⟩
        refine ⟨x, rfl, _, _, _, _, false, rfl, .ty "list", .base (ty _), kit_ty k3, x, rfl, _, _, _, _, false, rfl, .ty "list", .base (ty _), kit_ty k3, rfl, _, rfl, iteNS rfl ?_⟩
        refine ⟨x, rfl, by show 2 ≤ sizeLine; decide, fun tp etp => ⟨x, tp, _, _, [.type "list", .type "tuple"], false, rfl, upd_same, .cons (.ty "list") (.cons (.ty "tuple") .nil), .base (ty _), kA, false, rfl, iteF ?_⟩⟩
        refine ⟨x, rfl, _, _, _, _, b1, rfl, .ty "bool", .base (ty _), kit_ty k4, x, rfl, _, _, _, _, b1, rfl, .ty "bool", .base (ty _), kit_ty k4, rfl, _, rfl, iteNS rfl ?_⟩
        refine ⟨x, rfl, _, _, _, _, b2, rfl, .ty "str", .base (ty _), kit_ty k5, x, rfl, _, _, _, _, b2, rfl, .ty "str", .base (ty _), kit_ty k5, rfl, _, rfl, iteNS rfl ?_⟩
        refine ⟨x, rfl, rfl, x, rfl, rfl, rfl, true, by rw [decide_eq_true rfl], iteT ⟨x, rfl, x, rfl, hsc, ?_⟩⟩
        rw [decide_eq_true rfl]
        exact q _ (same_upd etp)
      · -- two tuples
        have kA : PySem.W.kitAny K (.type "tuple") [.type "list", .type "tuple"] = some true := kitAny_cons (kit_ty (show kitB "tuple" "list" = some false by decide +kernel)) (fun _ => kitAny_cons (kit_ty (show kitB "tuple" "tuple" = some true by decide +kernel)) (fun z => by cases z) (fun _ => rfl)) (fun z => by cases z)
        refine ⟨.ref b, rfl, _, _, _, _, false, rfl, .ty "dict", .base (.tup hb), kit_ty (by decide +kernel), false, rfl, iteF ?_⟩
        refine ⟨.ref b, rfl, _, _, _, _, true, rfl, .ty "tuple", .base (.tup hb), kit_ty (by decide +kernel), .ref a, rfl, _, _, _, _, true, rfl, .ty "tuple", .base (.tup ha), kit_ty (by decide +kernel), rfl, _, rfl, iteNS rfl ?_⟩
        refine ⟨.ref b, rfl, _, _, _, _, false, rfl, .ty "list", .base (.tup hb), kit_ty (by decide +kernel), .ref a, rfl, _, _, _, _, false, rfl, .ty "list", .base (.tup ha), kit_ty (by decide +kernel), rfl, _, rfl, iteNS rfl ?_⟩
        refine ⟨.ref b, rfl, by show 2 ≤ sizeLine; decide, fun tp etp => ?_⟩
        have s1 := same_upd (o := .tup [.ty "list", .ty "tuple"]) etp
        have ha := s1 _ _ ha
        have hb := s1 _ _ hb
        refine ⟨.ref b, tp, _, _, [.type "list", .type "tuple"], true, rfl, upd_same, .cons (.ty "list") (.cons (.ty "tuple") .nil), .base (.tup hb), kA, true, rfl, iteT ?_⟩
        refine ⟨.ref a, rfl, a, _, rfl, .inr (SqT.of ha), .ref b, rfl, b, _, rfl, .inr (SqT.of hb), rfl, true, by rw [hl, decide_eq_true rfl], iteT ?_⟩
        refine ⟨.ref a, rfl, .ref b, rfl, a, b, xs, ys, rfl, .inr ⟨SqT.of ha, SqT.of hb, fun D eD => ?_⟩⟩
        have naD : a ≠ D := ne_of_none ha eD
        have nbD : b ≠ D := ne_of_none hb eD
        refine it_zipT hl (fun j H' => H' D = some (.lst ((List.replicate j true).map V.bl)) ∧ ∀ c o, c ≠ D → (upd H tp (.tup [.ty "list", .ty "tuple"])) c = some o → H' c = some o) ⟨upd_same, fun c o n e => by rw [upd_ne n]; exact e⟩ (fun j H' ⟨_, k⟩ => ⟨SqT.of (k _ _ naD ha), SqT.of (k _ _ nbD hb)⟩) ?_ ?_
        · rintro j u v Tt H1 hu hv ⟨e1, k1⟩ nT
          have hj := (List.getElem?_eq_some_iff.mp hu).1
          have sT := same_upd (o := .tup [u, v]) nT
          have sA : Same H (upd H1 Tt (.tup [u, v])) := fun c o e => sT _ _ (k1 _ _ (ne_of_none (s1 _ _ e) eD) (s1 _ _ e))
          refine ⟨Tt, [u, v], rfl, SqT.of upd_same, rfl, u, [v], rfl, v, [], rfl, rfl, rfl, u, rfl, v, rfl, u, v, rfl, (hi j u v hu hv).same sA, fun H2 s2 => ?_⟩
          refine ⟨_, s2 _ _ (sT _ _ e1), by rw [List.length_map, List.length_replicate]; exact small1000 (by omega), ?_, fun c o n e => ?_⟩
          · rw [upd_same, List.replicate_succ', List.map_append]
            rfl
          · rw [upd_ne n]
            exact s2 _ _ (sT _ _ (k1 _ _ n e))
        · rintro H1 ⟨e1, k1⟩
          refine ⟨D, _, rfl, SqL.of e1, ?_⟩
          rw [all_repS]
          exact q _ fun c o e => k1 _ _ (ne_of_none (s1 _ _ e) eD) (s1 _ _ e)
      · -- two lists
        have kA : PySem.W.kitAny K (.type "list") [.type "list", .type "tuple"] = some true := kitAny_cons (kit_ty (show kitB "list" "list" = some true by decide +kernel)) (fun z => by cases z) (fun _ => rfl)
        refine ⟨.ref b, rfl, _, _, _, _, false, rfl, .ty "dict", .base (.lst hb), kit_ty (by decide +kernel), false, rfl, iteF ?_⟩
        refine ⟨.ref b, rfl, _, _, _, _, false, rfl, .ty "tuple", .base (.lst hb), kit_ty (by decide +kernel), .ref a, rfl, _, _, _, _, false, rfl, .ty "tuple", .base (.lst ha), kit_ty (by decide +kernel), rfl, _, rfl, iteNS rfl ?_⟩
        refine ⟨.ref b, rfl, _, _, _, _, true, rfl, .ty "list", .base (.lst hb), kit_ty (by decide +kernel), .ref a, rfl, _, _, _, _, true, rfl, .ty "list", .base (.lst ha), kit_ty (by decide +kernel), rfl, _, rfl, iteNS rfl ?_⟩
        refine ⟨.ref b, rfl, by show 2 ≤ sizeLine; decide, fun tp etp => ?_⟩
        have s1 := same_upd (o := .tup [.ty "list", .ty "tuple"]) etp
        have ha := s1 _ _ ha
        have hb := s1 _ _ hb
        refine ⟨.ref b, tp, _, _, [.type "list", .type "tuple"], true, rfl, upd_same, .cons (.ty "list") (.cons (.ty "tuple") .nil), .base (.lst hb), kA, true, rfl, iteT ?_⟩
        refine ⟨.ref a, rfl, a, _, rfl, .inl (SqL.of ha), .ref b, rfl, b, _, rfl, .inl (SqL.of hb), rfl, true, by rw [hl, decide_eq_true rfl], iteT ?_⟩
        refine ⟨.ref a, rfl, .ref b, rfl, a, b, xs, ys, rfl, .inl ⟨SqL.of ha, SqL.of hb, fun D eD => ?_⟩⟩
        have naD : a ≠ D := ne_of_none ha eD
        have nbD : b ≠ D := ne_of_none hb eD
        refine it_zipL hl (fun j H' => H' D = some (.lst ((List.replicate j true).map V.bl)) ∧ ∀ c o, c ≠ D → (upd H tp (.tup [.ty "list", .ty "tuple"])) c = some o → H' c = some o) ⟨upd_same, fun c o n e => by rw [upd_ne n]; exact e⟩ (fun j H' ⟨_, k⟩ => ⟨SqL.of (k _ _ naD ha), SqL.of (k _ _ nbD hb)⟩) ?_ ?_
        · rintro j u v Tt H1 hu hv ⟨e1, k1⟩ nT
          have hj := (List.getElem?_eq_some_iff.mp hu).1
          have sT := same_upd (o := .tup [u, v]) nT
          have sA : Same H (upd H1 Tt (.tup [u, v])) := fun c o e => sT _ _ (k1 _ _ (ne_of_none (s1 _ _ e) eD) (s1 _ _ e))
          refine ⟨Tt, [u, v], rfl, SqT.of upd_same, rfl, u, [v], rfl, v, [], rfl, rfl, rfl, u, rfl, v, rfl, u, v, rfl, (hi j u v hu hv).same sA, fun H2 s2 => ?_⟩
          refine ⟨_, s2 _ _ (sT _ _ e1), by rw [List.length_map, List.length_replicate]; exact small1000 (by omega), ?_, fun c o n e => ?_⟩
          · rw [upd_same, List.replicate_succ', List.map_append]
            rfl
          · rw [upd_ne n]
            exact s2 _ _ (sT _ _ (k1 _ _ n e))
        · rintro H1 ⟨e1, k1⟩
          refine ⟨D, _, rfl, SqL.of e1, ?_⟩
          rw [all_repS]
          exact q _ fun c o e => k1 _ _ (ne_of_none (s1 _ _ e) eD) (s1 _ _ e)
end
end Bw
set_option Elab.async false
set_option linter.all false
set_option maxRecDepth 100000
set_option maxHeartbeats 4000000
namespace Bw
open PySem PySem.Spec PyProof.Rows L2
/-! ### sep.join(reversed(list)) -/
section
variable {prog : Program} {w : World} {A : Around} {E : Value → Shared → Prop} {s : Shared}
theorem join_rev {it l : Addr} {x : Str} {t : Tok} {items : Array Value} {Q : Value → Shared → Prop} (hh : A.handled = none) (hit : s.heap.IsRevIter it l ((items.size : Int) - 1)) (hl : s.heap.IsList l items) (hne : l ≠ it) (hn : items.size ≤ sizeLine)
    (hstr : ∀ v ∈ items.toList, ∃ y u, v = Value.str y u)
    (hq : ∀ (h' : Heap) (tk : Nat) (l' : List (Str × Tok)), (∀ b o, b ≠ it → s.heap.get? b = some o → h'.get? b = some o) → ItemsOf (fun i v => items[items.size - 1 - i]? = some v) (strValues l').toArray items.size →
      JoinOk x (l'.map (·.1)) = true ∧ ∀ t' k, Q (.str (Txt.join x (l'.map (·.1))) t') { s with heap := h', toks := k }) :
    wpAny (model prog w) A (call (.builtin "str.join") [.str x t, .ref it]) Q E s := by
  refine wpAny_call (codeAny_call_builtin F.slot_str_join.plain F.entry_str_join (F.slot_str_join.check _ _ _ _ _ _ _ _ (typeIs_str _ _ _) (F.args_str_join_2 _ _) ?_))
  rw [join_tree_other]
  refine wpAny_bind (wpAny_typeOf hit.typeIs ?_)
  show wpAny _ A.in1 ((pyIter (.ref it)).tryCatch _ >>= fun it => collect it >>= fun items => joinTail x items) _ _ s
  refine wpAny_bind (wpAny_tryCatch (wpAny_pyIter_revIter hit ?_))
  refine wpAny_bind (RT.collect_rev (A := A.in1) hh hit hl hne hn fun h' tk acc hk hacc => ?_)
  obtain ⟨l', hl'⟩ := exists_strValues acc.toList fun v hv => by
    obtain ⟨j, hj, rfl⟩ := Array.mem_iff_getElem.mp (Array.mem_toList_iff.mp hv)
    have := hacc.2 j _ (Array.getElem?_eq_getElem hj)
    exact hstr _ (Array.mem_toList_iff.mpr (Array.mem_of_getElem? this))
  rw [← hl']
  have hacc' : ItemsOf (fun i v => items[items.size - 1 - i]? = some v) (strValues l').toArray items.size := by rw [hl']; simpa using hacc
  obtain ⟨hok, hpost⟩ := hq h' tk l' hk hacc'
  unfold JoinOk at hok
  rw [Bool.not_eq_true'] at hok
  have g : Gives (joinTail x (strValues l')) (joinMade x l') := by
    have g0 := gives_joinTail x l' hok
    cases l' with
    | nil => exact g0
    | cons p r => cases r with
      | nil => exact g0
      | cons q r' => exact g0
  exact g prog w A (wants Q E) _ (post_join l' ⟨joinFit_length hok, hpost⟩)
end
def tJoinRev (K : PySem.W.Frag) (to te : TE) : TE := fun σ H Q => to σ H fun x H1 => ∃ a : Str, x = .str a ∧ te σ H1 fun v H2 => ∃ (p : Addr) (ys : List Str), v = .ref p ∧ SqL K H2 p (ys.map V.str) ∧ JoinOk a ys.reverse = true ∧ Q (.str (Txt.join a ys.reverse)) H2
theorem vals_strs {ys : List Str} : ∀ {us : List Value}, Vals (ys.map V.str) us → ∀ v ∈ us, ∃ y u, v = Value.str y u := by
  induction ys with
  | nil =>
    intro us r v hv
    cases r
    cases hv
  | cons y ys ih =>
    intro us r v hv
    cases r with
    | cons a b =>
      rcases List.mem_cons.mp hv with rfl | hv
      · obtain ⟨t, e⟩ := a
        exact ⟨y, t, e⟩
      · exact ih b v hv
theorem vals_map {ys : List Str} : ∀ {l : List (Str × Tok)}, Vals (ys.map V.str) (strValues l) → l.map (·.1) = ys := by
  induction ys with
  | nil =>
    intro l r
    cases l with
    | nil => rfl
    | cons a l => cases r
  | cons y ys ih =>
    intro l r
    cases l with
    | nil => cases r
    | cons a l =>
      cases r with
      | cons p q =>
        obtain ⟨t, e⟩ := p
        have e : Value.str a.1 a.2 = Value.str y t := e
        injection e with e1 e2
        rw [List.map_cons, ih q, e1]
theorem pe_joinRev {X : Cx} {K : PySem.W.Frag} {o e : Expr} {to te : TE} {apos pos p2 pos2 : Pos} (hc : X.calm = true) (ho : PE X o to) (hg2 : Gl X "reversed") (hm2 : X.mg "reversed" = none) (he : PE X e te) (hK : X.K = K := by rfl)
    (hs : starEach [e] X.env = (false, eval e X.env) :: starEach [] X.env := by rfl)
    (hs2 : starEach [.Call (.Name "reversed" p2) [e] [] pos2] X.env = [(false, eval (.Call (.Name "reversed" p2) [e] [] pos2) X.env)] := by rfl)
    (hbase : attributeBase o "join" X.env (eval o X.env) = eval o X.env := by rfl) (hline : (apos.endLine == pos.line) = true := by rfl) :
    PE X (.Call (.Attribute o "join" apos) [.Call (.Name "reversed" p2) [e] [] pos2] [] pos) (tJoinRev K to te) := by
  subst hK
  refine ⟨fun pins s σ H Q I h => ?_⟩
  refine PySem.Call_method1 hbase hs2 hline (thn (ho.run pins s σ H _ I h) fun v s1 ⟨x, H1, I1, r1, q1⟩ => ?_)
  obtain ⟨sep, rfl, q1⟩ := q1
  obtain ⟨t, rfl⟩ := _root_.id r1
  refine ⟨"str", _, F.plainAttrs_str, F.slot_str_join, F.type_str_join, typeIs_str _ _ _, (fun _ e => nomatch e), Calls.callWith_builtin rfl (Calls.evalArgs_plain (Calls.spliced_cons ?_))⟩
  refine Call_ (ld_blt I1 hg2 hm2 PyProof.Rows.boot_reversed (PyProof.Rows.callWith_type1 (args_cons (thn (he.run pins s1 σ H1 _ I1 q1) fun u s2 ⟨v, H2, I2, r2, q2⟩ => args_nil ?_) hs) hs rfl))
  obtain ⟨a, ys, ev, hq, hok, q⟩ := q2
  subst ev
  obtain rfl : u = Value.ref a := r2
  obtain ⟨its, rv, p', hz⟩ := I2.list hq
  refine call_reversed_list p'.isList (Calls.spliced_nil ?_)
  have k0 : ∀ b o, s2.heap.get? b = some o → (s2.heap.push (revObj a ((its.toArray.size : Int) - 1))).get? b = some o := fun b o e => Heap.get?_push_of_some _ e
  have I3 : Inv X pins σ H2 { s2 with heap := s2.heap.push (revObj a ((its.toArray.size : Int) - 1)) } := I2.kept (t' := s2.toks) k0
  obtain ⟨f0, f1, f2, f3, f4, f5⟩ := I2.fpOk (H' := H2) (b := s2.heap.objs.size) (Nat.le_refl _) (I2.hok.fresh (Nat.le_refl _))
  have hl := p'.isList
  obtain ⟨ol, hol, _⟩ := id hl
  have hne : a ≠ s2.heap.objs.size := Nat.ne_of_lt (Heap.lt_size hol)
  have hn : its.toArray.size ≤ sizeLine := by rw [List.size_toArray, ← rv.length]; exact hz
  refine join_rev (s := { s2 with heap := s2.heap.push (revObj a ((its.toArray.size : Int) - 1)) }) (I2.ok.hd hc) ⟨_, Heap.get?_push_size _ rfl, rfl, rfl⟩ (hl.push _) hne hn (by rw [List.toList_toArray]; exact vals_strs rv) fun h' tk l' hk hi => ?_
  have rr := RT.vals_rev rv hi
  rw [List.toList_toArray, ← List.map_reverse] at rr
  have el := vals_map rr
  rw [el]
  refine ⟨hok, fun t' k => ?_⟩
  have I4 : Inv X pins σ H2 { s2 with heap := h', toks := k } := I3.turned (t' := k) (fun b o hb e => hk b o hb e) f0 f1 f3 f4 f5
  exact ⟨.str _, H2, I4, ⟨t', rfl⟩, q⟩
/-! ### repr(x), str(x), bool(x) of own instances -/
section
variable {X : Cx} {CX : CXT} {C f : Addr} {fd : FuncData} {ps : List Str} {sp : Sp} {n : Nat} {E : XK}
def rStrOwn (C : Addr) (sp : Sp) (E : XK) : List V → Hp → VK → Prop := fun xs H Q => ∃ a dx fs, xs = [V.ref a] ∧ H a = some (.ins C dx fs) ∧ sp [.ref a] H (fun z H' => ∃ y : Str, z = .str y ∧ Q (.str y) H') E
theorem c_reprOwn (hs : PySem.W.findIn X.K (.ref C) "__repr__" = some (some (.ref f))) (hf : PySem.W.isFn X.K (.ref f) = true) (F : FnOk X.prog X.w X.K X.mg X.base CX n f fd ps sp) (hr : Room (n + 1) X.A) (hb : Binds X.K fd ps []) (hx : Passes CX X E) : CallR X (.builtin "repr") (rStrOwn C sp E) := by
  intro pins s σ H xs us Q I r h
  obtain ⟨a, dx, fs, rfl, ha, q⟩ := h
  obtain ⟨u, rfl, ru⟩ := vals1 r
  obtain rfl : u = Value.ref a := ru
  obtain ⟨mA, J, _⟩ := ins_get I.hok ha
  obtain ⟨od, J, _⟩ := J.look
  obtain ⟨m, hF⟩ := I.fr
  refine PySem.W.repr_K (Nat.lt_of_le_of_lt (Nat.le_add_right _ _) hr.in1.units) hF I.ok.mod.kin J hs hf ?_
  have hl := F.len _ _ _ _ q
  refine wpAny_call (codeAny_mono (F.run X.A.in1 X.stack s H ⟨[.ref a], []⟩ [.ref a] [.ref a] _ E hr.in1 I.env0.in1 (by
    have z := hb s [.ref a] I.kIn (by simpa using hl)
    simpa using z) (.cons rfl .nil) q) fun r s' hq => ?_)
  cases r with
  | error e => exact hx pins σ H s e s' I hq
  | ok fl =>
    cases fl with
    | ret w =>
      obtain ⟨z, H', I', rz, y, ei, qz⟩ := I.after hq
      subst ei
      obtain ⟨t, rfl⟩ := (show ∃ t, w = Value.str y t from rz)
      exact ⟨.str y, H', I', ⟨_, rfl⟩, qz⟩
    | next => exact False.elim hq
    | brk => exact False.elim hq
    | cont => exact False.elim hq
theorem c_strOwn (hs : PySem.W.findIn X.K (.ref C) "__str__" = some (some (.ref f))) (hf : PySem.W.isFn X.K (.ref f) = true) (F : FnOk X.prog X.w X.K X.mg X.base CX n f fd ps sp) (hr : Room (n + 2) X.A) (hb : Binds X.K fd ps []) (hx : Passes CX X E) : CallR X (.type "str") (rStrOwn C sp E) := by
  intro pins s σ H xs us Q I r h
  obtain ⟨a, dx, fs, rfl, ha, q⟩ := h
  obtain ⟨u, rfl, ru⟩ := vals1 r
  obtain rfl : u = Value.ref a := ru
  obtain ⟨mA, J, _⟩ := ins_get I.hok ha
  obtain ⟨od, J, _⟩ := J.look
  obtain ⟨m, hF⟩ := I.fr
  refine PySem.W.kso_call (Nat.lt_of_le_of_lt (Nat.le_add_right _ _) hr.in1.in1.units) I.kIn J hs hf ?_
  have hl := F.len _ _ _ _ q
  refine wpAny_call (codeAny_mono (F.run X.A.in1.in1 X.stack s H ⟨[.ref a], []⟩ [.ref a] [.ref a] _ E hr.in1.in1 I.env0.in1.in1 (by
    have z := hb s [.ref a] I.kIn (by simpa using hl)
    simpa using z) (.cons rfl .nil) q) fun r s' hq => ?_)
  cases r with
  | error e => exact hx pins σ H s e s' I hq
  | ok fl =>
    cases fl with
    | ret w =>
      obtain ⟨z, H', I', rz, y, ei, qz⟩ := I.after hq
      subst ei
      obtain ⟨t, rfl⟩ := (show ∃ t, w = Value.str y t from rz)
      exact ⟨.str y, H', I', ⟨_, rfl⟩, qz⟩
    | next => exact False.elim hq
    | brk => exact False.elim hq
    | cont => exact False.elim hq
/-! ### bool(x) by its len -/
theorem truthy_len {K : PySem.W.Frag} {prog : Program} {w : World} {A : Around} {E : Value → Shared → Prop} {s : Shared} {x C f : Addr} {ox : Obj} {od : Option Obj} {Q : Bool → Shared → Prop} (Y : K.In s.heap) (I : PySem.W.InstAt s.heap x ox C od) (hs : PySem.W.findIn K (.ref C) "__bool__" = some none) (hl : PySem.W.findIn K (.ref C) "__len__" = some (some (.ref f))) (hf : PySem.W.isFn K (.ref f) = true)
    (h : wpAny (model prog w) A.in1 (call (.ref f) [.ref x]) (fun v s' => ∃ n t, v = .int n t ∧ 0 ≤ n ∧ n < 2 ^ 63 ∧ ∀ tk, Q (n != 0) { s' with toks := tk }) E s) : wpAny (model prog w) A (truthy (.ref x)) Q E s := by
  have key : wpAny (model prog w) A (runValue (.builtin "len" ⟨[.ref x], []⟩)) (fun r s' => ∃ n t, r = .int n t ∧ Q (n != 0) s') E s := by
    refine wpAny_runValue (codeAny_builtin entry_len ?_)
    rw [Around.under_plainId plain_len _]
    unfold Builtin.«len»
    refine wpAny_bind (m := oneArg "len" _) (wpAny_pure ?_)
    refine wpAny_bind (m := callSpecial? (.ref x) (Str.ofString "__len__")) (PySem.W.special_fn Y I hl (beq_iff_eq.mp hf) (wpAny_mono h (fun r s' hr => ?_) fun _ _ y => y))
    obtain ⟨n, u, rfl, h0, h1, hq⟩ := hr
    refine wpAny_bind (wpAny_holding (wpAny_pure ?_))
    refine wpAny_bind (wpAny_letGo ?_)
    show wpAny _ _ (if n < 0 then _ else _) _ _ _
    rw [if_neg (by omega)]
    show wpAny _ _ (if n ≥ 2 ^ 63 then _ else _) _ _ _
    rw [if_neg (by omega)]
    exact wpAny_bind (wpAny_mkInt (wpAny_pure ⟨_, _, rfl, hq _⟩))
  unfold truthy
  refine wpAny_bind (m := callSpecial? (.ref x) (Str.ofString "__bool__")) (wpAny_bind (wpAny_bind (I.type.here ((PySem.W.looks_findIn Y hs).here (wpAny_pure ?_)))))
  refine wpAny_bind (wpAny_bind (I.type.here ((PySem.W.looks_findIn Y hl).here ?_)))
  show wpAny _ _ (runValue (.builtin "len" ⟨[.ref x], []⟩) >>= _) _ _ _
  refine wpAny_bind (wpAny_mono key (fun r s' hr => ?_) fun _ _ y => y)
  obtain ⟨n, t, rfl, hq⟩ := hr
  exact wpAny_pure hq
end
end Bw
set_option Elab.async false
set_option linter.all false
set_option maxRecDepth 100000
set_option maxHeartbeats 4000000
namespace Bw
open PySem PySem.Spec PyProof.Rows L2
section
variable {X : Cx} {CX : CXT} {C f : Addr} {fd : FuncData} {ps : List Str} {sp : Sp} {n : Nat} {E : XK}
/-! ### bool(x) by its len -/
def rBoolOwn (C : Addr) (sp : Sp) (E : XK) : List V → Hp → VK → Prop := fun xs H Q => ∃ a dx fs, xs = [V.ref a] ∧ H a = some (.ins C dx fs) ∧ sp [.ref a] H (fun z H' => ∃ i : Int, z = .int i ∧ 0 ≤ i ∧ i < 2 ^ 63 ∧ Q (.bl (i != 0)) H') E
theorem c_boolOwn (hs0 : PySem.W.findIn X.K (.ref C) "__bool__" = some none) (hs : PySem.W.findIn X.K (.ref C) "__len__" = some (some (.ref f))) (hf : PySem.W.isFn X.K (.ref f) = true) (F : FnOk X.prog X.w X.K X.mg X.base CX n f fd ps sp) (hr : Room (n + 3) X.A) (hb : Binds X.K fd ps []) (hx : Passes CX X E) : CallR X (.type "bool") (rBoolOwn C sp E) := by
  intro pins s σ H xs us Q I r h
  obtain ⟨a, dx, fs, rfl, ha, q⟩ := h
  obtain ⟨u, rfl, ru⟩ := vals1 r
  obtain rfl : u = Value.ref a := ru
  obtain ⟨mA, J, _⟩ := ins_get I.hok ha
  obtain ⟨od, J, _⟩ := J.look
  refine callType_codes (T := "bool") (Bi := Builtin.«object.__init__») (Q₁ := fun r s₁ => ∃ b, r = Value.bool b ∧ EP X pins σ Q (.bool b) s₁) PySem.F.called_bool (PySem.F.typeCall_bool_1 _) PySem.F.entry_object_init ?_ ?_
  · refine codeAny_of_tree ?_
    show wpAny _ X.A.in1.in1 (do checkBuiltinCall "bool.__new__" ⟨[.type "bool", .ref a], []⟩; again (.builtin "bool.__new__" ⟨[.type "bool", .ref a], []⟩)) _ _ s
    refine wpAny_bind (wpAny_of_eq (PySem.F.newCall_bool_1 _) (wpAny_pure ⟨plainId_quiet (by decide +kernel) _, codeAny_builtin PySem.F.entry_bool_new ?_⟩))
    rw [Around.under_plainId (by decide +kernel) _]
    unfold Builtin.«bool.__new__»
    refine wpAny_bind (m := isType _) (wpAny_pure ?_)
    refine wpAny_bind (wpAny_of_eq PySem.F.conv_sub_bool ?_)
    refine wpAny_bind (wpAny_pure ?_)
    refine wpAny_bind (wpAny_mono (truthy_len (Q := fun b s₁ => EP X pins σ Q (.bool b) s₁) I.kIn J hs0 hs hf ?_) (fun b s₁ hb => wpAny_pure ⟨b, rfl, hb⟩) fun _ _ y => y)
    have hl := F.len _ _ _ _ q
    refine wpAny_call (codeAny_mono (F.run _ X.stack s H ⟨[.ref a], []⟩ [.ref a] [.ref a] _ E hr.in1.in1.in1 I.env0.in1.in1.in1 (by
      have z := hb s [.ref a] I.kIn (by simpa using hl)
      simpa using z) (.cons rfl .nil) q) fun r s' hq => ?_)
    cases r with
    | error e => exact hx pins σ H s e s' I hq
    | ok fl =>
      cases fl with
      | ret w =>
        obtain ⟨z, H', I', rz, i, ei, i0, i1, qz⟩ := I.after hq
        subst ei
        obtain ⟨t, rfl⟩ := (show ∃ t, w = Value.int i t from rz)
        exact ⟨i, t, rfl, i0, i1, fun tk => ⟨.bl (i != 0), H', I'.tok _, rfl, qz⟩⟩
      | next => exact False.elim hq
      | brk => exact False.elim hq
      | cont => exact False.elim hq
  · rintro obj s₁ ⟨b, rfl, hq⟩
    exact ⟨PySem.typeIs_bool _ _, PySem.F.args_object_init_2 _ _, object_init_meets PySem.F.called_bool.init.lookup PySem.F.called_bool.made (by decide) X.prog X.w X.A.in1 _ s₁ ⟨PySem.typeIs_bool _ _, rfl, hq⟩⟩
/-! ### x == y, x an own instance, y a dict with tuples for keys, or a text -/
theorem own_runV (F : FnOk X.prog X.w X.K X.mg X.base CX n f fd ps sp) (hr : Room n X.A) (hb : Binds X.K fd ps []) (hx : Passes CX X E) {pins : List (Addr × Obj)} {s : Shared} {σ : L2.St} {H : Hp} {a : Addr} {y : V} {u : Value} {Q : Bool → Hp → Prop} (I : L2.Inv X pins σ H s) (ry : L2.RelV y u)
    (q : sp [.ref a, y] H (fun z H' => ∃ c : Bool, z = .bl c ∧ Q c H') E) : wpAny (model X.prog X.w) X.A (call (.ref f) [.ref a, u]) (fun v s' => ∃ (c : Bool) (H' : Hp), v = .bool c ∧ L2.Inv X pins σ H' s' ∧ Q c H') X.xe s := by
  have hl := F.len _ _ _ _ q
  refine wpAny_call (codeAny_mono (F.run X.A X.stack s H ⟨[.ref a, u], []⟩ [.ref a, u] [.ref a, y] _ E hr I.env0 (by
    have z := hb s [.ref a, u] I.kIn (by simpa using hl)
    simpa using z) (.cons rfl (.cons ry .nil)) q) fun r s' hq => ?_)
  cases r with
  | error e => exact hx pins σ H s e s' I hq
  | ok fl =>
    cases fl with
    | ret w =>
      obtain ⟨z, H', I', rz, c, ec, qc⟩ := I.after hq
      subst ec
      obtain rfl : w = Value.bool c := rz
      exact ⟨c, H', rfl, I', qc⟩
    | next => exact False.elim hq
    | brk => exact False.elim hq
    | cont => exact False.elim hq
def rEqOwnV (C : Addr) (sp : Sp) (E : XK) : R2 := fun x y H Q => ∃ a dx fs, x = .ref a ∧ H a = some (.ins C dx fs) ∧ ((∃ y', y = .str y') ∨ ∃ b kvs, y = .ref b ∧ H b = some (.dT kvs)) ∧ sp [.ref a, y] H (fun z H' => ∃ c : Bool, z = .bl c ∧ Q (.bl c) H') E
theorem o_eqOwnV (hnS : PySem.W.notFirst X.K C (.type "str") = true) (hnD : PySem.W.notFirst X.K C (.type "dict") = true) (hs : PySem.W.findIn X.K (.ref C) "__eq__" = some (some (.ref f))) (hf : PySem.W.isFn X.K (.ref f) = true) (F : FnOk X.prog X.w X.K X.mg X.base CX n f fd ps sp) (hr : Room n X.A) (hb : Binds X.K fd ps []) (hx : Passes CX X E) : OpR X (compareOp .Eq) (rEqOwnV C sp E) := by
  intro pins s σ H x y v u Q I rx ry h
  obtain ⟨a, dx, fs, rfl, ha, hy, q⟩ := h
  cases rx
  obtain ⟨mA, J, _⟩ := ins_get I.hok ha
  obtain ⟨od, J, _⟩ := J.look
  obtain ⟨m, hF⟩ := I.fr
  have run := own_runV F hr hb hx I ry q
  have fin : ∀ (v : Value) (s' : Shared), (∃ (c : Bool) (H' : Hp), v = .bool c ∧ L2.Inv X pins σ H' s' ∧ Q (.bl c) H') → PySem.W.CmpBack (EP X pins σ Q) v s' := fun v s' z => by
    obtain ⟨c, H', rfl, I', qc⟩ := z
    exact ⟨.bl c, H', I', rfl, qc⟩
  rcases hy with ⟨y', rfl⟩ | ⟨b, kvs, rfl, eb⟩
  · obtain ⟨t, rfl⟩ := (show ∃ t, u = Value.str y' t from ry)
    show wpAny _ _ (richCompare .Eq (.ref a) (.str y' t)) _ _ _
    exact PySem.W.cmp_K (op := .Eq) (tb := .type "str") hr.units0 hF I.ok.mod.kin J (PySem.W.Looks.of_pure rfl) hnS hs hf (wpAny_mono run fin fun _ _ z => z)
  · obtain rfl : u = Value.ref b := ry
    obtain ⟨_, _, xs, _, o, es, ep, h1, h2, _⟩ := (show ObjOk X.prog X.w H s.heap b (.dT kvs) from I.hok b _ eb)
    show wpAny _ _ (richCompare .Eq (.ref a) (.ref b)) _ _ _
    refine PySem.W.cmp_K (op := .Eq) (tb := .type "dict") hr.units0 hF I.ok.mod.kin J ?_ hnD hs hf (wpAny_mono run fin fun _ _ z => z)
    have : PySem.W.Looks (model X.prog X.w) s.heap (typeOf (.ref b)) o.cls := (PySem.W.Looks.ld (M := model X.prog X.w) (part := none) h1).andThen .now
    rw [← h2.1]
    exact this
end
end Bw
set_option Elab.async false
set_option linter.all false
set_option maxRecDepth 100000
set_option maxHeartbeats 4000000
namespace Bw
open PySem PySem.Spec PyProof.Rows L2
theorem same_empty {prog : Program} {w : World} {A : Around} {E : Value → Shared → Prop} {s : Shared} {nm : String} {a b : Addr} {oa ob : Obj} {es : Array DictEntry} {ep ep' : Nat} {Q : Bool → Shared → Prop} (ha : (a == sysModules) = false) (hb : (b == sysModules) = false)
    (hoa : s.heap.get? a = some oa) (hda : oa.data = .dict es ep) (hob : s.heap.get? b = some ob) (hdb : ob.data = .dict #[] ep') (h : Q (es.size == 0) s) : wpAny (model prog w) A (Builtin.Dict.samePairs nm a b) Q E s := by
  unfold Builtin.Dict.samePairs Builtin.Dict.showsAll
  rw [if_neg (show ¬ (a == sysModules) = true by rw [ha]; exact Bool.false_ne_true), if_neg (show ¬ (b == sysModules) = true by rw [hb]; exact Bool.false_ne_true)]
  refine wpAny_bind (wpAny_pure (wpAny_bind (wpAny_pure ?_)))
  refine wpAny_bind (wpAny_dictEntries hoa hda ?_)
  dsimp only
  refine wpAny_bind (wpAny_dictEntries hob hdb ?_)
  by_cases hsz : es.size = 0
  case neg =>
    rw [if_pos (by simpa using hsz)]
    have hbf : (es.size == 0) = false := by simpa using hsz
    rw [hbf] at h
    exact wpAny_bind (wpAny_rule (wpAny_pure h))
  case pos =>
    have h' : Q true s := by simpa [hsz] using h
    rw [if_neg (by rw [hsz]; simp)]
    refine wpAny_bind (wpAny_dictEpoch hoa hda ?_)
    refine wpAny_bind ?_
    rw [Std.Legacy.Range.forIn_eq_forIn_range', hsz]
    simp only [Std.Legacy.Range.size, Nat.sub_zero, Nat.add_sub_cancel, Nat.div_one, List.range'_zero, List.forIn_nil]
    exact wpAny_pure (wpAny_pure h')
theorem ne_empty {prog : Program} {w : World} {A : Around} {E : Value → Shared → Prop} {s : Shared} {a b : Addr} {oa ob : Obj} {es : Array DictEntry} {ep ep' : Nat} {Q : Value → Shared → Prop} (ha : (a == sysModules) = false) (hb : (b == sysModules) = false)
    (hoa : s.heap.get? a = some oa) (xa : oa.ExactDict) (hda : oa.data = .dict es ep) (hob : s.heap.get? b = some ob) (xb : ob.ExactDict) (hdb : ob.data = .dict #[] ep') (hu : A.units < cLine) (h : Q (.bool (!(es.size == 0))) s) :
    wpAny (model prog w) A (compareOp .NotEq (.ref a) (.ref b)) Q E s := by
  have ta : s.TypeIs (.ref a) "dict" := ⟨oa, hoa, xa.1⟩
  have tb : s.TypeIs (.ref b) "dict" := ⟨ob, hob, xb.1⟩
  refine wpAny_richCompare_same_room (op := .NotEq) ta tb PySem.F.slot_dict_ne (wpAny_call_entry PySem.F.slot_dict_ne ta PySem.F.entry_dict_ne ?_ (PySem.F.args_dict_ne_2 _ _)) hu
  show wpAny _ _ (Builtin.Dict.dictSlotArgs "__ne__" ⟨[.ref a, .ref b], []⟩ >>= _) _ _ s
  refine wpAny_bind ?_
  unfold Builtin.Dict.dictSlotArgs
  refine wpAny_bind (wpAny_notOrdered_dict ta ?_)
  show wpAny _ _ (pure (Value.ref a, Value.ref b)) _ _ s
  refine wpAny_pure ?_
  refine wpAny_bind (wpAny_isInstance (T := "dict") tb PySem.F.sub_dict_dict ?_)
  simp only [Bool.not_true, Bool.false_eq_true, if_false]
  refine wpAny_bind (wpAny_pure (wpAny_bind (wpAny_pure ?_)))
  refine wpAny_bind (same_empty ha hb hoa hda hob hdb ?_)
  refine wpAny_pure ⟨_, rfl, ?_, ?_⟩
  · exact fun x => nomatch x
  · simpa using h
/-- d != {}, d with tuples for keys -/
def rNeD0 : R2 := fun x y H Q => ∃ a b kvs, x = .ref a ∧ y = .ref b ∧ H a = some (.dT kvs) ∧ H b = some (.dT []) ∧ Q (.bl (!(kvs.length == 0))) H
theorem o_neD0 {X : Cx} (hu : X.A.units < cLine) : OpR X (compareOp .NotEq) rNeD0 := by
  intro pins s σ H x y v u Q I rx ry h
  obtain ⟨a, b, kvs, rfl, rfl, ha, hb, q⟩ := h
  cases rx
  cases ry
  obtain ⟨_, sa, xs, kt, o, es, ep, h1, h2, h3, h4, _⟩ := (show ObjOk X.prog X.w H s.heap a (.dT kvs) from I.hok a _ ha)
  obtain ⟨_, sb, ys, kt', o', es', ep', g1, g2, g3, g4, _⟩ := (show ObjOk X.prog X.w H s.heap b (.dT []) from I.hok b _ hb)
  have ly : ys = [] := by
    cases kt'
    rfl
  subst ly
  have e0 : es' = #[] := by
    apply Array.toList_inj.mp
    rw [g4]
    rfl
  subst e0
  have le : es.size = kvs.length := by
    rw [← Array.length_toList, h4, List.length_map]
    exact kt.length.symm
  refine ne_empty sa sb h1 h2 h3 g1 g2 g3 hu ?_
  rw [le]
  exact ⟨.bl _, H, I, rfl, q⟩
end Bw
set_option Elab.async false
set_option linter.all false
set_option maxRecDepth 100000
set_option maxHeartbeats 4000000
namespace Bw
open PySem PySem.Spec PyProof.Rows L2
/-! ### zip of an ascii text and a tuple -/
theorem skeep {h h' : Heap} {it : Addr} {ty : String} {x : Str} {t : Tok} {i : Nat} (st : h.IsStrIter it ty x t i) (k : ∀ o, h.get? it = some o → h'.get? it = some o) : h'.IsStrIter it ty x t i := let ⟨o, e, r⟩ := st; ⟨o, k o e, r⟩
section
variable {P : Program} {w : World} {A : Around} {E : Value → Shared → Prop} {s : Shared} {z TI TO i1 i2 l1 l2 : Addr} {U2 : Nat → Heap → Prop} {Z2 : Array Value → Heap → Prop}
theorem nextOf_str_item {it : Addr} {x : Str} {t : Tok} {i c : Nat} {Q : Value → Shared → Prop} (hit : s.heap.IsStrIter it "str_ascii_iterator" x t i) (hx : x.cps[i]? = some c)
    (hQ : ∀ h', h'.IsStrIter it "str_ascii_iterator" x t (i + 1) → Heap.SameBut it s.heap h' → Q (.str ⟨#[c]⟩ s.toks) { s with heap := h', toks := s.toks + 1 }) :
    wpAny (model P w) A (Builtin.SmallTypes.nextOf (.ref it)) Q E s := by
  obtain ⟨o, ho, hc, hd⟩ := id hit
  unfold Builtin.SmallTypes.nextOf
  refine wpAny_bind (wpAny_callSpecial?_slot (name := Str.ofString "__next__") hit.typeIs F.slot_str_ascii_iterator_next
    (wpAny_call_entry F.slot_str_ascii_iterator_next hit.typeIs F.entry_str_ascii_iterator_next ?_ (F.args_str_ascii_iterator_next_1 _)))
  show wpAny _ _ (field (.ref it) 0 >>= _) _ _ s
  refine wpAny_bind (wpAny_field ho hd (x := .str x t) rfl ?_)
  show wpAny _ _ (field (.ref it) 1 >>= _) _ _ s
  refine wpAny_bind (wpAny_field ho hd (x := .int i 0) rfl ?_)
  simp only [Int.toNat_natCast, hx]
  refine wpAny_bind (wpAny_setField ho hd (by simp) (wpAny_bind (wpAny_mkStr (wpAny_pure ⟨_, rfl, wpAny_pure (hQ _ ?_ (Heap.SameBut.update ..))⟩) (by show 1 ≤ sizeLine; decide))))
  exact ⟨_, Heap.get?_update_self _ ho (Obj.isFreed_of_fields (Obj.data_mapFields hd _)), (Obj.cls_mapFields ..).trans hc, by
    rw [Obj.data_mapFields hd]; simp [rawInt]⟩
theorem zipS_item {k ch : Nat} {X : Str} {T : Tok} {ys : Array Value} {y a b : Value} {Q : Value → Shared → Prop} (S2 : Src P w i2 l2 U2 Z2) (D : ZipApart z TI TO i1 i2 l1 l2)
    (hz : IsZip s.heap z TI TO .none) (hTI : IsPair s.heap TI (.ref i1) (.ref i2)) (hTO : IsPair s.heap TO a b) (h1 : s.heap.IsStrIter i1 "str_ascii_iterator" X T k) (h2 : U2 k s.heap) (hl2 : Z2 ys s.heap) (hx : X.cps[k]? = some ch) (hy : ys[k]? = some y)
    (hQ : ∀ h', IsZip h' z TI TO (rawInt s.heap.objs.size) → IsPair h' TO (.str ⟨#[ch]⟩ s.toks) y → h'.IsStrIter i1 "str_ascii_iterator" X T (k + 1) → U2 (k + 1) h' → IsPair h' s.heap.objs.size (.str ⟨#[ch]⟩ s.toks) y →
      (∀ c o, c ≠ z → c ≠ TO → c ≠ i1 → c ≠ i2 → s.heap.get? c = some o → h'.get? c = some o) → Q (.ref s.heap.objs.size) { s with heap := h', toks := s.toks + 1 }) :
    wpAny (model P w) A (Builtin.«zip.__next__» ⟨[.ref z], []⟩) (fun fin s' => ∃ v, fin = .done (.ret v) ∧ Q v s') E s := by
  show wpAny _ _ (field (Value.ref z) 2 >>= _) _ _ _
  refine wpAny_bind (wpAny_field hz (rfl) (x := .bool false) rfl ?_); show wpAny _ _ (field (Value.ref z) 3 >>= _) _ _ _
  refine wpAny_bind (wpAny_field hz (rfl) (x := .ref TI) rfl ?_); refine wpAny_bind (wpAny_seqItems hTI (rfl) ?_)
  show wpAny _ _ (Builtin.SmallTypes.ownedTupleIsFree (Value.ref z) >>= _) _ _ _
  refine wpAny_bind ?_; unfold Builtin.SmallTypes.ownedTupleIsFree
  refine wpAny_bind (wpAny_field hz (rfl) (x := .none) rfl (wpAny_pure ?_)); simp only [if_true]
  refine wpAny_bind (wpAny_rule ?_); refine wpAny_bind (wpAny_field hz (rfl) (x := .ref TO) rfl ?_)
  refine wpAny_bind (wpAny_setField_rec hz (by simp) fun g1 z1 b1 => ?_); replace z1 : IsZip g1 z TI TO .ellipsis := z1
  refine wpAny_bind ?_; simp only [List.zipIdx_cons, List.zipIdx_nil, List.forIn_cons, List.forIn_nil]
  refine wpAny_bind (wpAny_bind (wpAny_onRaise ?_)); show wpAny _ _ (Builtin.SmallTypes.nextOf (Value.ref i1) >>= _) _ _ _
  refine wpAny_bind (nextOf_str_item (skeep h1 fun o e => b1.extBut _ _ D.i1z e) hx fun g2 u1 b2 => wpAny_pure ?_)
  have p2 : IsPair g2 TO a b := b2.extBut _ _ D.TOi1 (b1.extBut _ _ D.TOz hTO)
  refine wpAny_bind (wpAny_seqItems p2 (rfl) ?_); refine wpAny_bind (wpAny_updateSeq_pair p2 fun g3 p3 b3 => ?_); replace p3 : IsPair g3 TO (.str ⟨#[ch]⟩ s.toks) b := p3
  refine wpAny_bind (wpAny_letGo (wpAny_pure ?_)); refine wpAny_bind (wpAny_bind (wpAny_onRaise ?_)); show wpAny _ _ (Builtin.SmallTypes.nextOf (Value.ref i2) >>= _) _ _ _
  refine wpAny_bind (S2.item _ _ _ k ys y _ (S2.keep _ _ _ h2 fun o e => b3.extBut _ _ D.TOi2.symm (b2.extBut _ _ D.i12.symm (b1.extBut _ _ D.i2z e)))
    (S2.keepS _ _ _ hl2 fun o e => b3.extBut _ _ D.l2TO (b2.extBut _ _ D.l2i1 (b1.extBut _ _ D.l2z e))) hy fun g4 u2 b4 => wpAny_pure ?_)
  have p4 : IsPair g4 TO (.str ⟨#[ch]⟩ s.toks) b := b4.extBut _ _ D.TOi2 p3
  refine wpAny_bind (wpAny_seqItems p4 (rfl) ?_); refine wpAny_bind (wpAny_updateSeq_pair p4 fun g5 p5 b5 => ?_); replace p5 : IsPair g5 TO (.str ⟨#[ch]⟩ s.toks) y := p5
  refine wpAny_bind (wpAny_letGo (wpAny_pure (wpAny_pure ?_))); refine wpAny_bind (wpAny_seqItems p5 (rfl) ?_); refine wpAny_bind (wpAny_newTuple ?_)
  have sz : g5.objs.size = s.heap.objs.size := by rw [b5.1, b4.1, b3.1, b2.1, b1.1]
  have z5 : IsZip g5 z TI TO .ellipsis := b5.extBut _ _ D.TOz.symm (b4.extBut _ _ D.i2z.symm (b3.extBut _ _ D.TOz.symm (b2.extBut _ _ D.i1z.symm z1)))
  have k5 : ∀ c o, c ≠ z → c ≠ TO → c ≠ i1 → c ≠ i2 → s.heap.get? c = some o → g5.get? c = some o := fun c o c1 c2 c3 c4 e => b5.extBut _ _ c2 (b4.extBut _ _ c4 (b3.extBut _ _ c2 (b2.extBut _ _ c3 (b1.extBut _ _ c1 e))))
  have v1 : g5.IsStrIter i1 "str_ascii_iterator" X T (k + 1) := skeep u1 fun o e => b5.extBut _ _ D.TOi1.symm (b4.extBut _ _ D.i12 (b3.extBut _ _ D.TOi1.symm e))
  have v2 : U2 (k + 1) g5 := S2.keep _ _ _ u2 fun o e => b5.extBut _ _ D.TOi2.symm e
  have zl : z < g5.objs.size := Heap.lt_size z5
  show wpAny _ _ (Builtin.SmallTypes.ownedTupleHandOut (Value.ref z) (.ref g5.objs.size) >>= _) _ _ _
  refine wpAny_bind ?_; unfold Builtin.SmallTypes.ownedTupleHandOut
  have z6 : IsZip (g5.push { cls := .type "tuple", data := .seq #[.str ⟨#[ch]⟩ s.toks, y] }) z TI TO .ellipsis := Heap.get?_push_of_some _ z5
  refine wpAny_bind (wpAny_setField_rec z6 (by simp) fun g7 z7 b7 => ?_); replace z7 : IsZip g7 z TI TO (rawInt g5.objs.size) := z7
  refine wpAny_setField_rec z7 (by simp) fun g8 z8 b8 => ?_; replace z8 : IsZip g8 z TI TO (rawInt g5.objs.size) := z8
  have up : ∀ c o, c ≠ z → g5.get? c = some o → g8.get? c = some o := fun c o c1 e => b8.extBut _ _ c1 (b7.extBut _ _ c1 (Heap.get?_push_of_some _ e))
  have p8 : IsPair g8 g5.objs.size (.str ⟨#[ch]⟩ s.toks) y := b8.extBut _ _ (Nat.ne_of_gt zl) (b7.extBut _ _ (Nat.ne_of_gt zl) (Heap.get?_push_size _ rfl))
  rw [sz] at z8 p8
  refine wpAny_pure ⟨_, rfl, ?_⟩; show Q (.ref g5.objs.size) _; rw [sz]
  exact hQ g8 z8 (up _ _ D.TOz p5) (skeep v1 fun o e => up _ o D.i1z e) (S2.keep _ _ _ v2 fun o e => up _ o D.i2z e) p8 fun c o c1 c2 c3 c4 e => up c o c1 (k5 c o c1 c2 c3 c4 e)
theorem zipS_end {k ch : Nat} {X : Str} {T : Tok} {ys : Array Value} {a b : Value} {Q : PySem.Fin → Shared → Prop} (S2 : Src P w i2 l2 U2 Z2) (hh : A.handled = none) (D : ZipApart z TI TO i1 i2 l1 l2)
    (hz : IsZip s.heap z TI TO .none) (hTI : IsPair s.heap TI (.ref i1) (.ref i2)) (hTO : IsPair s.heap TO a b) (h1 : s.heap.IsStrIter i1 "str_ascii_iterator" X T k) (h2 : U2 k s.heap) (hl2 : Z2 ys s.heap) (hx : X.cps[k]? = some ch) (hy : ys[k]? = none)
    (hE : ∀ h' e, (∀ c o, c ≠ z → c ≠ TO → c ≠ i1 → c ≠ i2 → s.heap.get? c = some o → h'.get? c = some o) → (∃ o, h'.get? e = some o ∧ o.cls = .type "StopIteration") → E (.ref e) { s with heap := h', toks := s.toks + 1 }) :
    wpAny (model P w) A (Builtin.«zip.__next__» ⟨[.ref z], []⟩) Q E s := by
  show wpAny _ _ (field (Value.ref z) 2 >>= _) _ _ _
  refine wpAny_bind (wpAny_field hz (rfl) (x := .bool false) rfl ?_); show wpAny _ _ (field (Value.ref z) 3 >>= _) _ _ _
  refine wpAny_bind (wpAny_field hz (rfl) (x := .ref TI) rfl ?_); refine wpAny_bind (wpAny_seqItems hTI (rfl) ?_)
  show wpAny _ _ (Builtin.SmallTypes.ownedTupleIsFree (Value.ref z) >>= _) _ _ _
  refine wpAny_bind ?_; unfold Builtin.SmallTypes.ownedTupleIsFree
  refine wpAny_bind (wpAny_field hz (rfl) (x := .none) rfl (wpAny_pure ?_)); simp only [if_true]
  refine wpAny_bind (wpAny_rule ?_); refine wpAny_bind (wpAny_field hz (rfl) (x := .ref TO) rfl ?_)
  refine wpAny_bind (wpAny_setField_rec hz (by simp) fun g1 z1 b1 => ?_); replace z1 : IsZip g1 z TI TO .ellipsis := z1
  refine wpAny_bind ?_; simp only [List.zipIdx_cons, List.zipIdx_nil, List.forIn_cons, List.forIn_nil]
  refine wpAny_bind (wpAny_bind (wpAny_onRaise ?_)); show wpAny _ _ (Builtin.SmallTypes.nextOf (Value.ref i1) >>= _) _ _ _
  refine wpAny_bind (nextOf_str_item (skeep h1 fun o e => b1.extBut _ _ D.i1z e) hx fun g2 u1 b2 => wpAny_pure ?_)
  have p2 : IsPair g2 TO a b := b2.extBut _ _ D.TOi1 (b1.extBut _ _ D.TOz hTO)
  refine wpAny_bind (wpAny_seqItems p2 (rfl) ?_); refine wpAny_bind (wpAny_updateSeq_pair p2 fun g3 p3 b3 => ?_)
  refine wpAny_bind (wpAny_letGo (wpAny_pure ?_)); refine wpAny_bind (wpAny_bind (wpAny_onRaise ?_)); show wpAny _ _ (Builtin.SmallTypes.nextOf (Value.ref i2) >>= _) _ _ _
  refine wpAny_bind (S2.fin _ _ _ k ys _ hh (S2.keep _ _ _ h2 fun o e => b3.extBut _ _ D.TOi2.symm (b2.extBut _ _ D.i12.symm (b1.extBut _ _ D.i2z e)))
    (S2.keepS _ _ _ hl2 fun o e => b3.extBut _ _ D.l2TO (b2.extBut _ _ D.l2i1 (b1.extBut _ _ D.l2z e))) hy fun g4 e b4 he => ?_)
  obtain ⟨oe, hoe, hce⟩ := he
  have z4 : IsZip g4 z TI TO .ellipsis := b4 _ _ D.i2z.symm (b3.extBut _ _ D.TOz.symm (b2.extBut _ _ D.i1z.symm z1))
  have ez : e ≠ z := fun q => by subst q; rw [z4] at hoe; cases hoe; simp at hce
  refine wpAny_setField_rec z4 (by simp) fun g5 _ b5 => hE g5 e (fun c o c1 c2 c3 c4 q => b5.extBut _ _ c1 (b4 _ _ c4 (b3.extBut _ _ c2 (b2.extBut _ _ c3 (b1.extBut _ _ c1 q))))) ⟨oe, b5.extBut _ _ ez hoe, hce⟩
end
/-- the signs of a text beside what a side tells; the text is the longer one -/
def ItzS (x : Str) (R2 : Hp → List V → Prop) : It :=
  ⟨fun i H => ∃ (ys : List V) (y : V) (ch : Nat), x.cps[i]? = some ch ∧ R2 H ys ∧ ys[i]? = some y,
    fun i H v H' => ∃ T ch y, v = .ref T ∧ H T = none ∧ H' = upd H T (.tup [.str ⟨#[ch]⟩, y]) ∧ x.cps[i]? = some ch ∧ ∀ ys, R2 H ys → ys[i]? = some y,
    fun i H => ∃ (ys : List V) (ch : Nat), R2 H ys ∧ x.cps[i]? = some ch ∧ ys.length ≤ i⟩
theorem turn_zipS {P : Program} {w : World} {K : PySem.W.Frag} {elts : List Expr} {kk : Nat} {tpos : Pos} {x : Str} {t : Tok} {a b z TI TO i1 i2 : Addr} {R2 : Hp → List V → Prop} {U2 : Nat → Heap → Prop} {Z2 : Array Value → Heap → Prop}
    (S2 : Src P w i2 b U2 Z2) (L2' : Side b K R2 Z2) (D : ZipApart z TI TO i1 i2 a b) :
    Turn P w K (.Tuple elts kk tpos) (ItzS x R2) [z, TI, TO, i1, i2] z (fun i h => IsZip h z TI TO .none ∧ IsPair h TI (.ref i1) (.ref i2) ∧ (∃ x y, IsPair h TO x y) ∧ h.IsStrIter i1 "str_ascii_iterator" x t i ∧ U2 i h) where
  mem := by simp
  obj := fun i h st c hc => by
    obtain ⟨hz, hTI, ⟨x, y, hTO⟩, e1, e2⟩ := st
    have e' : c = z ∨ c = TI ∨ c = TO ∨ c = i1 ∨ c = i2 := by simpa using hc
    rcases e' with rfl | rfl | rfl | rfl | rfl
    · exact ⟨_, hz, fun v q => nomatch q⟩
    · exact ⟨_, hTI, fun v q => nomatch q⟩
    · exact ⟨_, hTO, fun v q => nomatch q⟩
    · obtain ⟨o, e, _, d⟩ := e1
      exact ⟨o, e, fun v q => by rw [d] at q; cases q⟩
    · exact S2.obj _ _ e2
  keep := fun i h h' st k => by
    obtain ⟨hz, hTI, ⟨x, y, hTO⟩, h1, h2⟩ := st
    exact ⟨k z (by simp) _ hz, k TI (by simp) _ hTI, ⟨x, y, k TO (by simp) _ hTO⟩, skeep h1 (k i1 (by simp)), S2.keep _ _ _ h2 (k i2 (by simp))⟩
  item := by
    intro X hP hw hK hc i pins s σ H E I hf st hg
    obtain ⟨hz, hTI, ⟨x0, y0, hTO⟩, h1, h2⟩ := st
    obtain ⟨ys, y, ch, hx, hqy, hy⟩ := hg
    obtain ⟨its2, rv2, p2, _⟩ := L2'.get X pins σ H s ys hK I hqy
    obtain ⟨u2, hu2, ru2⟩ := rv2.get hy
    have hzl : z < s.heap.objs.size := Heap.lt_size hz
    have hT : s.TypeIs (.ref z) "zip" := ⟨_, hz, rfl⟩
    unfold pyNext
    refine wpAny_bind (wpAny_attempt (wpAny_callSpecial?_slot (name := Str.ofString "__next__") hT F.slot_zip_next (wpAny_call_entry F.slot_zip_next hT F.entry_zip_next
      (zipS_item S2 D hz hTI hTO h1 h2 p2 (y := u2) hx (by simpa using hu2) fun h' z' TO' h1' h2' hT' hk => wpAny_pure ?_) (F.args_zip_next_1 _))))
    refine ⟨_, rfl, wpAny_letOwnedTupleGo_zip (s := { s with heap := h', toks := s.toks + 1 }) z' fun h'' z'' sb => ?_⟩
    have hT2 : h''.get? s.heap.objs.size = some { cls := .type "tuple", data := .seq #[.str ⟨#[ch]⟩ s.toks, u2] } := ((sb.2 _ (Nat.ne_of_gt hzl)).trans hT')
    subst hP hw hK
    have new : ObjOk X.prog X.w (upd H s.heap.objs.size (.tup [.str ⟨#[ch]⟩, y])) h'' s.heap.objs.size (.tup [.str ⟨#[ch]⟩, y]) := ⟨by show 2 ≤ sizeLine; decide, [.str ⟨#[ch]⟩ s.toks, u2], .cons ⟨_, rfl⟩ (.cons ru2 .nil), ⟨_, hT2, rfl, _, rfl⟩⟩
    have kk' : ∀ (c : Addr) (o : Obj), c ∉ [z, TI, TO, i1, i2] → s.heap.get? c = some o → h''.get? c = some o := fun c o hb q => (sb.2 c (fun q' => hb (by simp [q']))).trans (hk c o (fun q' => hb (by simp [q'])) (fun q' => hb (by simp [q'])) (fun q' => hb (by simp [q'])) (fun q' => hb (by simp [q'])) q)
    have I1 : L2.Inv X pins σ (upd H s.heap.objs.size (.tup [.str ⟨#[ch]⟩, y])) { s with heap := h'', toks := s.toks + 1 } := I.turnedNew (t' := s.toks + 1) (ch := [z, TI, TO, i1, i2]) kk' hf (Nat.le_refl _) new
    refine ⟨.ref s.heap.objs.size, _, I1, rfl, ⟨_, ch, y, rfl, I.hok.fresh (Nat.le_refl _), rfl, hx, fun l hl => ?_⟩, ⟨z'', ?_, ⟨.str ⟨#[ch]⟩ s.toks, u2, ?_⟩, ?_, ?_⟩, fun c hcm => ?_⟩
    · rw [L2'.inj X pins σ H s l ys rfl I hl hqy]
      exact hy
    · exact (sb.2 _ D.TIz).trans ((hk _ _ D.TIz D.TITO D.TIi1 D.TIi2 hTI))
    · exact (sb.2 _ D.TOz).trans TO'
    · exact skeep h1' fun o q => (sb.2 _ D.i1z).trans q
    · exact S2.keep _ _ _ h2' fun o q => (sb.2 _ D.i2z).trans q
    · have hlt : c < s.heap.objs.size := by
        have e' : c = z ∨ c = TI ∨ c = TO ∨ c = i1 ∨ c = i2 := by simpa using hcm
        rcases e' with rfl | rfl | rfl | rfl | rfl
        · exact hzl
        · exact Heap.lt_size hTI
        · exact Heap.lt_size hTO
        · obtain ⟨_, e1, _⟩ := h1; exact Heap.lt_size e1
        · obtain ⟨_, e2, _⟩ := S2.obj _ _ h2; exact Heap.lt_size e2
      rw [upd_ne (Nat.ne_of_lt hlt)]
      exact (hf c hcm).1
  done := by
    intro X hP hw hK hc i pins s σ H E I hf st hg
    obtain ⟨hz, hTI, ⟨x0, y0, hTO⟩, h1, h2⟩ := st
    obtain ⟨ys, ch, hqy, hx, hend⟩ := hg
    obtain ⟨its2, rv2, p2, _⟩ := L2'.get X pins σ H s ys hK I hqy
    have l2 := rv2.length
    have he : its2.toArray[i]? = none := by simp; omega
    have hT : s.TypeIs (.ref z) "zip" := ⟨_, hz, rfl⟩
    unfold pyNext
    refine wpAny_bind (wpAny_attempt (wpAny_callSpecial?_slot (name := Str.ofString "__next__") hT F.slot_zip_next
      (wpAny_call_entry F.slot_zip_next hT F.entry_zip_next (zipS_end S2 (I.ok.hd hc) D hz hTI hTO h1 h2 p2 hx he fun h' e hk he => ?_) (F.args_zip_next_1 _))))
    obtain ⟨o, ho, hc'⟩ := he
    refine wpAny_bind (wpAny_isInstance (T := "StopIteration") (b := true) ⟨o, ho, hc'⟩ isSubtype_stop ?_)
    refine wpAny_pure ⟨rfl, I.turnedL (t' := s.toks + 1) (ch := [z, TI, TO, i1, i2]) (fun c o hb q => hk c o (fun q' => hb (by simp [q'])) (fun q' => hb (by simp [q'])) (fun q' => hb (by simp [q'])) (fun q' => hb (by simp [q'])) q) hf⟩
  self := fun A i s Q E st h => wpAny_pyIter_zip st.1 h
/-! ### zip of a text and a tuple made -/
abbrev zST1 (h : Heap) (x : Str) (t : Tok) : Heap := h.push { cls := .type "str_ascii_iterator", data := .fields #[.str x t, .int 0 0] }
abbrev zST2 (h : Heap) (x : Str) (t : Tok) (l2 : Addr) : Heap := (zST1 h x t).push { cls := .type "tuple_iterator", data := .fields #[.ref l2, .int 0 0] }
abbrev zST3 (h : Heap) (x : Str) (t : Tok) (l2 : Addr) : Heap := (zST2 h x t l2).push { cls := .type "tuple", data := .seq #[.ref h.objs.size, .ref (zST1 h x t).objs.size] }
abbrev zST4 (h : Heap) (x : Str) (t : Tok) (l2 : Addr) : Heap := (zST3 h x t l2).push { cls := .type "tuple", data := .seq #[.none, .none] }
abbrev zST5 (h : Heap) (x : Str) (t : Tok) (l2 : Addr) : Heap := (zST4 h x t l2).push { cls := .type "zip", data := .fields #[.none, .bool false, .bool false, .ref (zST2 h x t l2).objs.size, .ref (zST3 h x t l2).objs.size] }
theorem new_zST (x : Str) (t : Tok) (l2 : Addr) (ys : Array Value) (hx : x.cps.all (· < 128) = true) : Meets (Builtin.«zip.__new__» ⟨[.type "zip", .str x t, .ref l2], []⟩) (fun _ R s => s.heap.IsTuple l2 ys ∧ R (.ok (.ret (.ref (zST4 s.heap x t l2).objs.size))) { s with heap := zST5 s.heap x t l2 }) :=
  .of_wp fun prog w A R s h => by
    obtain ⟨hp, g, d, tk, os⟩ := s
    obtain ⟨k2, h⟩ := h
    have hsub := sub_zip
    have e2 : Heap.IsTuple (Shared.heap ⟨hp.push { cls := .type "str_ascii_iterator", data := .fields #[.str x t, .int 0 0] }, g, d, tk, os⟩) l2 ys := Heap.IsTuple.push k2 _
    wp_walk using wpAny_pyIter_ascii hx, wpAny_pyIter_tuple e2
    exact ⟨_, rfl, h⟩
section
variable {P : Program} {w : World} {A : Around} {E : Value → Shared → Prop} {s : Shared}
theorem call_zST {x : Str} {t : Tok} {l2 : Addr} {ys : Array Value} {Q : Value → Shared → Prop} (hx : x.cps.all (· < 128) = true) (k2 : s.heap.IsTuple l2 ys)
    (h : ∀ h', IsZip h' (s.heap.objs.size + 4) (s.heap.objs.size + 2) (s.heap.objs.size + 3) .none → IsPair h' (s.heap.objs.size + 2) (.ref s.heap.objs.size) (.ref (s.heap.objs.size + 1)) → IsPair h' (s.heap.objs.size + 3) .none .none →
      h'.IsStrIter s.heap.objs.size "str_ascii_iterator" x t 0 → h'.IsTupleIter (s.heap.objs.size + 1) l2 0 → (∀ c o, s.heap.get? c = some o → h'.get? c = some o) → Q (.ref (s.heap.objs.size + 4)) { s with heap := h' }) :
    wpAny (model P w) A (call (.type "zip") [.str x t, .ref l2]) Q E s := by
  refine callType_new F.called_zip (by decide) (F.typeCall_zip_2 _ _) (F.newCall_zip_2 _ _) (fun obj => F.args_object_init_3 obj _ _) F.entry_zip_new (new_zST x t l2 ys hx) ⟨k2, ?_⟩
  have z1 : (zST1 s.heap x t).objs.size = s.heap.objs.size + 1 := Heap.size_push ..
  have z2 : (zST2 s.heap x t l2).objs.size = s.heap.objs.size + 2 := by rw [Heap.size_push, z1]
  have z3 : (zST3 s.heap x t l2).objs.size = s.heap.objs.size + 3 := by rw [Heap.size_push, z2]
  have z4 : (zST4 s.heap x t l2).objs.size = s.heap.objs.size + 4 := by rw [Heap.size_push, z3]
  have g5 : (zST5 s.heap x t l2).get? (zST4 s.heap x t l2).objs.size = some _ := Heap.get?_push_size _ rfl
  have g4 : (zST5 s.heap x t l2).get? (zST3 s.heap x t l2).objs.size = some _ := Heap.get?_push_of_some _ (Heap.get?_push_size _ rfl)
  have g3 : (zST5 s.heap x t l2).get? (zST2 s.heap x t l2).objs.size = some _ := Heap.get?_push_of_some _ (Heap.get?_push_of_some _ (Heap.get?_push_size _ rfl))
  have g2 : (zST5 s.heap x t l2).get? (zST1 s.heap x t).objs.size = some _ := Heap.get?_push_of_some _ (Heap.get?_push_of_some _ (Heap.get?_push_of_some _ (Heap.get?_push_size _ rfl)))
  have g1 : (zST5 s.heap x t l2).get? s.heap.objs.size = some _ := Heap.get?_push_of_some _ (Heap.get?_push_of_some _ (Heap.get?_push_of_some _ (Heap.get?_push_of_some _ (Heap.get?_push_size _ rfl))))
  show _ ∧ _
  rw [z2, z3, z4] at g5; rw [z1, z2] at g3; rw [z3] at g4; rw [z1] at g2; rw [z4]
  exact ⟨⟨_, g5, rfl⟩, h _ g5 g3 g4 ⟨_, g1, rfl, rfl⟩ ⟨_, g2, rfl, rfl⟩ fun c o x => Heap.get?_push_of_some _ (Heap.get?_push_of_some _ (Heap.get?_push_of_some _ (Heap.get?_push_of_some _ (Heap.get?_push_of_some _ x))))⟩
end
def iZipS (K : PySem.W.Frag) (ta : TA) : TI := fun σ H R => ta σ H fun vs H1 => ∃ x b ys, vs = [.str x, .ref b] ∧ x.cps.all (· < 128) = true ∧ SqT K H1 b ys ∧ R (ItzS x (fun H xs => SqT K H b xs)) H1
theorem p_zipS {X : Cx} {K : PySem.W.Frag} {e e2 : Expr} {ta : TA} {p pos tpos : Pos} {elts : List Expr} {kk : Nat} (hg : Gl X "zip") (hm : X.mg "zip" = none) (ha : PA X [e, e2] ta) (hK : X.K = K := by rfl)
    (hs : starEach [e, e2] X.env = (false, eval e X.env) :: starEach [e2] X.env := by rfl) (hpl : (backTo pos (starEach [e2] X.env)).any (·.1) = false := by rfl) : PI X (.Tuple elts kk tpos) (.Call (.Name "zip" p) [e, e2] [] pos) (iZipS K ta) := by
  subst hK
  refine ⟨fun pins s σ H R I h => ?_⟩
  refine Call_ (ld_blt I hg hm PyProof.Rows.boot_zip (PyProof.Rows.callWith_type1 (thn (ha.run pos pins s σ H _ I h) fun us s1 ⟨vs, H1, I1, r1, q1⟩ => ?_) hs hpl))
  obtain ⟨x, b, ys, rfl, hx, hqy, q⟩ := q1
  obtain ⟨t, rfl⟩ : ∃ t, us = [.str x t, .ref b] := by
    cases r1 with
    | cons r rr =>
      cases rr with
      | cons r' rr =>
        cases rr
        obtain ⟨t, rfl⟩ := r
        cases r'
        exact ⟨t, rfl⟩
  have fresh5 : ∀ c, c ∈ [s1.heap.objs.size + 4, s1.heap.objs.size + 2, s1.heap.objs.size + 3, s1.heap.objs.size, s1.heap.objs.size + 1] → FpOk X pins H1 c := fun c hcm => by
    have hle : s1.heap.objs.size ≤ c := by
      simp only [List.mem_cons, List.not_mem_nil, or_false] at hcm
      omega
    exact I1.fpOk hle (I1.hok.fresh hle)
  obtain ⟨its2, rv2, p2, lb⟩ := (side_tup (a := b)).get X pins σ H1 s1 ys rfl I1 hqy
  refine call_zST hx p2 fun h' hz hTI hTO h1 h2 hk => wpAny_pyIter_zip hz ?_
  have I2 : L2.Inv X pins σ H1 { s1 with heap := h' } := I1.kept (t' := s1.toks) hk
  exact ⟨s1.heap.objs.size + 4, [s1.heap.objs.size + 4, s1.heap.objs.size + 2, s1.heap.objs.size + 3, s1.heap.objs.size, s1.heap.objs.size + 1], _, _, H1, rfl, I2, turn_zipS src_tup side_tup (PySem.W.ktu_apart s1.heap.objs.size b b lb lb), ⟨hz, hTI, ⟨_, _, hTO⟩, h1, h2⟩, fresh5, q⟩
theorem walk_zipS {K : PySem.W.Frag} {x : Str} {b : Addr} {ys : List V} (hn : ys.length < x.cps.size) : Walk (ItzS x (fun H zs => SqT K H b zs)) ys.length (fun H => SqT K H b ys) (fun i H v H' => ∃ T ch y, v = .ref T ∧ H T = none ∧ H' = upd H T (.tup [.str ⟨#[ch]⟩, y]) ∧ x.cps[i]? = some ch ∧ ys[i]? = some y) := by
  refine ⟨fun i _ hi q => ?_, fun _ q => ?_, fun i H v H' _ q y => ?_⟩
  · have k1 : i < x.cps.size := by omega
    exact ⟨ys, ys[i], x.cps[i], by simp [k1], q, by simp [hi]⟩
  · exact ⟨ys, x.cps[ys.length], q, by simp [hn], Nat.le_refl _⟩
  · obtain ⟨T, ch, y, k1, k2, k3, k4, k5⟩ := y
    exact ⟨T, ch, y, k1, k2, k3, k4, k5 ys q⟩
end Bw
set_option Elab.async false
set_option linter.all false
set_option maxRecDepth 100000
set_option maxHeartbeats 4000000
namespace Bw
open PySem PySem.Spec PyProof.Rows L2
section
variable {X : Cx}
theorem pe_gstr {x : Str} {pos : Pos} {y : Str} (hg : Gl X x) (hm : ∃ t, X.mg x = some (.str y t)) (hdb : (x == ("__debug__" : Str)) = false := by decide) : PE X (.Name x pos) (tC (.str y)) := by
  obtain ⟨t, hm⟩ := hm
  exact pe_glob hg hm ⟨t, rfl⟩ (hd := hdb)
def rJoin (K : PySem.W.Frag) : V → List V → Hp → VK → Prop := fun x xs H Q => ∃ a p, ∃ ys : List Str, x = .str a ∧ xs = [.ref p] ∧ (SqL K H p (ys.map V.str) ∨ SqT K H p (ys.map V.str)) ∧ (ys.map (·.length)).sum + ys.length * a.length ≤ 16777216 ∧ Q (.str (Txt.join a ys)) H
theorem p_join {K : PySem.W.Frag} {o e : Expr} {to te : TE} {apos pos : Pos} (ho : PE X o to) (he : PE X e te) (hK : X.K = K := by rfl) (hs : starEach [e] X.env = [(false, eval e X.env)] := by rfl) (hbase : attributeBase o "join" X.env (eval o X.env) = eval o X.env := by rfl) (hline : (apos.endLine == pos.line) = true := by rfl) :
    PE X (.Call (.Attribute o "join" apos) [e] [] pos) (tM1 (rJoin K) to te) := by
  subst hK
  exact pe_join ho he hs hbase hline
end
theorem join_len : ∀ ys : List Str, (Txt.join ("" : Str) ys).length ≤ (ys.map (·.length)).sum := by
  intro ys
  rw [show Txt.join ("" : Str) ys = Str.join ("" : Str) ys from StrLaws.glued_eq_join _ _]
  have h0 : (("" : Str)).length = 0 := by decide
  have : ∀ ys : List Str, (Str.join ("" : Str) ys).length ≤ (ys.map (·.length)).sum := by
    intro ys
    induction ys with
    | nil => exact Nat.zero_le _
    | cons a r ih =>
      cases r with
      | nil =>
        show a.length ≤ a.length + 0
        omega
      | cons b r =>
        show (a ++ ("" : Str) ++ Str.join ("" : Str) (b :: r)).length ≤ _
        rw [Str.length_append, Str.length_append, h0, List.map_cons, List.sum_cons]
        omega
  exact this ys
theorem sum_le {ys : List Str} {m : Nat} (h : ∀ y ∈ ys, y.length ≤ m) : (ys.map (·.length)).sum ≤ ys.length * m := by
  induction ys with
  | nil => exact Nat.zero_le _
  | cons a r ih =>
    rw [List.map_cons, List.sum_cons, List.length_cons, Nat.succ_mul]
    have := ih fun y hy => h y (List.mem_cons_of_mem _ hy)
    have := h a (List.mem_cons_self ..)
    omega
theorem joinok {sep : Str} {ys : List Str} (h : (ys.map (·.length)).sum + ys.length * sep.length ≤ 16777216) : JoinOk sep ys = true := by
  unfold JoinOk
  rw [StrLaws.joinTotal]
  unfold Builtin.Str.tooLong
  rw [decide_eq_false (by rw [sizeLine_eq]; omega)]
  rfl
theorem log_lt {n k : Nat} (hk : 0 < k) (h : n < 2 ^ k) : n.log2 < k := by
  by_cases z : n = 0
  · subst z
    exact hk
  · exact (Nat.log2_lt z).mpr h
end Bw
set_option Elab.async false
set_option linter.all false
set_option maxRecDepth 100000
set_option maxHeartbeats 4000000
namespace Bw
open PySem PySem.Spec PyProof.Rows L2
theorem Same.updN {H H' : Hp} {D : Addr} {o : HO} (s : Same H H') (h : H D = none) : Same H (upd H' D o) := fun c u e => by
  rw [upd_ne (ne_of_none e h)]
  exact s _ _ e
theorem ref_at {ts : List Addr} {i : Nat} {x : V} (h : (ts.map V.ref)[i]? = some x) : ∃ t, ts[i]? = some t ∧ x = .ref t := by
  rw [List.getElem?_map] at h
  cases e : ts[i]? with
  | none =>
    rw [e] at h
    cases h
  | some t =>
    rw [e] at h
    exact ⟨t, rfl, (Option.some.inj h).symm⟩
/-! ### rows written -/
def numT (z : Int) : Str := Str.ofString (toString z)
def rowT (r : List Int) : Str := Txt.join "," (r.map numT)
def rowsT (rows : List (List Int)) : Str := Txt.join ";" (rows.map rowT)
theorem numT_len {z : Int} (h : z.natAbs < 2 ^ 20) : (numT z).length ≤ 21 := by
  unfold numT
  rw [PySem.ofString_length]
  exact int_text_length_le (by decide) (log_lt (by decide) h)
theorem joinS_len (sep : Str) : ∀ ys : List Str, (Txt.join sep ys).length ≤ (ys.map (·.length)).sum + ys.length * sep.length := by
  intro ys
  rw [show Txt.join sep ys = Str.join sep ys from StrLaws.glued_eq_join _ _]
  have : ∀ ys : List Str, (Str.join sep ys).length ≤ (ys.map (·.length)).sum + ys.length * sep.length := by
    intro ys
    induction ys with
    | nil => exact Nat.zero_le _
    | cons a r ih =>
      cases r with
      | nil =>
        show a.length ≤ a.length + 0 + 1 * sep.length
        omega
      | cons b r =>
        show (a ++ sep ++ Str.join sep (b :: r)).length ≤ _
        rw [Str.length_append, Str.length_append, List.map_cons, List.sum_cons, List.length_cons, Nat.succ_mul]
        omega
  exact this ys
theorem rowT_len {r : List Int} (h : ∀ z ∈ r, z.natAbs < 2 ^ 20) (l : r.length ≤ 100) : (rowT r).length ≤ 2200 := by
  unfold rowT
  have h1 := joinS_len "," (r.map numT)
  have h2 : ((r.map numT).map (·.length)).sum ≤ (r.map numT).length * 21 := sum_le fun y hy => by
    obtain ⟨z, hz, rfl⟩ := List.mem_map.mp hy
    exact numT_len (h z hz)
  have h3 : (("," : Str)).length = 1 := by decide
  rw [List.length_map] at h1 h2
  rw [h3] at h1
  omega
section
variable {P : Program} {w : World} {K : PySem.W.Frag} {mg : Str → Option Value} {base : Heap}
abbrev s_row_text : Stmt := topS 15
abbrev n_row_text : List Str := ["numbers", "number"]
theorem sc_row_text : FnScope n_row_text ["numbers"] (defScope s_row_text) := ⟨rfl, rfl, rfl, by decide +kernel, rfl, by decide +kernel, by decide +kernel⟩
def spRowText : Sp := fun vs H Q _ => ∃ (a : Addr) (r : List Int), vs = [.ref a] ∧ H a = some (.tup (r.map V.int)) ∧ r.length ≤ 100 ∧ (∀ z ∈ r, z.natAbs < 2 ^ 20) ∧ ∀ H', Same H H' → Q (.str (rowT r)) H'
theorem ok_rowtext {f : Addr} {fd : FuncData} (F : Fun K "row_text" "row_text" s_row_text f fd) (T : Tx mg) : FnOk P w K mg base CX0 1 f fd ["numbers"] spRowText := by
  refine F.ok sc_row_text (fun vs H Q E h => ?_) (fun cdv A outer s H vs Q E hr h => ?_)
  · obtain ⟨a, r, rfl, _⟩ := h
    rfl
  · obtain ⟨a, r, rfl, ha, lr, hz, q⟩ := h
    refine ⟨_, (pss_one (ps_ret (p_join (K := K) pe_str (pe_lc (own := [("number", 1)]) (by rfl) sc_row_text.nd (p_tup (K := K) (pv 0)) (blkOk_by (own := [("number", 1)]) (N := n_row_text) (sc := defScope s_row_text) (by decide +kernel)) (fun _ _ _ _ _ => (pg_name (i := 1) sc_row_text.nd rfl (.inl rfl))) (fun _ _ _ _ _ => pts_nil) (fun _ _ _ _ _ => (pe_callTy call_str_int (by rfl) T.str (by decide +kernel) (pa_cons (pv 1) pa_nil))))))), ?_⟩
    refine ⟨⟨_, rfl⟩, .ref a, rfl, a, rfl, ⟨_, SqT.of ha⟩, fun D eD => ?_⟩
    refine lc_tup (K := K) (a := a) (xs := r.map V.int) (fun j H' => H' D = some (.lst (((r.take j).map numT).map V.str)) ∧ Same H H') ⟨upd_same, same_upd eD⟩ (fun j H' _ ⟨_, s⟩ => SqT.of (s _ _ ha)) ?_ ?_
    · rintro j v H1 hv ⟨e1, s1⟩
      obtain ⟨z, ez, rfl⟩ := int_at hv
      have hj := (List.getElem?_eq_some_iff.mp ez).1
      refine ⟨rfl, .int z, rfl, z, rfl, Nat.lt_trans (log_lt (by decide) (hz z (List.mem_of_getElem? ez))) (by decide), _, e1, by rw [List.length_map, List.length_map, List.length_take]; exact small1000 (by omega), ?_, Same.updN s1 eD⟩
      rw [upd_same, List.take_succ, ez, List.map_append, List.map_append]
      rfl
    · rintro H1 ⟨e1, s1⟩
      rw [List.length_map, List.take_length] at e1
      refine ⟨_, D, r.map numT, rfl, rfl, .inl (SqL.of e1), ?_, q H1 s1⟩
      have h2 : ((r.map numT).map (·.length)).sum ≤ (r.map numT).length * 21 := sum_le fun y hy => by
        obtain ⟨z, h, rfl⟩ := List.mem_map.mp hy
        exact numT_len (hz z h)
      have h3 : (("," : Str)).length = 1 := by decide
      rw [List.length_map] at h2
      rw [h3, List.length_map]
      omega
abbrev s_rows_text : Stmt := topS 17
abbrev n_rows_text : List Str := ["rows", "row"]
theorem sc_rows_text : FnScope n_rows_text ["rows"] (defScope s_rows_text) := ⟨rfl, rfl, rfl, by decide +kernel, rfl, by decide +kernel, by decide +kernel⟩
def WrT (rows : List (List Int)) : Prop := rows.length ≤ 200 ∧ ∀ r ∈ rows, r.length ≤ 100 ∧ ∀ z ∈ r, z.natAbs < 2 ^ 20
theorem rows_fit {rows : List (List Int)} (h : WrT rows) : ((rows.map rowT).map (·.length)).sum + (rows.map rowT).length * ((";" : Str)).length ≤ 16777216 := by
  have h2 : ((rows.map rowT).map (·.length)).sum ≤ (rows.map rowT).length * 2200 := sum_le fun y hy => by
    obtain ⟨r, hr, rfl⟩ := List.mem_map.mp hy
    exact rowT_len (h.2 r hr).2 (h.2 r hr).1
  have h3 : ((";" : Str)).length = 1 := by decide
  have h4 := h.1
  rw [List.length_map] at h2
  rw [h3, List.length_map]
  omega
def spRowsText : Sp := fun vs H Q _ => ∃ (a : Addr) (rows : List (List Int)), vs = [.ref a] ∧ TabAt H a rows ∧ WrT rows ∧ ∀ H', Same H H' → Q (.str (rowsT rows)) H'
theorem ok_rowstext {f : Addr} {fd : FuncData} (F : Fun K "rows_text" "rows_text" s_rows_text f fd) (T : Tx mg) (c_row_text : Cal P w K mg base CX0 1 "row_text" ["numbers"] spRowText) : FnOk P w K mg base CX0 2 f fd ["rows"] spRowsText := by
  refine F.ok sc_rows_text (fun vs H Q E h => ?_) (fun cdv A outer s H vs Q E hr h => ?_)
  · obtain ⟨a, rows, rfl, _⟩ := h
    rfl
  · obtain ⟨a, rows, rfl, hT, hw, q⟩ := h
    obtain ⟨ts, ha, hts⟩ := id hT
    refine ⟨_, (pss_one (ps_ret (p_join (K := K) pe_str (pe_lc (own := [("row", 1)]) (by rfl) sc_rows_text.nd (p_tup (K := K) (pv 0)) (blkOk_by (own := [("row", 1)]) (N := n_rows_text) (sc := defScope s_rows_text) (by decide +kernel)) (fun _ _ _ _ _ => (pg_name (i := 1) sc_rows_text.nd rfl (.inl rfl))) (fun _ _ _ _ _ => pts_nil) (fun _ _ _ _ _ => (pe_cal c_row_text hr (by rfl) (pa_cons (pv 1) pa_nil))))))), ?_⟩
    obtain ⟨lts, hts⟩ := hts
    refine ⟨⟨_, rfl⟩, .ref a, rfl, a, rfl, ⟨_, SqT.of ha⟩, fun D eD => ?_⟩
    refine lc_tup (K := K) (a := a) (xs := ts.map V.ref) (fun j H' => H' D = some (.lst (((rows.take j).map rowT).map V.str)) ∧ Same H H') ⟨upd_same, same_upd eD⟩ (fun j H' _ ⟨_, s⟩ => SqT.of (s _ _ ha)) ?_ ?_
    · rintro j v H1 hv ⟨e1, s1⟩
      obtain ⟨t, et, rfl⟩ := ref_at hv
      have hj : j < rows.length := by
        have := (List.getElem?_eq_some_iff.mp et).1
        omega
      obtain ⟨b, eb, hb⟩ := hts j _ (List.getElem?_eq_getElem hj)
      cases (Option.some.inj (et.symm.trans eb))
      have hr' := hw.2 rows[j] (List.getElem_mem hj)
      have hl := hw.1
      refine ⟨rfl, .ref t, rfl, t, _, rfl, s1 _ _ hb, hr'.1, hr'.2, fun H2 s2 => ⟨_, s2 _ _ e1, by rw [List.length_map, List.length_map, List.length_take]; exact small1000 (by omega), ?_, Same.updN (s1.trans s2) eD⟩⟩
      rw [upd_same, List.take_succ, List.getElem?_eq_getElem hj, List.map_append, List.map_append]
      rfl
    · rintro H1 ⟨e1, s1⟩
      rw [List.length_map, lts, List.take_length] at e1
      exact ⟨_, D, rows.map rowT, rfl, rfl, .inl (SqL.of e1), rows_fit hw, q H1 s1⟩
abbrev s_law_rows_text : Stmt := topS 42
abbrev n_law_rows_text : List Str := ["_law_rows", "_law_row", "_law_one"]
theorem sc_law_rows_text : FnScope n_law_rows_text ["_law_rows"] (defScope s_law_rows_text) := ⟨rfl, rfl, rfl, by decide +kernel, rfl, by decide +kernel, by decide +kernel⟩
theorem ok_lrowstext {f : Addr} {fd : FuncData} (F : Fun K "_law_rows_text" "_law_rows_text" s_law_rows_text f fd) (T : Tx mg) : FnOk P w K mg base CX0 1 f fd ["_law_rows"] spRowsText := by
  refine F.ok sc_law_rows_text (fun vs H Q E h => ?_) (fun cdv A outer s H vs Q E hr h => ?_)
  · obtain ⟨a, rows, rfl, _⟩ := h
    rfl
  · obtain ⟨a, rows, rfl, hT, hw, q⟩ := h
    obtain ⟨ts, ha, lts, hts⟩ := id hT
    refine ⟨_, (pss_one (ps_ret (p_join (K := K) pe_str (pe_lc (own := [("_law_row", 1)]) (by rfl) sc_law_rows_text.nd (p_tup (K := K) (pv 0)) (blkOk_by (own := [("_law_row", 1)]) (N := n_law_rows_text) (sc := defScope s_law_rows_text) (by decide +kernel)) (fun _ _ _ _ _ => (pg_name (i := 1) sc_law_rows_text.nd rfl (.inl rfl))) (fun _ _ _ _ _ => pts_nil) (fun _ _ _ _ _ => (p_join (K := K) pe_str (pe_lc (own := [("_law_one", 2)]) (by rfl) sc_law_rows_text.nd (p_tup (K := K) (pv 1)) (blkOk_by (own := [("_law_one", 2)]) (N := n_law_rows_text) (sc := { kind := .function, names := [(".0", .local), ("_law_row", .local)], isGenerator := false, isCoroutine := false }) (by decide +kernel)) (fun _ _ _ _ _ => (pg_name (i := 2) sc_law_rows_text.nd rfl (.inl rfl))) (fun _ _ _ _ _ => pts_nil) (fun _ _ _ _ _ => (pe_callTy call_str_int (by rfl) T.str (by decide +kernel) (pa_cons (pv 2) pa_nil)))))))))), ?_⟩
    refine ⟨⟨_, rfl⟩, .ref a, rfl, a, rfl, ⟨_, SqT.of ha⟩, fun D eD => ?_⟩
    refine lc_tup (K := K) (a := a) (xs := ts.map V.ref) (fun j H' => H' D = some (.lst (((rows.take j).map rowT).map V.str)) ∧ Same H H') ⟨upd_same, same_upd eD⟩ (fun j H' _ ⟨_, s⟩ => SqT.of (s _ _ ha)) ?_ ?_
    · rintro j v H1 hv ⟨e1, s1⟩
      obtain ⟨t, et, rfl⟩ := ref_at hv
      have hj : j < rows.length := by
        have := (List.getElem?_eq_some_iff.mp et).1
        omega
      obtain ⟨b, eb, hb⟩ := hts j _ (List.getElem?_eq_getElem hj)
      cases (Option.some.inj (et.symm.trans eb))
      obtain ⟨lr, hz⟩ := hw.2 rows[j] (List.getElem_mem hj)
      have hl := hw.1
      have hb := s1 _ _ hb
      refine ⟨rfl, ⟨_, rfl⟩, .ref t, rfl, t, rfl, ⟨_, SqT.of hb⟩, fun D2 eD2 => ?_⟩
      refine lc_tup (K := K) (a := t) (xs := rows[j].map V.int) (fun i H' => H' D2 = some (.lst (((rows[j].take i).map numT).map V.str)) ∧ Same H1 H') ⟨upd_same, same_upd eD2⟩ (fun i H' _ ⟨_, s⟩ => SqT.of (s _ _ hb)) ?_ ?_
      · rintro i v H2 hv ⟨e2, s2⟩
        obtain ⟨z, ez, rfl⟩ := int_at hv
        have hi := (List.getElem?_eq_some_iff.mp ez).1
        refine ⟨rfl, .int z, rfl, z, rfl, Nat.lt_trans (log_lt (by decide) (hz z (List.mem_of_getElem? ez))) (by decide), _, e2, by rw [List.length_map, List.length_map, List.length_take]; exact small1000 (by omega), ?_, Same.updN s2 eD2⟩
        rw [upd_same, List.take_succ, ez, List.map_append, List.map_append]
        rfl
      · rintro H2 ⟨e2, s2⟩
        rw [List.length_map, List.take_length] at e2
        refine ⟨_, D2, rows[j].map numT, rfl, rfl, .inl (SqL.of e2), ?_, _, s2 _ _ e1, by rw [List.length_map, List.length_map, List.length_take]; exact small1000 (by omega), ?_, Same.updN (s1.trans s2) eD⟩
        · have h2 : ((rows[j].map numT).map (·.length)).sum ≤ (rows[j].map numT).length * 21 := sum_le fun y hy => by
            obtain ⟨z, h, rfl⟩ := List.mem_map.mp hy
            exact numT_len (hz z h)
          have h3 : (("," : Str)).length = 1 := by decide
          rw [List.length_map] at h2
          rw [h3, List.length_map]
          omega
        · rw [upd_same, List.take_succ, List.getElem?_eq_getElem hj, List.map_append, List.map_append]
          rfl
    · rintro H1 ⟨e1, s1⟩
      rw [List.length_map, lts, List.take_length] at e1
      exact ⟨_, D, rows.map rowT, rfl, rfl, .inl (SqL.of e1), rows_fit hw, q H1 s1⟩
end
end Bw
set_option Elab.async false
set_option linter.all false
set_option maxRecDepth 100000
set_option maxHeartbeats 4000000
namespace Bw
open PySem PySem.Spec PyProof.Rows L2
/-! ### figures ahead -/
def isFig (c : Nat) : Bool := decide (c ∈ (("0123456789" : Str)).cps.toList)
def lead (x : Str) : Nat := (x.cps.toList.takeWhile isFig).length
theorem tw_at {α : Type} {p : α → Bool} : ∀ {l : List α} {i : Nat} {c : α}, l[i]? = some c → i < (l.takeWhile p).length → p c = true
  | [], i, c, h, _ => by simp at h
  | a :: l, i, c, h, k => by
    rw [List.takeWhile_cons] at k
    split at k
    · next ha =>
      cases i with
      | zero =>
        cases (Option.some.inj h)
        exact ha
      | succ i => exact tw_at (l := l) h (Nat.lt_of_succ_lt_succ k)
    · simp at k
theorem tw_end {α : Type} {p : α → Bool} : ∀ {l : List α} {c : α}, l[(l.takeWhile p).length]? = some c → p c = false
  | [], c, h => by simp at h
  | a :: l, c, h => by
    rw [List.takeWhile_cons] at h
    split at h
    · exact tw_end (l := l) h
    · next ha =>
      cases (Option.some.inj h)
      simpa using ha
theorem lead_le (x : Str) : lead x ≤ x.length := by
  unfold lead
  have := (List.takeWhile_sublist (l := x.cps.toList) isFig).length_le
  rw [Array.length_toList] at this
  exact this
section
variable {P : Program} {w : World} {K : PySem.W.Frag} {mg : Str → Option Value} {base : Heap}
abbrev s_leading_figures : Stmt := topS 13
abbrev n_leading_figures : List Str := ["text", "at", "end"]
theorem sc_leading_figures : FnScope n_leading_figures ["text", "at"] (defScope s_leading_figures) := ⟨rfl, rfl, rfl, by decide +kernel, rfl, by decide +kernel, by decide +kernel⟩
def spLead : Sp := fun vs H Q _ => ∃ x : Str, vs = [.str x, .int 0] ∧ x.length ≤ 100000 ∧ Q (.str (cutS x (some 0) (some (lead x : Int)))) H
theorem ok_lead {f : Addr} {fd : FuncData} (F : Fun K "leading_figures" "leading_figures" s_leading_figures f fd) (T : Tx mg) : FnOk P w K mg base CX0 1 f fd ["text", "at"] spLead := by
  refine F.ok sc_leading_figures (fun vs H Q E h => ?_) (fun cdv A outer s H vs Q E hr h => ?_)
  · obtain ⟨x, rfl, _⟩ := h
    rfl
  · obtain ⟨x, rfl, lx, q⟩ := h
    have lz : x.length ≤ sizeLine := by rw [sizeLine_eq]; omega
    refine ⟨_, (pss_cons (ps_set (i := 2) sc_leading_figures.nd rfl (.inl rfl) (pv 1))
  (pss_cons (ps_while PassesOwn.never (PW.pt (pw_and (pt_cmpR op_lt (pv 2) (pe_callB call_len_str (by rfl) T.len PySem.boot_len (pa_cons (pv 0) pa_nil)) (nomark _)) (pw_and1 (pt_cmpR op_in_sign (pe_ix ix_str (pv 0) (pv 2) (fun _ _ => rfl)) (pe_gstr (by rfl) T.FIGURES) (by rfl)))))
    (pss_one (ps_aug (i := 2) sc_leading_figures.nd rfl (.inl rfl) pe_int ip_add)))
  (pss_one (ps_ret (pe_slice sl_str (pv 0) (po_some (pv 1)) (po_some (pv 2))))))), ?_⟩
    refine ⟨.int 0, rfl, fun m σ' H' => ∃ e : Nat, e + m = lead x ∧ σ' = [some (.str x), some (.int 0), some (.int e)] ∧ H' = H, ⟨lead x, 0, by omega, rfl, rfl⟩, ?_⟩
    rintro m σ' H' ⟨e, em, rfl, rfl⟩
    have hle := lead_le x
    refine ⟨.int e, rfl, .str x, rfl, x, rfl, lz, _, _, rfl, rfl, _, rfl, ite2 (fun h1 => ?_) (fun h1 => ?_)⟩
    · have h1 : e < x.length := by
        have := of_decide_eq_true h1
        omega
      have he : x.cps.toList[e]? = some x.cps.toList[e] := List.getElem?_eq_getElem (by rw [Array.length_toList]; exact h1)
      refine ⟨.str x, rfl, .int e, rfl, x, e, _, rfl, rfl, lz, atI_nat he, _, _, rfl, rfl, _, rfl, ite2 (fun h2 => ?_) (fun h2 => ?_)⟩
      · have hm : 0 < m := by
          rcases Nat.eq_zero_or_pos m with z | z
          · exfalso
            have z2 : e = lead x := by omega
            subst z2
            have := tw_end he
            unfold isFig at this
            rw [this] at h2
            exact absurd h2 (by decide)
          · exact z
        refine ⟨fun σ2 H2 => σ2 = [some (.str x), some (.int 0), some (.int ((e : Int) + 1))] ∧ H2 = H', fun σ2 H2 ⟨e1, e2⟩ => ⟨m - 1, by omega, e + 1, by omega, e1, e2⟩, ?_⟩
        exact ⟨.int e, rfl, _, _, rfl, rfl, rfl, rfl⟩
      · have z : e = lead x := by
          rcases Nat.lt_or_ge e (lead x) with z | z
          · exfalso
            have := tw_at he z
            unfold isFig at this
            exact h2 this
          · omega
        subst z
        exact ⟨.str x, rfl, .int 0, rfl, 0, rfl, .int _, rfl, _, rfl, x, rfl, lz, q⟩
    · have z : e = lead x := by
        have h1 : ¬ ((e : Int) < (x.length : Int)) := fun z => h1 (decide_eq_true z)
        omega
      subst z
      refine ite2 (fun z => absurd z (by decide)) (fun _ => ?_)
      exact ⟨.str x, rfl, .int 0, rfl, 0, rfl, .int _, rfl, _, rfl, x, rfl, lz, q⟩
end
end Bw
set_option Elab.async false
set_option linter.all false
set_option maxRecDepth 100000
set_option maxHeartbeats 4000000
namespace Bw
open PySem PySem.Spec PyProof.Rows L2 PySem.NumText
/-! ### a number read -/
theorem fig_bounds : ∀ c : Nat, isFig c = true → 48 ≤ c ∧ c ≤ 57 := by
  intro c h
  have h := of_decide_eq_true h
  have e : (("0123456789" : Str)).cps.toList = [48, 49, 50, 51, 52, 53, 54, 55, 56, 57] := by decide +kernel
  rw [e] at h
  simp only [List.mem_cons, List.not_mem_nil, or_false] at h
  omega
theorem tw_all {α : Type} {p : α → Bool} : ∀ {l : List α}, (l.takeWhile p).length = l.length → ∀ c ∈ l, p c = true
  | [], _, c, h => by cases h
  | a :: l, h, c, hc => by
    rw [List.takeWhile_cons] at h
    split at h
    · next ha =>
      rcases List.mem_cons.mp hc with rfl | hc
      · exact ha
      · exact tw_all (l := l) (Nat.succ.inj h) c hc
    · simp at h
theorem cut_len (x : Str) : (cutS x (some 0) (some (lead x : Int))).cps.toList.length = lead x := by
  unfold cutS
  rw [show HT.sIx x.length 0 (some 0) = min 0 x.length from HT.sIx_nat _ 0 0, show HT.sIx x.length x.length (some (lead x : Int)) = min (lead x) x.length from HT.sIx_nat _ _ _]
  have h := lead_le x
  have hl : x.cps.toList.length = x.length := Array.length_toList
  rw [Nat.zero_min, Nat.min_eq_left h, List.drop_zero, Nat.sub_zero, List.toList_toArray, List.length_take, hl]
  exact Nat.min_eq_left h
theorem all_figs {x : Str} (h : cutS x (some 0) (some (lead x : Int)) = x) : ∀ c ∈ x.cps.toList, isFig c = true := by
  have e := cut_len x
  rw [h] at e
  exact tw_all e.symm
theorem starts {x : Str} (h : Txt.startswith x "-" = true) : ∃ cs, x.cps.toList = 45 :: cs := by
  obtain ⟨⟨l⟩⟩ := x
  cases l with
  | nil => exact absurd h (by decide)
  | cons c cs =>
    refine ⟨cs, ?_⟩
    show c :: cs = 45 :: cs
    unfold Txt.startswith at h
    rw [Bool.and_eq_true] at h
    have h2 := h.2
    unfold Builtin.Str.subAt at h2
    have h3 := eq_of_beq h2
    have h4 := congrArg Array.toList h3
    rw [Array.toList_extract] at h4
    have h5 : [c] = [45] := h4
    injection h5 with h6
    rw [h6]
theorem cut1 {x : Str} {cs : List Nat} (h : x.cps.toList = 45 :: cs) : (cutS x (some 1) none).cps.toList = cs := by
  unfold cutS
  have hl : x.cps.toList.length = x.length := Array.length_toList
  have hn : x.length = cs.length + 1 := by
    rw [← hl, h]
    rfl
  rw [show HT.sIx x.length 0 (some 1) = min 1 x.length from HT.sIx_nat _ 0 1, HT.sIx_none, hn, Nat.min_eq_left (by omega), List.toList_toArray, h]
  show cs.take (cs.length + 1 - 1) = cs
  rw [Nat.add_sub_cancel, List.take_length]
theorem dv_lt : ∀ (cs : List Nat) (a : Nat), (∀ c ∈ cs, 48 ≤ c ∧ c ≤ 57) → cs.foldl (fun acc c => acc * 10 + (c - 48)) a < (a + 1) * 10 ^ cs.length
  | [], a, _ => by simp
  | c :: cs, a, h => by
    have hc := h c (List.mem_cons_self ..)
    have ih := dv_lt cs (a * 10 + (c - 48)) fun d hd => h d (List.mem_cons_of_mem _ hd)
    rw [List.foldl_cons, List.length_cons, Nat.pow_succ]
    refine Nat.lt_of_lt_of_le ih ?_
    rw [Nat.mul_comm (10 ^ cs.length) 10, ← Nat.mul_assoc]
    exact Nat.mul_le_mul_right _ (by omega)
def figs (x : Str) : Str := if Txt.startswith x "-" = true then cutS x (some 1) none else x
def numOk (x : Str) : Prop := cutS (figs x) (some 0) (some (lead (figs x) : Int)) = figs x ∧ 1 ≤ (figs x).length ∧ (figs x).length ≤ 6
theorem num_of {x : Str} (h : numOk x) : ∃ n : Int, intText? x = some n ∧ n.natAbs < 10 ^ 6 ∧ x.length ≤ 7 := by
  obtain ⟨h1, h2, h3⟩ := h
  have ha := all_figs h1
  have hl : ∀ y : Str, y.cps.toList.length = y.length := fun y => Array.length_toList
  have dv : ∀ cs : List Nat, (∀ c ∈ cs, 48 ≤ c ∧ c ≤ 57) → cs.length ≤ 6 → digitsVal cs < 10 ^ 6 := fun cs hd hc => by
    have := dv_lt cs 0 hd
    have h10 : 10 ^ cs.length ≤ 10 ^ 6 := Nat.pow_le_pow_right (by decide) hc
    unfold digitsVal
    omega
  by_cases hs : Txt.startswith x "-" = true
  · obtain ⟨cs, hx⟩ := starts hs
    have e : (figs x).cps.toList = cs := by
      unfold figs
      rw [if_pos hs]
      exact cut1 hx
    have lf := hl (figs x)
    rw [e] at lf ha
    have hd : ∀ c ∈ cs, 48 ≤ c ∧ c ≤ 57 := fun c hc => fig_bounds c (ha c hc)
    have lx := hl x
    rw [hx, List.length_cons] at lx
    have := dv cs hd (by omega)
    exact ⟨_, intText_neg hx hd (fun z => by rw [z] at lf; simp at lf; omega) (by omega), by omega, by omega⟩
  · have e : figs x = x := by
      unfold figs
      rw [if_neg hs]
    rw [e] at ha h2 h3
    have hd : ∀ c ∈ x.cps.toList, 48 ≤ c ∧ c ≤ 57 := fun c hc => fig_bounds c (ha c hc)
    have lx := hl x
    have := dv x.cps.toList hd (by omega)
    exact ⟨_, intText_digits hd (fun z => by rw [z] at lx; simp at lx; omega) (by omega), by omega, by omega⟩
end Bw
set_option Elab.async false
set_option linter.all false
set_option maxRecDepth 100000
set_option maxHeartbeats 4000000
namespace Bw
open PySem PySem.Spec PyProof.Rows L2
instance (x : Str) : Decidable (numOk x) := by
  unfold numOk
  infer_instance
/-- the number whose text it is -/
def readN (x : Str) : Option Int := if numOk x then (intText? x).bind fun n => if numT n = x then some n else none else none
def optI : Option Int → V
  | some n => .int n
  | none => .non
theorem readN_text {x : Str} {n : Int} (h : readN x = some n) : numT n = x ∧ n.natAbs < 2 ^ 20 := by
  unfold readN at h
  split at h
  · next hk =>
    obtain ⟨m, h1, h2, _⟩ := num_of hk
    rw [h1] at h
    have h : (if numT m = x then some m else none) = some n := h
    split at h
    · next e =>
      cases (Option.some.inj h)
      exact ⟨e, Nat.lt_trans h2 (by decide)⟩
    · cases h
  · cases h
section
variable {P : Program} {w : World} {K : PySem.W.Frag} {mg : Str → Option Value} {base : Heap}
abbrev s_read_number : Stmt := topS 14
abbrev n_read_number : List Str := ["text", "most", "figures", "number"]
theorem sc_read_number : FnScope n_read_number ["text", "most"] (defScope s_read_number) := ⟨rfl, rfl, rfl, by decide +kernel, rfl, by decide +kernel, by decide +kernel⟩
def spReadN : Sp := fun vs H Q _ => ∃ x : Str, vs = [.str x, .int 6] ∧ x.length ≤ 10000 ∧ Q (optI (readN x)) H
theorem cut1_le (x : Str) : (cutS x (some 1) none).length ≤ x.length := by
  have hl : (cutS x (some 1) none).cps.toList.length = (cutS x (some 1) none).length := Array.length_toList
  have hx : x.cps.toList.length = x.length := Array.length_toList
  rw [← hl]
  unfold cutS
  rw [List.toList_toArray, List.length_take, List.length_drop]
  omega
theorem ok_readnum {f : Addr} {fd : FuncData} (F : Fun K "read_number" "read_number" s_read_number f fd) (T : Tx mg) (c_lead : Cal P w K mg base CX0 1 "leading_figures" ["text", "at"] spLead) : FnOk P w K mg base CX0 2 f fd ["text", "most"] spReadN := by
  refine F.ok sc_read_number (fun vs H Q E h => ?_) (fun cdv A outer s H vs Q E hr h => ?_)
  · obtain ⟨x, rfl, _⟩ := h
    rfl
  · obtain ⟨x, rfl, lx, q⟩ := h
    refine ⟨_, (C8.pss_cut (ps_set (i := 2) sc_read_number.nd rfl (.inl rfl) (pe_ifExp (pt_val (pe_m1 PySem.F.slot_str_startswith PySem.F.type_str_startswith mt_startswith (pv 0) pe_str)) (pe_slice sl_str (pv 0) (po_some pe_int) po_none) (pv 0)))
  (pss_cons (ps_if (PW.pt (pw_or (pt_cmpR op_ne (pe_cal c_lead hr (by rfl) (pa_cons (pv 2) (pa_cons pe_int pa_nil))) (pv 2) (nomark _)) (pw_or1 (pt_not (pt_chain op_le op_le pe_int (pe_callB call_len_str (by rfl) T.len PySem.boot_len (pa_cons (pv 2) pa_nil)) (pv 1))))))
    (pss_one (ps_ret pe_non))
    pss_nil)
  (pss_cons (ps_set (i := 3) sc_read_number.nd rfl (.inl rfl) (pe_callTy call_int_str (by rfl) T.int (by decide +kernel) (pa_cons (pv 0) pa_nil)))
  (pss_one (ps_ret (pe_ifExp (pt_cmpR op_eq (pe_callTy call_str_int (by rfl) T.str (by decide +kernel) (pa_cons (pv 3) pa_nil)) (pv 0) (nomark _)) (pv 3) pe_non)))))), ?_⟩
    have lz : x.length ≤ sizeLine := by rw [sizeLine_eq]; omega
    have hno : ¬ numOk x → Q .non H := fun hn => by
      unfold readN at q
      rw [if_neg hn] at q
      exact q
    have ly : (figs x).length ≤ 10000 := by
      unfold figs
      split
      · exact Nat.le_trans (cut1_le x) lx
      · exact lx
    have lzy : (figs x).length ≤ sizeLine := by rw [sizeLine_eq]; omega
    refine ⟨fun σ H' => σ = [some (.str x), some (.int 6), some (.str (figs x)), none] ∧ H' = H, ?_, ?_⟩
    · refine ⟨.str x, rfl, ⟨_, rfl⟩, x, "-", rfl, rfl, _, rfl, ite2 (fun hs => ?_) (fun hs => ?_)⟩
      · refine ⟨.str x, rfl, 1, rfl, x, rfl, lz, ?_, rfl⟩
        unfold figs
        rw [if_pos hs]
        rfl
      · refine ⟨.str x, rfl, ?_, rfl⟩
        unfold figs
        rw [if_neg hs]
        rfl
    rintro σ H' ⟨rfl, rfl⟩
    refine ⟨.str (figs x), rfl, figs x, rfl, by omega, .str (figs x), rfl, rfl, _, rfl, ite2 (fun h1 => ?_) (fun h1 => ?_)⟩
    · refine hno fun z => ?_
      rw [z.1, decide_eq_true rfl] at h1
      exact absurd h1 (by decide)
    have h1 : cutS (figs x) (some 0) (some (lead (figs x) : Int)) = figs x := by
      by_cases z : V.str (cutS (figs x) (some 0) (some (lead (figs x) : Int))) = V.str (figs x)
      · injection z
      · rw [decide_eq_false z] at h1
        exact absurd rfl h1
    refine ⟨.str (figs x), rfl, figs x, rfl, lzy, _, _, rfl, rfl, _, rfl, ite2 (fun h2 => ?_) (fun h2 => ?_)⟩
    · have h2 : 1 ≤ (figs x).length := by
        have := of_decide_eq_true h2
        omega
      refine ⟨.int 6, rfl, _, _, rfl, rfl, _, rfl, ite2 (fun h3 => ?_) (fun h3 => ?_)⟩
      · refine hno fun z => ?_
        have z3 : decide (((figs x).length : Int) ≤ 6) = true := decide_eq_true (by have := z.2.2; omega)
        rw [z3] at h3
        exact absurd h3 (by decide)
      · have h3 : (figs x).length ≤ 6 := by
          by_cases z : ((figs x).length : Int) ≤ 6
          · omega
          · rw [decide_eq_false z] at h3
            exact absurd rfl h3
        have hk : numOk x := ⟨h1, h2, h3⟩
        obtain ⟨n, e1, e2, e3⟩ := num_of hk
        have q : Q (optI (if numT n = x then some n else none)) H' := by
          unfold readN at q
          rw [if_pos hk, e1] at q
          exact q
        refine ⟨.str x, rfl, x, n, rfl, e1, by omega, .int n, rfl, n, rfl, Nat.lt_trans (log_lt (k := 20) (by decide) (Nat.lt_trans e2 (by decide))) (by decide), .str x, rfl, rfl, _, rfl, ite2 (fun h4 => ?_) (fun h4 => ?_)⟩
        · have e : numT n = x := by
            have := of_decide_eq_true h4
            injection this
          rw [if_pos e] at q
          exact ⟨.int n, rfl, q⟩
        · have e : ¬ numT n = x := fun e => h4 (decide_eq_true (by show V.str (numT n) = _; rw [e]))
          rw [if_neg e] at q
          exact q
    · refine ⟨false, rfl, ite2 (fun _ => ?_) (fun z => absurd rfl z)⟩
      refine hno fun z => ?_
      exact h2 (decide_eq_true (by have := z.2.1; omega))
end
end Bw
set_option Elab.async false
set_option linter.all false
set_option maxRecDepth 100000
set_option maxHeartbeats 4000000
namespace Bw
open PySem PySem.Spec PyProof.Rows L2
/-! ### a row read -/
theorem join_count (sep : Str) (h : 1 ≤ sep.length) : ∀ ts : List Str, ts.length ≤ (Str.join sep ts).length + 1 := by
  intro ts
  induction ts with
  | nil => exact Nat.zero_le _
  | cons a r ih =>
    cases r with
    | nil =>
      show 1 ≤ a.length + 1
      omega
    | cons b r =>
      show _ ≤ (a ++ sep ++ Str.join sep (b :: r)).length + 1
      rw [Str.length_append, Str.length_append, List.length_cons]
      omega
theorem join_piece (sep : Str) : ∀ (ts : List Str) (t : Str), t ∈ ts → t.length ≤ (Str.join sep ts).length := by
  intro ts
  induction ts with
  | nil => intro t h; cases h
  | cons a r ih =>
    intro t h
    cases r with
    | nil =>
      rw [List.mem_singleton.mp h]
      exact Nat.le_refl _
    | cons b r =>
      show _ ≤ (a ++ sep ++ Str.join sep (b :: r)).length
      rw [Str.length_append, Str.length_append]
      rcases List.mem_cons.mp h with rfl | h
      · omega
      · have := ih t h
        omega
def readR (x : Str) : Option (List Int) := (Txt.split x ",").mapM readN
theorem mapM_some {α β : Type} {f : α → Option β} : ∀ {l : List α} {r : List β}, l.mapM f = some r → l.map f = r.map some := by
  intro l
  induction l with
  | nil =>
    intro r h
    rw [List.mapM_nil] at h
    cases (Option.some.inj h)
    rfl
  | cons a l ih =>
    intro r h
    rw [List.mapM_cons] at h
    cases ha : f a with
    | none => rw [ha] at h; cases h
    | some b =>
      cases hl : l.mapM f with
      | none => rw [ha, hl] at h; cases h
      | some bs =>
        rw [ha, hl] at h
        cases (Option.some.inj h)
        rw [List.map_cons, List.map_cons, ih hl, ha]
theorem mapM_none {α β : Type} {f : α → Option β} : ∀ {l : List α}, l.mapM f = none → ∃ a ∈ l, f a = none := by
  intro l
  induction l with
  | nil =>
    intro h
    rw [List.mapM_nil] at h
    cases h
  | cons a l ih =>
    intro h
    rw [List.mapM_cons] at h
    cases ha : f a with
    | none => exact ⟨a, List.mem_cons_self .., ha⟩
    | some b =>
      cases hl : l.mapM f with
      | none =>
        obtain ⟨c, hc, e⟩ := ih hl
        exact ⟨c, List.mem_cons_of_mem _ hc, e⟩
      | some bs => rw [ha, hl] at h; cases h
section
variable {P : Program} {w : World} {K : PySem.W.Frag} {mg : Str → Option Value} {base : Heap}
abbrev s_read_row : Stmt := topS 16
abbrev n_read_row : List Str := ["text", "numbers", "piece", "number"]
theorem sc_read_row : FnScope n_read_row ["text"] (defScope s_read_row) := ⟨rfl, rfl, rfl, by decide +kernel, rfl, by decide +kernel, by decide +kernel⟩
def spReadRow : Sp := fun vs H Q _ => ∃ x : Str, vs = [.str x] ∧ x.length ≤ 900 ∧ (readR x = none → ∀ H', Same H H' → Q .non H') ∧ ∀ (r : List Int) (p : Addr) (H' : Hp), readR x = some r → Same H H' → H' p = some (.tup (r.map V.int)) → Q (.ref p) H'
theorem ok_readrow {f : Addr} {fd : FuncData} (F : Fun K "read_row" "read_row" s_read_row f fd) (T : Tx mg) (c_read_number : Cal P w K mg base CX0 2 "read_number" ["text", "most"] spReadN) : FnOk P w K mg base CX0 3 f fd ["text"] spReadRow := by
  refine F.ok sc_read_row (fun vs H Q E h => ?_) (fun cdv A outer s H vs Q E hr h => ?_)
  · obtain ⟨x, rfl, _⟩ := h
    rfl
  · obtain ⟨x, rfl, lx, q0, q1⟩ := h
    refine ⟨_, (pss_cons (ps_setLc (i := 1) (own := [("piece", 2)]) (by rfl) sc_read_row.nd rfl rfl (sw_true rfl rfl rfl (by decide +kernel)) (p_list (K := K) (pe_split (pv 0) pe_str)) (blkOk_by (own := [("piece", 2)]) (N := n_read_row) (sc := defScope s_read_row) (by decide +kernel)) (fun _ _ _ _ _ => (pg_name (i := 2) sc_read_row.nd rfl (.inl rfl))) (fun _ _ _ _ _ => pts_nil) (fun _ _ _ _ _ => (pe_cal c_read_number hr (by rfl) (pa_cons (pv 2) (pa_cons (pe_gint (by rfl) T.MOST_FIGURES) pa_nil)))))
  (pss_cons (ps_if (pt_val (pe_callB (c_any (K := K) rfl) (by rfl) T.any (by decide +kernel) (pa_cons (pe_lc (own := [("number", 3)]) (by rfl) sc_read_row.nd (p_list (K := K) (pv 1)) (blkOk_by (own := [("number", 3)]) (N := n_read_row) (sc := defScope s_read_row) (by decide +kernel)) (fun _ _ _ _ _ => (pg_name (i := 3) sc_read_row.nd rfl (.inl rfl))) (fun _ _ _ _ _ => pts_nil) (fun _ _ _ _ _ => (pe_cmpR op_isN (pv 3) pe_non (nomark _)))) pa_nil)))
    (pss_one (ps_ret pe_non))
    pss_nil)
  (pss_one (ps_ret (pe_callTy (c_tup (K := K)) (by rfl) T.tuple (by decide +kernel) (pa_cons (pv 1) pa_nil)))))), ?_⟩
    have es : Str.join "," (Txt.split x ",") = x := StrLaws.join_split x ","
    have hcount : (Txt.split x ",").length ≤ 901 := by
      have := join_count "," (by decide) (Txt.split x ",")
      rw [es] at this
      omega
    have hpiece : ∀ t ∈ Txt.split x ",", t.length ≤ 900 := fun t ht => by
      have := join_piece "," _ t ht
      rw [es] at this
      omega
    refine ⟨.str x, rfl, ⟨_, rfl⟩, x, ",", rfl, rfl, by decide, by rw [sizeLine_eq]; omega, fun l el => ?_⟩
    have sl := same_upd (o := .lst ((Txt.split x ",").map V.str)) el
    generalize hps : Txt.split x "," = ps at *
    refine ⟨l, rfl, ⟨_, SqL.of upd_same⟩, fun D eD => ?_⟩
    have D0 : H D = none := by
      have nd : D ≠ l := fun z => by rw [z, upd_same] at eD; cases eD
      rw [upd_ne nd] at eD
      exact eD
    refine lc_list (K := K) (a := l) (xs := ps.map V.str) (fun j H' => H' D = some (.lst ((ps.take j).map fun p => optI (readN p))) ∧ Same (upd H l (.lst (ps.map V.str))) H') ⟨upd_same, same_upd eD⟩ (fun j H' _ ⟨_, s⟩ => SqL.of (s _ _ upd_same)) ?_ ?_
    · rintro j v H1 hv ⟨e1, s1⟩
      obtain ⟨p, ep, rfl⟩ : ∃ p, ps[j]? = some p ∧ v = .str p := by
        rw [List.getElem?_map] at hv
        cases hp : ps[j]? with
        | none => rw [hp] at hv; cases hv
        | some p =>
          rw [hp] at hv
          exact ⟨p, rfl, (Option.some.inj hv).symm⟩
      have hj := (List.getElem?_eq_some_iff.mp ep).1
      have hl := hpiece p (List.mem_of_getElem? ep)
      refine ⟨rfl, .str p, rfl, p, rfl, by omega, _, e1, by rw [List.length_map, List.length_take]; exact small1000 (by omega), ?_, Same.updN s1 eD⟩
      rw [upd_same, List.take_succ, ep, List.map_append]
      rfl
    rintro H1 ⟨e1, s1⟩
    rw [List.length_map, List.take_length] at e1
    have s01 := sl.trans s1
    refine ⟨.ref D, rfl, D, rfl, ⟨_, SqL.of e1⟩, fun D2 eD2 => ?_⟩
    refine lc_list (K := K) (a := D) (xs := ps.map fun p => optI (readN p)) (fun j H' => H' D2 = some (.lst (((ps.take j).map fun p => decide (optI (readN p) = .non)).map V.bl)) ∧ Same H1 H') ⟨upd_same, same_upd eD2⟩ (fun j H' _ ⟨_, s⟩ => SqL.of (s _ _ e1)) ?_ ?_
    · rintro j v H2 hv ⟨e2, s2⟩
      obtain ⟨p, ep, rfl⟩ : ∃ p, ps[j]? = some p ∧ v = optI (readN p) := by
        rw [List.getElem?_map] at hv
        cases hp : ps[j]? with
        | none => rw [hp] at hv; cases hv
        | some p =>
          rw [hp] at hv
          exact ⟨p, rfl, (Option.some.inj hv).symm⟩
      have hj := (List.getElem?_eq_some_iff.mp ep).1
      refine ⟨rfl, _, rfl, rfl, _, e2, by rw [List.length_map, List.length_map, List.length_take]; exact small1000 (by omega), ?_, Same.updN s2 eD2⟩
      rw [upd_same, List.take_succ, ep, List.map_append, List.map_append]
      rfl
    rintro H2 ⟨e2, s2⟩
    rw [List.length_map, List.take_length] at e2
    have s02 := s01.trans s2
    refine ⟨D2, _, rfl, SqL.of e2, _, rfl, ite2 (fun ht => ?_) (fun hf => ?_)⟩
    · refine q0 ?_ H2 s02
      cases hR : readR x with
      | none => rfl
      | some r =>
        exfalso
        unfold readR at hR
        rw [hps] at hR
        have hm := mapM_some hR
        rw [List.any_eq_true] at ht
        obtain ⟨b, hb, hb2⟩ := ht
        obtain ⟨p, hp, rfl⟩ := List.mem_map.mp hb
        have : readN p ∈ r.map some := by
          rw [← hm]
          exact List.mem_map.mpr ⟨p, hp, rfl⟩
        obtain ⟨z, _, ez⟩ := List.mem_map.mp this
        rw [← ez] at hb2
        exact absurd hb2 (by show ¬ decide (V.int z = V.non) = true; rw [decide_eq_false (by intro z; cases z)]; decide)
    · cases hR : readR x with
      | none =>
        exfalso
        unfold readR at hR
        rw [hps] at hR
        obtain ⟨a, ha, e⟩ := mapM_none hR
        refine hf (List.any_eq_true.mpr ⟨_, List.mem_map.mpr ⟨a, ha, rfl⟩, ?_⟩)
        rw [e]
        exact decide_eq_true rfl
      | some r =>
        have hR' := hR
        unfold readR at hR'
        rw [hps] at hR'
        have hm := mapM_some hR'
        have ev : (ps.map fun p => optI (readN p)) = r.map V.int := by
          have := congrArg (List.map optI) hm
          rw [List.map_map, List.map_map] at this
          exact this
        rw [ev] at e1
        refine ⟨.ref D, rfl, D, _, rfl, .inl ⟨SqL.of (s2 _ _ e1), fun p ep => ?_⟩⟩
        exact q1 r p _ hR (s02.trans (same_upd ep)) upd_same
end
end Bw
set_option Elab.async false
set_option linter.all false
set_option maxRecDepth 100000
set_option maxHeartbeats 4000000
namespace Bw
open PySem PySem.Spec PyProof.Rows L2
/-! ### rows read -/
def RV (H : Hp) (v : V) (o : Option (List Int)) : Prop := (o = none ∧ v = .non) ∨ ∃ (r : List Int) (p : Addr), o = some r ∧ v = .ref p ∧ H p = some (.tup (r.map V.int))
theorem RV.keep {H H' : Hp} {v : V} {o : Option (List Int)} (s : ∀ b xs, H b = some (.tup xs) → H' b = some (.tup xs)) (h : RV H v o) : RV H' v o := by
  rcases h with h | ⟨r, p, h1, h2, h3⟩
  · exact .inl h
  · exact .inr ⟨r, p, h1, h2, s _ _ h3⟩
def RVs (H : Hp) (vs : List V) (os : List (Option (List Int))) : Prop := vs.length = os.length ∧ ∀ (i : Nat) (v : V) (o : Option (List Int)), vs[i]? = some v → os[i]? = some o → RV H v o
theorem RVs.keep {H H' : Hp} {vs : List V} {os : List (Option (List Int))} (s : ∀ b xs, H b = some (.tup xs) → H' b = some (.tup xs)) (h : RVs H vs os) : RVs H' vs os := ⟨h.1, fun i v o a b => (h.2 i v o a b).keep s⟩
theorem RVs.same {H H' : Hp} {vs : List V} {os : List (Option (List Int))} (s : Same H H') (h : RVs H vs os) : RVs H' vs os := h.keep fun b xs e => s _ _ e
theorem RVs.put {H : Hp} {D : Addr} {xs : List V} {u : HO} {vs : List V} {os : List (Option (List Int))} (e : H D = some (.lst xs)) (h : RVs H vs os) : RVs (upd H D u) vs os := h.keep fun b ys k => by
  rw [upd_ne (ne_of k e (by intro z; cases z))]
  exact k
theorem RVs.nil {H : Hp} : RVs H [] [] := ⟨rfl, fun i v o a b => by simp at a⟩
theorem RVs.snoc {H : Hp} {vs : List V} {os : List (Option (List Int))} {v : V} {o : Option (List Int)} (h : RVs H vs os) (k : RV H v o) : RVs H (vs ++ [v]) (os ++ [o]) := by
  refine ⟨by rw [List.length_append, List.length_append, h.1]; rfl, fun i v' o' a b => ?_⟩
  rw [List.getElem?_append] at a b
  by_cases hi : i < vs.length
  · rw [if_pos hi] at a
    rw [if_pos (by rw [← h.1]; exact hi)] at b
    exact h.2 i v' o' a b
  · rw [if_neg hi] at a
    rw [if_neg (by rw [← h.1]; exact hi), ← h.1] at b
    cases hk : i - vs.length with
    | zero =>
      rw [hk] at a b
      cases (Option.some.inj a)
      cases (Option.some.inj b)
      exact k
    | succ m =>
      rw [hk] at a
      simp at a
def readT (x : Str) : Option (List (List Int)) := (Txt.split x ";").mapM readR
def refOf : V → Addr
  | .ref a => a
  | _ => 0
theorem RVs.tab {H : Hp} {vs : List V} {rows : List (List Int)} (h : RVs H vs (rows.map some)) : vs = (vs.map refOf).map V.ref ∧ (vs.map refOf).length = rows.length ∧ ∀ (i : Nat) (r : List Int), rows[i]? = some r → ∃ b, (vs.map refOf)[i]? = some b ∧ H b = some (.tup (r.map V.int)) := by
  have hl := h.1
  rw [List.length_map] at hl
  have each : ∀ (i : Nat) (v : V), vs[i]? = some v → ∃ (r : List Int) (p : Addr), rows[i]? = some r ∧ v = .ref p ∧ H p = some (.tup (r.map V.int)) := fun i v e => by
    have hi : i < rows.length := by
      have := (List.getElem?_eq_some_iff.mp e).1
      omega
    rcases h.2 i v (some rows[i]) e (by rw [List.getElem?_map, List.getElem?_eq_getElem hi]; rfl) with ⟨z, _⟩ | ⟨r, p, e1, e2, e3⟩
    · cases z
    · cases (Option.some.inj e1)
      exact ⟨_, p, List.getElem?_eq_getElem hi, e2, e3⟩
  refine ⟨?_, by rw [List.length_map]; exact hl, fun i r e => ?_⟩
  · apply List.ext_getElem?
    intro i
    rw [List.getElem?_map, List.getElem?_map]
    cases hv : vs[i]? with
    | none => rfl
    | some v =>
      obtain ⟨r, p, _, rfl, _⟩ := each i v hv
      rfl
  · have hi : i < vs.length := by
      have := (List.getElem?_eq_some_iff.mp e).1
      omega
    obtain ⟨r', p, e1, e2, e3⟩ := each i vs[i] (List.getElem?_eq_getElem hi)
    cases (Option.some.inj (e.symm.trans e1))
    refine ⟨p, ?_, e3⟩
    rw [List.getElem?_map, List.getElem?_eq_getElem hi, e2]
    rfl
section
variable {P : Program} {w : World} {K : PySem.W.Frag} {mg : Str → Option Value} {base : Heap}
abbrev s_read_rows : Stmt := topS 18
abbrev n_read_rows : List Str := ["text", "rows", "piece", "row"]
theorem sc_read_rows : FnScope n_read_rows ["text"] (defScope s_read_rows) := ⟨rfl, rfl, rfl, by decide +kernel, rfl, by decide +kernel, by decide +kernel⟩
def spReadRows : Sp := fun vs H Q _ => ∃ x : Str, vs = [.str x] ∧ x.length ≤ 900 ∧ (readT x = none → ∀ H', Same H H' → Q .non H') ∧ ∀ (rows : List (List Int)) (p : Addr) (H' : Hp), readT x = some rows → Same H H' → TabAt H' p rows → Q (.ref p) H'
theorem ok_readrows {f : Addr} {fd : FuncData} (F : Fun K "read_rows" "read_rows" s_read_rows f fd) (T : Tx mg) (c_read_row : Cal P w K mg base CX0 3 "read_row" ["text"] spReadRow) : FnOk P w K mg base CX0 4 f fd ["text"] spReadRows := by
  refine F.ok sc_read_rows (fun vs H Q E h => ?_) (fun cdv A outer s H vs Q E hr h => ?_)
  · obtain ⟨x, rfl, _⟩ := h
    rfl
  · obtain ⟨x, rfl, lx, q0, q1⟩ := h
    refine ⟨_, (pss_cons (ps_setLc (i := 1) (own := [("piece", 2)]) (by rfl) sc_read_rows.nd rfl rfl (sw_true rfl rfl rfl (by decide +kernel)) (p_list (K := K) (pe_split (pv 0) pe_str)) (blkOk_by (own := [("piece", 2)]) (N := n_read_rows) (sc := defScope s_read_rows) (by decide +kernel)) (fun _ _ _ _ _ => (pg_name (i := 2) sc_read_rows.nd rfl (.inl rfl))) (fun _ _ _ _ _ => pts_nil) (fun _ _ _ _ _ => (pe_cal c_read_row hr (by rfl) (pa_cons (pv 2) pa_nil))))
  (pss_cons (ps_if (pt_val (pe_callB (c_any (K := K) rfl) (by rfl) T.any (by decide +kernel) (pa_cons (pe_lc (own := [("row", 3)]) (by rfl) sc_read_rows.nd (p_list (K := K) (pv 1)) (blkOk_by (own := [("row", 3)]) (N := n_read_rows) (sc := defScope s_read_rows) (by decide +kernel)) (fun _ _ _ _ _ => (pg_name (i := 3) sc_read_rows.nd rfl (.inl rfl))) (fun _ _ _ _ _ => pts_nil) (fun _ _ _ _ _ => (pe_cmpR op_isN (pv 3) pe_non (nomark _)))) pa_nil)))
    (pss_one (ps_ret pe_non))
    pss_nil)
  (pss_one (ps_ret (pe_callTy (c_tup (K := K)) (by rfl) T.tuple (by decide +kernel) (pa_cons (pv 1) pa_nil)))))), ?_⟩
    have es : Str.join ";" (Txt.split x ";") = x := StrLaws.join_split x ";"
    have hcount : (Txt.split x ";").length ≤ 901 := by
      have := join_count ";" (by decide) (Txt.split x ";")
      rw [es] at this
      omega
    have hpiece : ∀ t ∈ Txt.split x ";", t.length ≤ 900 := fun t ht => by
      have := join_piece ";" _ t ht
      rw [es] at this
      omega
    refine ⟨.str x, rfl, ⟨_, rfl⟩, x, ";", rfl, rfl, by decide, by rw [sizeLine_eq]; omega, fun l el => ?_⟩
    have sl := same_upd (o := .lst ((Txt.split x ";").map V.str)) el
    generalize hps : Txt.split x ";" = ps at *
    refine ⟨l, rfl, ⟨_, SqL.of upd_same⟩, fun D eD => ?_⟩
    refine lc_list (K := K) (a := l) (xs := ps.map V.str) (fun j H' => ∃ vs, H' D = some (.lst vs) ∧ RVs H' vs ((ps.take j).map readR) ∧ Same (upd H l (.lst (ps.map V.str))) H') ⟨[], upd_same, .nil, same_upd eD⟩ (fun j H' _ ⟨_, _, _, s⟩ => SqL.of (s _ _ upd_same)) ?_ ?_
    · rintro j v H1 hv ⟨vs, e1, hV, s1⟩
      obtain ⟨p, ep, rfl⟩ : ∃ p, ps[j]? = some p ∧ v = .str p := by
        rw [List.getElem?_map] at hv
        cases hp : ps[j]? with
        | none => rw [hp] at hv; cases hv
        | some p =>
          rw [hp] at hv
          exact ⟨p, rfl, (Option.some.inj hv).symm⟩
      have hj := (List.getElem?_eq_some_iff.mp ep).1
      have hl := hpiece p (List.mem_of_getElem? ep)
      have lv := hV.1
      rw [List.length_map, List.length_take] at lv
      have fin : ∀ (v : V) (H2 : Hp), Same H1 H2 → RV H2 v (readR p) → ∃ acc, H2 D = some (.lst acc) ∧ acc.length < sizeLine ∧ ∃ vs, (upd H2 D (.lst (acc ++ [v]))) D = some (.lst vs) ∧ RVs (upd H2 D (.lst (acc ++ [v]))) vs ((ps.take (j + 1)).map readR) ∧ Same (upd H l (.lst (ps.map V.str))) (upd H2 D (.lst (acc ++ [v]))) := by
        intro v H2 s2 hv
        refine ⟨vs, s2 _ _ e1, small1000 (by omega), vs ++ [v], upd_same, ?_, Same.updN (s1.trans s2) eD⟩
        rw [List.take_succ, ep, List.map_append]
        exact RVs.put (s2 _ _ e1) ((hV.same s2).snoc hv)
      refine ⟨rfl, .str p, rfl, p, rfl, by omega, fun hn H2 s2 => fin .non H2 s2 (.inl ⟨hn, rfl⟩), fun r b H2 hr' s2 eb => fin (.ref b) H2 s2 (.inr ⟨r, b, hr', rfl, eb⟩)⟩
    rintro H1 ⟨vs, e1, hV, s1⟩
    rw [List.length_map, List.take_length] at hV
    have s01 := sl.trans s1
    have lv := hV.1
    rw [List.length_map] at lv
    refine ⟨.ref D, rfl, D, rfl, ⟨_, SqL.of e1⟩, fun D2 eD2 => ?_⟩
    refine lc_list (K := K) (a := D) (xs := vs) (fun j H' => H' D2 = some (.lst (((vs.take j).map fun v => decide (v = .non)).map V.bl)) ∧ Same H1 H') ⟨upd_same, same_upd eD2⟩ (fun j H' _ ⟨_, s⟩ => SqL.of (s _ _ e1)) ?_ ?_
    · rintro j v H2 hv ⟨e2, s2⟩
      have hj := (List.getElem?_eq_some_iff.mp hv).1
      refine ⟨rfl, _, rfl, rfl, _, e2, by rw [List.length_map, List.length_map, List.length_take]; exact small1000 (by omega), ?_, Same.updN s2 eD2⟩
      rw [upd_same, List.take_succ, hv, List.map_append, List.map_append]
      rfl
    rintro H2 ⟨e2, s2⟩
    rw [List.take_length] at e2
    have s02 := s01.trans s2
    refine ⟨D2, _, rfl, SqL.of e2, _, rfl, ite2 (fun ht => ?_) (fun hf => ?_)⟩
    · refine q0 ?_ H2 s02
      cases hR : readT x with
      | none => rfl
      | some rows =>
        exfalso
        unfold readT at hR
        rw [hps] at hR
        rw [mapM_some hR] at hV
        rw [List.any_eq_true] at ht
        obtain ⟨b, hb, hb2⟩ := ht
        obtain ⟨v, hv, rfl⟩ := List.mem_map.mp hb
        rw [hV.tab.1] at hv
        obtain ⟨a, _, rfl⟩ := List.mem_map.mp hv
        exact absurd hb2 (by show ¬ decide (V.ref a = V.non) = true; rw [decide_eq_false (by intro z; cases z)]; decide)
    · cases hR : readT x with
      | none =>
        exfalso
        unfold readT at hR
        rw [hps] at hR
        obtain ⟨a, ha, e⟩ := mapM_none hR
        obtain ⟨i, hi, ea⟩ := List.mem_iff_getElem.mp ha
        have hiv : i < vs.length := by omega
        rcases hV.2 i vs[i] (readR a) (List.getElem?_eq_getElem hiv) (by rw [List.getElem?_map, List.getElem?_eq_getElem hi, ea]; rfl) with ⟨_, z⟩ | ⟨r, p, z, _⟩
        · refine hf (List.any_eq_true.mpr ⟨_, List.mem_map.mpr ⟨vs[i], List.getElem_mem hiv, rfl⟩, ?_⟩)
          rw [z]
          exact decide_eq_true rfl
        · rw [e] at z
          cases z
      | some rows =>
        have hR' := hR
        unfold readT at hR'
        rw [hps] at hR'
        rw [mapM_some hR'] at hV
        obtain ⟨t1, t2, t3⟩ := (hV.same s2).tab
        refine ⟨.ref D, rfl, D, _, rfl, .inl ⟨SqL.of (s2 _ _ e1), fun p ep => ?_⟩⟩
        have sp := same_upd (o := .tup vs) ep
        refine q1 rows p _ hR (s02.trans sp) ⟨vs.map refOf, ?_, t2, fun i r e => ?_⟩
        · rw [upd_same, ← t1]
        · obtain ⟨b, b1, b2⟩ := t3 i r e
          exact ⟨b, b1, sp _ _ b2⟩
end
end Bw
set_option Elab.async false
set_option linter.all false
set_option maxRecDepth 100000
set_option maxHeartbeats 4000000
namespace Bw
open PySem PySem.Spec PyProof.Rows L2
/-! ### there and back -/
theorem back_map {α β : Type} {f : α → Option β} {g : β → α} (h : ∀ a b, f a = some b → g b = a) : ∀ {l : List α} {r : List β}, l.map f = r.map some → r.map g = l := by
  intro l
  induction l with
  | nil =>
    intro r e
    cases r with
    | nil => rfl
    | cons b r => cases e
  | cons a l ih =>
    intro r e
    cases r with
    | nil => cases e
    | cons b r =>
      rw [List.map_cons, List.map_cons] at e
      injection e with e1 e2
      rw [List.map_cons, ih e2, h a b e1]
theorem readR_text {x : Str} {r : List Int} (h : readR x = some r) : rowT r = x := by
  have h := mapM_some h
  unfold rowT
  rw [back_map (fun a b e => (readN_text e).1) h]
  exact (StrLaws.glued_eq_join _ _).trans (StrLaws.join_split x ",")
theorem readT_text {x : Str} {rows : List (List Int)} (h : readT x = some rows) : rowsT rows = x := by
  have h := mapM_some h
  unfold rowsT
  rw [back_map (fun a b e => readR_text e) h]
  exact (StrLaws.glued_eq_join _ _).trans (StrLaws.join_split x ";")
theorem map_mem {α β : Type} {f : α → Option β} {l : List α} {r : List β} (e : l.map f = r.map some) {b : β} (h : b ∈ r) : ∃ a ∈ l, f a = some b := by
  have : some b ∈ l.map f := by
    rw [e]
    exact List.mem_map.mpr ⟨b, h, rfl⟩
  obtain ⟨a, ha, k⟩ := List.mem_map.mp this
  exact ⟨a, ha, k⟩
/-- every number that is read is small -/
theorem readT_small {x : Str} {rows : List (List Int)} (h : readT x = some rows) : ∀ r ∈ rows, ∀ z ∈ r, z.natAbs < 2 ^ 20 := fun r hr z hz => by
  obtain ⟨p, _, e⟩ := map_mem (mapM_some h) hr
  obtain ⟨t, _, e2⟩ := map_mem (mapM_some e) hz
  exact (readN_text e2).2
end Bw
set_option Elab.async false
set_option linter.all false
set_option maxRecDepth 100000
set_option maxHeartbeats 4000000
namespace Bw
open PySem PySem.Spec PyProof.Rows L2
/-! ### small numbers' texts -/
def okNum (i : Nat) : Bool := decide (readN (numT ((i : Int) - 60)) = some ((i : Int) - 60)) && (numT ((i : Int) - 60)).cps.toList.all (fun c => c != 44 && c != 59)
theorem ok_all : (List.range 121).all okNum = true := by decide +kernel
theorem small_num {z : Int} (h1 : -60 ≤ z) (h2 : z ≤ 60) : readN (numT z) = some z ∧ ∀ c ∈ (numT z).cps.toList, c ≠ 44 ∧ c ≠ 59 := by
  have h := List.all_eq_true.mp ok_all (z + 60).toNat (List.mem_range.mpr (by omega))
  have e : (((z + 60).toNat : Nat) : Int) - 60 = z := by omega
  unfold okNum at h
  rw [e, Bool.and_eq_true] at h
  refine ⟨of_decide_eq_true h.1, fun c hc => ?_⟩
  have := List.all_eq_true.mp h.2 c hc
  simpa using this
end Bw
set_option Elab.async false
set_option linter.all false
set_option maxRecDepth 100000
set_option maxHeartbeats 4000000
namespace Bw
open PySem PySem.Spec PyProof.Rows L2
theorem mapM_of {α β : Type} {f : α → Option β} {g : β → α} : ∀ {r : List β}, (∀ z ∈ r, f (g z) = some z) → (r.map g).mapM f = some r := by
  intro r
  induction r with
  | nil => intro _; rfl
  | cons b r ih =>
    intro h
    rw [List.map_cons, List.mapM_cons, h b (List.mem_cons_self ..), ih fun z hz => h z (List.mem_cons_of_mem _ hz)]
    rfl
theorem joinL_mem {S : List Nat} {c : Nat} : ∀ {ps : List (List Nat)}, c ∈ TL.joinL S ps → c ∈ S ∨ ∃ p ∈ ps, c ∈ p
  | [], h => by cases h
  | [p], h => .inr ⟨p, List.mem_cons_self .., h⟩
  | p :: q :: r, h => by
    have h : c ∈ p ++ (S ++ TL.joinL S (q :: r)) := h
    rcases List.mem_append.mp h with h | h
    · exact .inr ⟨p, List.mem_cons_self .., h⟩
    · rcases List.mem_append.mp h with h | h
      · exact .inl h
      · rcases joinL_mem (ps := q :: r) h with h | ⟨t, ht, hc⟩
        · exact .inl h
        · exact .inr ⟨t, List.mem_cons_of_mem _ ht, hc⟩
theorem row_back {r : List Int} (hne : r ≠ []) (h : ∀ z ∈ r, -60 ≤ z ∧ z ≤ 60) : readR (rowT r) = some r ∧ ∀ c ∈ TL.tl (rowT r), c ≠ 59 := by
  have hs : Txt.split (rowT r) "," = r.map numT := by
    unfold rowT
    refine TL.split_join (y := ",") (s := 44) (S := []) (by decide +kernel) (by decide +kernel) (fun e => hne (List.map_eq_nil_iff.mp e)) fun p hp hc => ?_
    obtain ⟨z, hz, rfl⟩ := List.mem_map.mp hp
    exact ((small_num (h z hz).1 (h z hz).2).2 44 hc).1 rfl
  refine ⟨?_, fun c hc => ?_⟩
  · unfold readR
    rw [hs]
    exact mapM_of fun z hz => (small_num (h z hz).1 (h z hz).2).1
  · unfold rowT at hc
    rw [TL.join_eq, TL.tl_join] at hc
    rcases joinL_mem hc with hc | ⟨p, hp, hc⟩
    · have e : TL.tl (("," : Str)) = [44] := by decide +kernel
      rw [e] at hc
      rw [List.mem_singleton.mp hc]
      decide
    · obtain ⟨t, ht, rfl⟩ := List.mem_map.mp hp
      obtain ⟨z, hz, rfl⟩ := List.mem_map.mp ht
      exact ((small_num (h z hz).1 (h z hz).2).2 c hc).2
theorem rows_back {rows : List (List Int)} (hne : rows ≠ []) (h : ∀ r ∈ rows, r ≠ [] ∧ ∀ z ∈ r, -60 ≤ z ∧ z ≤ 60) : readT (rowsT rows) = some rows := by
  have hs : Txt.split (rowsT rows) ";" = rows.map rowT := by
    unfold rowsT
    refine TL.split_join (y := ";") (s := 59) (S := []) (by decide +kernel) (by decide +kernel) (fun e => hne (List.map_eq_nil_iff.mp e)) fun p hp hc => ?_
    obtain ⟨r, hr, rfl⟩ := List.mem_map.mp hp
    exact (row_back (h r hr).1 (h r hr).2).2 59 hc rfl
  unfold readT
  rw [hs]
  exact mapM_of fun r hr => (row_back (h r hr).1 (h r hr).2).1
end Bw
set_option Elab.async false
set_option linter.all false
set_option maxRecDepth 100000
set_option maxHeartbeats 4000000
namespace Bw
open PySem PySem.Spec PyProof.Rows L2
/-! ### is_row of any row -/
def tieOk (t : Int) : Bool := decide ((if t < 0 then -t else t) ≤ 50)
def rowOk (m : Nat) (r : List Int) : Bool := decide (r.length = m) && r.all tieOk
section
variable {P : Program} {w : World} {K : PySem.W.Frag} {mg : Str → Option Value} {base : Heap}
def spIsRowG : Sp := fun vs H Q _ => ∃ (a : Addr) (r : List Int) (m : Nat), vs = [.ref a, .int m] ∧ H a = some (.tup (r.map V.int)) ∧ r.length ≤ 901 ∧ ∀ H', Same H H' → Q (.bl (rowOk m r)) H'
theorem ok_isrowG {f : Addr} {fd : FuncData} (F : Fun K "is_row" "is_row" s_is_row f fd) (T : Tx mg) (c_is_number : Cal P w K mg base CX0 1 "is_number" ["thing"] spIsNum) : FnOk P w K mg base CX0 2 f fd ["row", "many"] spIsRowG := by
  refine F.ok sc_is_row (fun vs H Q E h => ?_) (fun cdv A outer s H vs Q E hr h => ?_)
  · obtain ⟨a, r, m, rfl, _⟩ := h
    rfl
  · obtain ⟨a, r, m, rfl, ha, l4, q⟩ := h
    refine ⟨_, (pss_cons (ps_if (PW.pt (pw_or (pt_not (pt_val (pe_callB (c_isi (K := K)) (by rfl) T.isinstance (by decide +kernel) (pa_cons (pv 0) (pa_cons (pe_bltn (v := .ty "tuple") (by rfl) T.tuple (by decide +kernel) rfl) pa_nil))))) (pw_or1 (pt_cmpR op_ne (pe_callB (c_len (K := K)) (by rfl) T.len PySem.boot_len (pa_cons (pv 0) pa_nil)) (pv 1) (nomark _)))))
    (pss_one (ps_ret pe_bl))
    pss_nil)
  (pss_one (ps_ret (pe_callB (c_all (K := K) rfl) (by rfl) T.all (by decide +kernel) (pa_cons (pe_lc (own := [("tie", 2)]) (by rfl) sc_is_row.nd (p_tup (K := K) (pv 0)) (blkOk_by (own := [("tie", 2)]) (N := n_is_row) (sc := defScope s_is_row) (by decide +kernel)) (fun _ _ _ _ _ => (pg_name (i := 2) sc_is_row.nd rfl (.inl rfl))) (fun _ _ _ _ _ => pts_nil) (fun _ _ _ _ _ => (pe_and (pe_cal c_is_number hr (by rfl) (pa_cons (pv 2) pa_nil)) (pe_one (pe_cmpR op_le (pe_callB call_abs (by rfl) T.abs (by decide +kernel) (pa_cons (pv 2) pa_nil)) (pe_gint (by rfl) T.MOST_TIE) (nomark _)))))) pa_nil))))), ?_⟩
    refine ⟨.ref a, rfl, _, _, _, _, true, rfl, .ty "tuple", .base (.tup ha), kit_ty (by decide +kernel), true, rfl, ?_⟩
    refine iteF ⟨.ref a, rfl, a, _, rfl, .inr (SqT.of ha), .int m, rfl, rfl, _, rfl, ite2 (fun h1 => ?_) (fun h1 => ?_)⟩
    · have e : rowOk m r = false := by
        unfold rowOk
        have : decide (r.length = m) = false := decide_eq_false fun z => by
          rw [List.length_map, z, decide_eq_true rfl] at h1
          exact absurd h1 (by decide)
        rw [this]
        rfl
      rw [e] at q
      exact q H (.refl _)
    have hm : r.length = m := by
      by_cases z : V.int (((r.map V.int).length : Nat) : Int) = V.int (m : Int)
      · injection z with z
        rw [List.length_map] at z
        omega
      · rw [decide_eq_false z] at h1
        exact absurd rfl h1
    refine ⟨.ref a, rfl, a, rfl, ⟨_, SqT.of ha⟩, fun D eD => ?_⟩
    refine lc_tup (K := K) (a := a) (xs := r.map V.int) (fun j H' => H' D = some (.lst (((r.take j).map tieOk).map V.bl)) ∧ Same H H') ⟨upd_same, same_upd eD⟩ (fun j H' _ ⟨_, k⟩ => SqT.of (k _ _ ha)) ?_ ?_
    · rintro j v H1 hv ⟨e1, k1⟩
      obtain ⟨t, ht, rfl⟩ := int_at hv
      have hj : j < r.length := (List.getElem?_eq_some_iff.mp ht).1
      refine ⟨rfl, .int t, rfl, t, rfl, true, rfl, ?_⟩
      refine ⟨.int t, rfl, t, rfl, _, _, rfl, rfl, _, e1, by rw [List.length_map, List.length_map, List.length_take]; exact small1000 (by omega), ?_, Same.updN k1 eD⟩
      rw [upd_same, List.take_succ, ht, List.map_append, List.map_append]
      rfl
    · rintro H1 ⟨e1, k1⟩
      rw [List.length_map, List.take_length] at e1
      refine ⟨D, _, rfl, SqL.of e1, ?_⟩
      have e : rowOk m r = (r.map tieOk).all id := by
        unfold rowOk
        rw [decide_eq_true hm, List.all_map]
        rfl
      rw [e] at q
      exact q H1 k1
end
end Bw
set_option Elab.async false
set_option linter.all false
set_option maxRecDepth 100000
set_option maxHeartbeats 4000000
namespace Bw
open PySem PySem.Spec PyProof.Rows L2
/-- a def read off its class, by the class's name -/
structure ClsFn (K : PySem.W.Frag) (mg : Str → Option Value) (x m : Str) (C f : Addr) : Prop where
  g : mg x = some (.ref C)
  sg : PySem.W.specialIn K (.ref C) "__getattribute__" = some (some (.builtin "type.__getattribute__"))
  ty : PySem.W.typeIn K (.ref C) = some (.type "type")
  rd : PySem.W.readsIn K C (.type "type") = true
  fc : PySem.W.findCls K (.ref C) (.type "type") m = some (.val (.ref f))
  kf : PySem.W.keepIn K (.ref f) = true
theorem pe_cfun {X : Cx} {x m : Str} {C f : Addr} {CX : CXT} {k : Nat} {fd : FuncData} {ps : List Str} {sp : Sp} {E : XK} {e : Expr} {es : List Expr} {t : TA} {np apos pos : Pos} {pl : Sem Bool} (T : ClsFn X.K X.mg x m C f) (F : FnOk X.prog X.w X.K X.mg X.base CX k f fd ps sp) (hr : Room k X.A) (hg : Gl X x)
    (hb : Binds X.K fd ps []) (hx : Passes CX X E) (ha : PA X (e :: es) t) (hdb : (x == ("__debug__" : Str)) = false := by decide)
    (ht : eval (.Call (.Attribute (.Name x np) m apos) (e :: es) [] pos) X.env = (do
      let ov ← eval (.Name x np) X.env
      standAt apos.atName
      let (f, first) ← holding [ov] (getMethod ov m pl)
      callWith pos f first (backTo pos (starEach (e :: es) X.env)) (backToKw pos (keywordEach [] X.env))) := by rfl)
    (he : starEach (e :: es) X.env = (false, eval e X.env) :: starEach es X.env := by rfl) (hpl : (backTo pos (starEach es X.env)).any (·.1) = false := by rfl) :
    PE X (.Call (.Attribute (.Name x np) m apos) (e :: es) [] pos) (tCall sp [] E t) := by
  refine ⟨fun pins s σ H Q I h => ?_⟩
  refine PySem.W.methodCall_KW (ld_glob I hg T.g ?_ hdb) ht
  obtain ⟨m, fr⟩ := I.fr
  refine PySem.W.method_of_cls fr I.ok.mod.kin T.sg (PySem.W.cls_val fr I.ok.mod.kin T.ty T.rd T.fc rfl ?_)
  show wpAny _ _ (callWith pos (Value.ref f) [] (backTo pos (starEach (e :: es) X.env)) []) _ _ _
  refine PySem.W.callWith_K (h₀ := X.base) I.ok.mod.kin T.kf (thn (ha.run pos pins _ σ H _ (I.tok _) h) fun us s1 ⟨vs, H1, I1, r, q⟩ => ⟨I1.kIn, ?_⟩) he hpl
  exact run_fn F hr hb .nil hx I1 r q
/-! ### raise C(), C with an __init__ of its own that wants nothing -/
theorem pmk_oex0 {X : Cx} {p pos : Pos} {CX : CXT} {x : Str} {C fI : Addr} {k : Nat} {fd : FuncData} {ps : List Str} {sp : Sp} (T : OexC X.K C) (iC : PySem.W.findIn X.K (.ref C) "__init__" = some (some (.ref fI))) (tI : PySem.W.typeIn X.K (.ref fI) = some (.type "function"))
    (F1 : FnOk X.prog X.w X.K X.mg X.base CX k fI fd ps sp) (hr : Room (k + 1) X.A) (hb : Binds X.K fd ps []) (hx : Passes CX X (fun _ _ _ => False)) (hg : Gl X x) (hm : X.mg x = some (.ref C)) (hdb : (x == ("__debug__" : Str)) = false := by decide) :
    PMk X (.Call (.Name x p) [] [] pos) (tMkO C sp [] tNil) := by
  intro pins s1 σ H1 Q I1 h
  obtain ⟨hz, q1⟩ := h
  obtain ⟨nm, q, N, bs, bm, sn, sub, ab, col, dd, k0, k1, k2, k3, k5, hC, hbm⟩ := T.cls
  refine wpAny_Call_Name_kw (ld_glob I1 hg hm ?_ hdb); refine PySem.W.callWith_K0 I1.kIn T.kC ?_
  show wpAny _ _ (call (.ref C) []) _ _ _
  obtain ⟨hp, g, dr, tk, os⟩ := s1
  have hsz : hp.objs.size ≤ hp.objs.size + 1 := Nat.le_succ _
  have hn : H1 (hp.objs.size + 1) = none := I1.hok.fresh hsz
  have hq := q1 (hp.objs.size + 1) hn
  have kk : ∀ b o, hp.get? b = some o → ((hp.push (PySem.W.kdv_tup [])).push (PySem.HandSPX.excO C hp.objs.size)).get? b = some o := fun b o e => Heap.get?_push_of_some _ (Heap.get?_push_of_some _ e)
  have hget : ((hp.push (PySem.W.kdv_tup [])).push (PySem.HandSPX.excO C hp.objs.size)).get? (hp.objs.size + 1) = some (PySem.HandSPX.excO C hp.objs.size) := by heap_get
  have I2 : L2.Inv X pins σ (upd H1 (hp.objs.size + 1) (exo (hp.objs.size + 1) C none)) ⟨(hp.push (PySem.W.kdv_tup [])).push (PySem.HandSPX.excO C hp.objs.size), g, dr, tk, os⟩ := I1.laid (t' := tk) (a := hp.objs.size + 1) (o := exo (hp.objs.size + 1) C none) (h' := (hp.push (PySem.W.kdv_tup [])).push (PySem.HandSPX.excO C hp.objs.size)) kk hsz (exo_ok hget)
  have r2 : Vals [V.ref (hp.objs.size + 1)] [Value.ref (hp.objs.size + 1)] := .cons rfl .nil
  have hl : ([Value.ref (hp.objs.size + 1)] ++ ([] : List Value)).length = ps.length := F1.len _ _ _ _ hq
  refine wpAny_call (PySem.HandSPX.call_own F.excBase_ValueError (fun Y => PySem.HandSPX.refsVE_contains Y bm hbm) (I1.kIn _ _ hC) (PySem.W.looks_findIn I1.kIn iC) (fun self => PySem.W.bind_fn I1.kIn self tI) (Nat.zero_le _)
    (codeAny_mono (F1.run _ X.stack _ _ ⟨[Value.ref (hp.objs.size + 1)], []⟩ [Value.ref (hp.objs.size + 1)] _ _ (fun _ _ _ => False) (hr.make C [] []) (I2.env0.make C [] []) (hb _ [Value.ref (hp.objs.size + 1)] I2.kIn hl) r2 hq) fun r s' hq' => ?_))
  cases r with
  | error er => exact hx pins σ _ _ er s' I2 hq'
  | ok fl =>
    cases fl with
    | ret u =>
      obtain ⟨v, H2, os2, bare2, un2, hok2, rv, ev, d, fs, ea, ed, hd1, q2⟩ := hq'
      subst ev
      obtain ⟨h2, g2, d2, t2, os'⟩ := s'
      exact ⟨rv, mk_end (raises_own T.exC T.tyC) I1 hsz kk un2 hok2 os2 bare2 ea ed hd1 q2⟩
    | next => exact False.elim hq'
    | brk => exact False.elim hq'
    | cont => exact False.elim hq'
/-- f(k = e, ..), nothing by place -/
def tCallK0 (sp : Sp) (gV : List V → List V → List V) (E : XK) (tk : TA) : TE := fun σ H Q => tk σ H fun zs H2 => sp (gV [] zs) H2 Q E
theorem pe_callK0 {X : Cx} {CX : CXT} {k : Nat} {f : Addr} {fd : FuncData} {ps ks : List Str} {sp : Sp} {E : XK} {x : Str} {p pos : Pos} {kws : List Keyword} {tk : TA} {g : List Value → List Value → List Value} {gV : List V → List V → List V}
    (F : FnOk X.prog X.w X.K X.mg X.base CX k f fd ps sp) (hr : Room k X.A) (hg : Gl X x) (hm : X.mg x = some (.ref f)) (hk : PySem.W.keepIn X.K (.ref f) = true) (hb : KBinds X.K fd ps ks g gV) (hx : Passes CX X E)
    (hkw : PK X kws tk) (hall : (backToKw pos (keywordEach kws X.env)).all (·.1.isSome) = true := by rfl) (hks : (backToKw pos (keywordEach kws X.env)).filterMap (·.1) = ks := by rfl)
    (hdb : (x == ("__debug__" : Str)) = false := by decide) (hpl : ((backTo pos (starEach [] X.env)).any (·.1) || (backToKw pos (keywordEach kws X.env)).any (·.1.isNone)) = false := by rfl) :
    PE X (.Call (.Name x p) [] kws pos) (tCallK0 sp gV E tk) := by
  refine ⟨fun pins s σ H Q I h => ?_⟩
  refine wpAny_Call_Name_kw (ld_glob I hg hm ?_ hdb)
  refine PySem.W.callWith_KW0 (h₀ := X.base) I.ok.mod.kin hk hall (thn (hkw.run pos pins s σ H _ I h) fun ws s2 ⟨zs, H2, I2, rz, q2⟩ => ⟨I2.kIn, ?_⟩) hpl
  rw [hks]
  exact run_fnk (us := []) (vs := []) F hr hb hx I2 .nil rz q2
theorem it_walk {J : It} {n : Nat} {G : Hp → Prop} {Y : Nat → Hp → V → Hp → Prop} (wk : Walk J n G Y) {H1 : Hp} {Qd : Hp → Prop} {Body : V → Hp → (Hp → Prop) → Prop} (Pv : Nat → Hp → Prop) (h0 : Pv 0 H1) (hG : ∀ i H, i ≤ n → Pv i H → G H)
    (hs : ∀ i x H H', i < n → Pv i H → Y i H x H' → Body x H' (Pv (i + 1))) (hd : ∀ H, Pv n H → Qd H) :
    ∃ W : Nat → Nat → Hp → Prop, (∃ m, W 0 m H1) ∧ ∀ i m H, W i m H → (J.stop i H ∧ Qd H) ∨ (J.go i H ∧ ∃ Nx : Hp → Prop, (∀ H', Nx H' → ∃ m', m' < m ∧ W (i + 1) m' H') ∧ ∀ x H', J.yld i H x H' → Body x H' Nx) := by
  refine ⟨fun i m H => m = n - i ∧ i ≤ n ∧ Pv i H, ⟨n, rfl, Nat.zero_le _, h0⟩, ?_⟩
  rintro i m H ⟨rfl, hi, p⟩
  have q := hG i H hi p
  by_cases hlt : i < n
  · exact .inr ⟨wk.goes i H hlt q, Pv (i + 1), fun H' p' => ⟨n - (i + 1), by omega, rfl, hlt, p'⟩, fun x H' y => hs i x H H' hlt p (wk.yields i H x H' hlt q y)⟩
  · have e : i = n := by omega
    subst e
    exact .inl ⟨wk.stops H q, hd H p⟩
section
variable {X : Cx} {K : PySem.W.Frag}
theorem p_bmR {o e : Expr} {es : List Expr} {to : TE} {t : TA} {name : Str} {apos cpos : Pos} {T id : String} {r : V → List V → Hp → VK → Prop} (pa : PlainAttrs T) (slot : Slot T name id) (hty : typeOf (.builtin id) = pure (.type "method_descriptor")) (hm : MtR X id r) (ho : PE X o to) (ha : PA X (e :: es) t) (hK : X.K = K := by rfl)
    (hbase : attributeBase o name X.env (eval o X.env) = eval o X.env := by rfl)
    (hfew : ((backTo cpos (starEach (e :: es) X.env)).all (fun x => !x.1) && (backToKw cpos (keywordEach [] X.env)).all (fun x => x.1.isSome) && decide ((e :: es).length + ([] : List Keyword).length + (if ([] : List Keyword).isEmpty then 0 else 1) < 30)) = true := by rfl)
    (hline : (apos.endLine == cpos.line) = true := by rfl) (hs : starEach (e :: es) X.env = (false, eval e X.env) :: starEach es X.env := by rfl) (hplain : (backTo cpos (starEach es X.env)).any (·.1) = false := by rfl) :
    PE X (.Call (.Attribute o name apos) (e :: es) [] cpos) (tBM K T r to t) := by
  subst hK
  exact pe_bm pa slot hty hm ho ha hbase hfew hline hs hplain
theorem c_max (hc : X.calm = true) (h : X.K = K := by rfl) : CallR X (.builtin "max") (rMax K) := by
  subst h
  exact cr_max hc
end
end Bw
set_option Elab.async false
set_option linter.all false
set_option maxRecDepth 100000
set_option maxHeartbeats 4000000
namespace Bw
open PySem PySem.Spec PyProof.Rows L2 LamX
/-! ### try: .. except x as n: .. and more clauses, where the first one takes whatever is raised -/
def wAs1 (K : PySem.W.Frag) (c : Value) (i : Nat) (ts : Addr → Value → Option Addr → TS) (D : Ends) : WX := fun cls d σ H =>
  PySem.W.exmOne K cls c = some true ∧ ∀ a, H a = none → ts a cls d { nx := fun σ' H' => D.nx (σ'.set i none) H', rt := D.rt, bk := fun σ' H' => D.bk (σ'.set i none) H', ct := fun σ' H' => D.ct (σ'.set i none) H' } (σ.set i (some (.ref a))) H
theorem ps_try_as1 {X : Cx} {x n : Str} {c : Value} {i : Nat} {body suite : List Stmt} {b₀ : Stmt} {np pos pos' : Pos} {tb : WX → TS} {ts : Addr → Value → Option Addr → TS} {hds : List ExceptHandler} (hs : X.stack = X.env :: X.outer) (hf : X.env.frame = some X.env.locals) (hN : X.N.Nodup) (hi : X.N[i]? = some n) (hln : X.env.kindOf n = some .local) (hc : Names X x c)
    (hb : ∀ (W : WX) (pn : List (Addr × Obj)) (xe : Value → Shared → Prop), Takes (X.tr pn xe) W → PassesOwn (model X.prog X.w) X.A X.env xe → PSs (X.tr pn xe) body (tb W))
    (hsu : ∀ (a : Addr) (oe : Obj) (cls : Value) (d : Option Addr) (pn : List (Addr × Obj)), Zc cls d oe → (∃ vs, oe.data = .fields vs) → PSs (X.suite a ((a, oe) :: pn)) (b₀ :: suite) (ts a cls d)) :
    PS X (.Try body (.ExceptHandler (some (.Name x np)) (some n) (b₀ :: suite) pos' :: hds) [] [] pos) (fun D σ H => tb (wAs1 X.K c i ts D) D σ H) := by
  refine ⟨fun pins s σ H D I h => ?_⟩
  have ok := I.ok
  have hfr : X.A.frames = some (X.env :: X.outer) := by rw [ok.frames, hs]
  have hloc : Loc X.env.scope n := .inl hln
  refine wpAny_Try_except ?_
  refine wpAny_mono ((hb (wAs1 X.K c i ts D) (X.pn ++ pins) (fun e s₁ => wpAny (model X.prog X.w) X.A (noteFrame e X.env) (fun _ s₂ => wpAny (model X.prog X.w) X.A (setFlight e none) (fun _ s₃ => wpAny (model X.prog X.w) X.A (handleBy e X.env (.ExceptHandler (some (.Name x np)) (some n) (b₀ :: suite) pos' :: hds)) (SP X pins D) X.xe s₃) X.xe s₂) X.xe s₁) (fun u s' xx => ?_) PassesOwn.looking).run [] s σ H D (I.toTry _) h) (fun f s1 hsp => ?_) (fun e s1 he => he)
  · obtain ⟨a, B, sI, pins', σ', H', cls, d, rfl, J', nb, up, sky, na, os, ag, hb1, hyes⟩ := xx
    have J : L2.Inv X pins σ' H' sI := J'.ofTry ok
    have sky' : Sky B (X.env :: X.outer) a (Zc cls d) X.env.locals s'.heap := by rw [← hs]; exact sky
    show wpAny (model X.prog X.w) X.A (noteFrame (.ref a) X.env) _ _ _
    refine Sky.land Zc.steady hfr hf sky' fun h3 fl3 up3 => ?_
    have J3 : L2.Inv X pins σ' H' { s' with heap := h3 } := J.landed nb fl3.1 (up.trans up3) os ag
    obtain ⟨oe3, vs3, he3, hz3, hd3⟩ := fl3.there
    have nfr : a ∉ frs (X.env :: X.outer) := fun hm => by
      obtain ⟨_, o', e', hnf⟩ := fl3.2.2.1.mem hm
      rw [he3] at e'; cases e'
      exact hnf _ hd3
    have nL : a ≠ X.env.locals := fun z => nfr (List.mem_filterMap.mpr ⟨X.env, List.mem_cons_self, by rw [hf, z]⟩)
    have nF : a ∉ X.fs := fun hm => by
      obtain ⟨e, he, q⟩ := List.mem_filterMap.mp hm
      exact nfr (List.mem_filterMap.mpr ⟨e, List.mem_cons_of_mem _ he, q⟩)
    have S3 := J3.suite he3 hd3 na nL nF
    refine wpAny_handleBy_cons (codeAny_handlers_test ?_) (by intro q; cases q)
    have LT : PySem.W.Looks (model X.prog X.w) h3 (typeOf (.ref a)) cls := fun A Q E s k q => wpAny_typeOf_ref (k _ _ he3) (by rw [hz3.1]; exact q)
    have LM := PySem.W.exm_one (M := model X.prog X.w) (J3.kIn) LT hb1
    have test : ∀ {Q : Value → Shared → Prop} {E : Value → Shared → Prop}, Q c { s' with heap := h3 } → wpAny (model X.prog X.w) (X.A.mark (some (.ref a))) (eval (.Name x np) X.env) Q E { s' with heap := h3 } := fun {Q E} q => by
      obtain ⟨hg, hdbg, hm | ⟨hm, hv, hnn⟩⟩ := hc
      · exact ld_glob (X := X.suite a ((a, oe3) :: (X.pn ++ pins))) S3 hg hm q hdbg
      · exact ld_blt (X := X.suite a ((a, oe3) :: (X.pn ++ pins))) S3 hg hm hv q hnn hdbg
    refine test (LM.here ?_)
    refine codeAny_handlers_suite_as ?_
    refine HandSPX.lands_againZ fl3 fun h4 fl4 up4 => ?_
    have J4 : L2.Inv X pins σ' H' { s' with heap := h4 } := J.landed nb fl4.1 ((up.trans up3).trans up4) os ag
    obtain ⟨oe4, vs4, he4, hz4, hd4⟩ := fl4.there
    have S4 := J4.suite he4 hd4 na nL nF
    refine store_ok (X := X.suite a ((a, oe4) :: (X.pn ++ pins))) (v := .ref a) S4 hN hi hloc rfl (fun s5 S5 => ?_) (.inr hln)
    refine wpAny_mono ((hsu a oe4 cls d (X.pn ++ pins) hz4 ⟨_, hd4⟩).run [] s5 _ H' _ S5 (hyes a na)) (fun f s6 hsp => ?_) (fun _ _ z => False.elim z)
    have end_ : ∀ {σ6 : L2.St} {H6 : Hp} {Q : Shared → Prop}, L2.Inv (X.suite a ((a, oe4) :: (X.pn ++ pins))) [] σ6 H6 s6 → (∀ s7, L2.Inv X pins (σ6.set i none) H6 s7 → Q s7) → wpAny (model X.prog X.w) X.A (do bindName X.env n .none; unbindBehindTheSuite X.env n pos') (fun _ s7 => Q s7) X.xe s6 := fun {σ6 H6 Q} S6 hq => gone_ok (S6.unsuite ok) hN hi hln hq
    cases f with
    | next => exact let ⟨σ6, H6, S6, q6⟩ := hsp; end_ S6 fun s7 J7 => ⟨_, _, J7, q6⟩
    | brk => exact let ⟨σ6, H6, S6, q6⟩ := hsp; end_ S6 fun s7 J7 => ⟨_, _, J7, q6⟩
    | cont => exact let ⟨σ6, H6, S6, q6⟩ := hsp; end_ S6 fun s7 J7 => ⟨_, _, J7, q6⟩
    | ret u => exact let ⟨v6, σ6, H6, S6, r6, q6⟩ := hsp; end_ S6 fun s7 J7 => ⟨_, _, _, J7, r6, q6⟩
  · cases f with
    | next => exact let ⟨σ', H', J', q⟩ := hsp; wpAny_execs_nil ⟨σ', H', J'.ofTry ok, q⟩
    | brk => exact let ⟨σ', H', J', q⟩ := hsp; ⟨σ', H', J'.ofTry ok, q⟩
    | cont => exact let ⟨σ', H', J', q⟩ := hsp; ⟨σ', H', J'.ofTry ok, q⟩
    | ret u => exact let ⟨v, σ', H', J', r, q⟩ := hsp; ⟨v, σ', H', J'.ofTry ok, r, q⟩
/-! ### e.n of a caught error whose class is known only then -/
def tXfD (K : PySem.W.Frag) (a : Addr) (cls : Value) (d : Option Addr) (n : Str) (i : Nat) : TE := fun σ H Q => σ[i]? = some (some (.ref a)) ∧ ∃ (C dd : Addr) (fs : List (Str × V)) (v : V), cls = .ref C ∧ XfC K C ∧ PySem.W.findIn K (.ref C) n = some none ∧ d = some dd ∧ H dd = some (.xd fs) ∧ fs.lookup n = some v ∧ Q v H
theorem pe_xfD {X : Cx} {a : Addr} {oe : Obj} {cls : Value} {d : Option Addr} {pn : List (Addr × Obj)} {e : Expr} {i : Nat} {pos : Pos} {n : Str} (hz : Zc cls d oe) (hf : ∃ vs, oe.data = .fields vs) (he : PE (X.suite a ((a, oe) :: pn)) e (tVar i)) (hb : attributeBase e n X.env (eval e X.env) = eval e X.env := by rfl) :
    PE (X.suite a ((a, oe) :: pn)) (.Attribute e n pos) (tXfD X.K a cls d n i) := by
  refine ⟨fun pins s σ H Q I h => ?_⟩
  obtain ⟨h1, C, dd, fs, v, rfl, T, hno, rfl, h2, h3, q⟩ := h
  exact (pe_xf T hno hz hf he hb).run pins s σ H Q I ⟨.ref a, h1, rfl, rfl, dd, fs, v, rfl, h2, h3, q⟩
/-! ### the word of a refusal, or none -/
/-- an error that a call may let out, with its word -/
def ErrAt (K : PySem.W.Frag) (CB : Addr) (cls : Value) (d : Option Addr) (H : Hp) (v : V) : Prop := ∃ (C dd : Addr) (fs : List (Str × V)), cls = .ref C ∧ d = some dd ∧ PySem.W.exmOne K (.ref C) (.ref CB) = some true ∧ XfC K C ∧ PySem.W.findIn K (.ref C) "word" = some none ∧ H dd = some (.xd fs) ∧ fs.lookup ("word" : Str) = some v
def TWord (K : PySem.W.Frag) (CB : Addr) : (XK → Hp → VK → Prop) → Hp → VK → Prop := fun tl H Q => tl (fun cls d H' => ∃ v, ErrAt K CB cls d H' v ∧ Q v H') H (fun _ H' => Q (.str "") H')
theorem takes_len {X : Cx} {W : WX} (tk : Takes X W) : Takes X (fun cls d σ H => σ.length = X.N.length → W cls d σ H) := fun u s' xx => by
  obtain ⟨a, B, sI, pins', σ', H', cls, d, rfl, J', nb, up, sky, na, os, ag, hw⟩ := xx
  exact tk _ _ ⟨a, B, sI, pins', σ', H', cls, d, rfl, J', nb, up, sky, na, os, ag, hw J'.len⟩
theorem word_gives {X : Cx} {Ng : List Str} {x a q : Str} {sg : Scope} {g CB : Addr} {cdg : Value} {j : Nat} {h2 : ExceptHandler} {p1 p2 p3 p4 p5 p6 p7 p8 p9 p10 p11 : Pos} (hge : sg.names.lookup ("BudError" : Str) = some .globalImplicit) (hme : X.mg "BudError" = some (.ref CB)) (hNd : Ng.Nodup) (hN1 : Ng[1]? = some ("e" : Str)) (hk : sg.names.lookup ("e" : Str) = some .local)
    (h0 : ∀ f : Addr, (L2.start Ng [V.ref f])[0]? = some (some (V.ref f))) :
    GivesTo X Ng x sg g cdg [.Try [.Expr (.Call (.Name a p1) [] [] p2) p3] [.ExceptHandler (some (.Name "BudError" p4)) (some "e") [.Return (some (.Attribute (.Name "e" p5) "word" p6)) p7] p8, h2] [] [] p9, .Return (some (.Constant (.str "") j p10)) p11] a q (TWord X.K CB) := by
  intro f c' s H Q tl act hc h
  have hgl : Gl (cxOf C8.CX0 X.prog X.w X.K X.mg X.base Ng x sg g cdg X.A X.stack s H C8.E0).nox "BudError" := hge
  refine ⟨_, pss_cons (ps_try_as1 (X := (cxOf C8.CX0 X.prog X.w X.K X.mg X.base Ng x sg g cdg X.A X.stack s H C8.E0).nox) (c := .ref CB) (i := 1)
      (tb := fun W D σ H => ∃ Ech : XK, (∀ cls d σ' H', Ech cls d H' → σ'.length = Ng.length → W cls d σ' H') ∧ σ[0]? = some (some (.ref f)) ∧ H c' = some (CodeO c' q) ∧ tl Ech H fun _ H' => D.nx σ H')
      (ts := fun a cls d => tRet (tXfD X.K a cls d "word" 1)) rfl rfl hNd hN1 hk ⟨hgl, by decide, .inl hme⟩ (fun W pn xe tk _ => ?_) (fun b oe cls d pn hz hf => pss_one (ps_ret (pe_xfD hz hf (pe_var hN1 (.inl hk)))))) (pss_one (ps_ret pe_str)), ?_⟩
  · refine ⟨fun pins s' σ H' D I h' => ?_⟩
    obtain ⟨Ech, hW, h1, h2, h3⟩ := h'
    have hp := act _ pn xe Ech p1 p2 (takes_len tk) hW
    have hq := pss_one (ps_expr (pos := p3) hp)
    exact hq.run pins s' σ H' D I ⟨h1, h2, h3⟩
  · refine ⟨fun cls d H' => ∃ v, ErrAt X.K CB cls d H' v ∧ Q v H', fun cls d σ' H' hE hl => ?_, h0 f, hc, h⟩
    obtain ⟨v, ⟨C, dd, fs, rfl, rfl, e1, e2, e3, e4, e5⟩, hQ⟩ := hE
    refine ⟨e1, fun b _ => ⟨?_, C, dd, fs, v, rfl, e2, e3, rfl, e4, e5, hQ⟩⟩
    have : 1 < σ'.length := by
      rw [hl]
      exact (List.getElem?_eq_some_iff.mp hN1).1
    rw [List.getElem?_set_self this]
end Bw
set_option Elab.async false
set_option linter.all false
set_option maxRecDepth 100000
set_option maxHeartbeats 4000000
namespace Bw
open PySem PySem.Spec PyProof.Rows L2
/-- what the written part says of an error's class that stands under BudError -/
structure ErrC (K : PySem.W.Frag) (mg : Str → Option Value) (x : Str) (C f CB : Addr) : Prop where
  g : mg x = some (.ref C)
  oex : OexC K C
  iC : PySem.W.findIn K (.ref C) "__init__" = some (some (.ref f))
  tI : PySem.W.typeIn K (.ref f) = some (.type "function")
  nw : PySem.W.findIn K (.ref C) "word" = some none
  xf : XfC K C
  te : PySem.W.exmOne K (.ref C) (.ref CB) = some true
def wordFs (x : Str) : List (Str × V) := [("word", .str x)]
theorem ErrC.at {K : PySem.W.Frag} {mg : Str → Option Value} {x wd : Str} {C f CB d : Addr} {H : Hp} (T : ErrC K mg x C f CB) (h : H d = some (.xd (wordFs wd))) : ErrAt K CB (.ref C) (some d) H (.str wd) := ⟨C, d, _, rfl, rfl, T.te, T.xf, T.nw, h, rfl⟩
section
variable {P : Program} {w : World} {K : PySem.W.Frag} {mg : Str → Option Value} {base : Heap}
abbrev s_bud_init : Stmt := inClass (topS 1) 0
theorem sc_bud_init : FnScope ["self", "word"] ["self", "word"] (defScope s_bud_init) := ⟨rfl, rfl, rfl, by decide +kernel, rfl, by decide +kernel, by decide +kernel⟩
def vV (K : PySem.W.Frag) : Prop := PySem.W.findCls K (.type "ValueError") (.type "type") "__init__" = some (.val (.builtin "ValueError.__init__"))
def spBudInit (K : PySem.W.Frag) : Sp := fun vs H Q _ => ∃ (a C : Addr) (x : V), vs = [.ref a, x] ∧ OexC K C ∧ PySem.W.findIn K (.ref C) "word" = some none ∧ H a = some (exo a C none) ∧ ∀ dx, H dx = none → dx ≠ a → Q .non (upd (upd H dx (exd dx [("word", x)])) a (exo a C (some dx)))
theorem ok_budinit {f : Addr} {fd : FuncData} {k : Nat} (F : Fun K "__init__" "BudError.__init__" s_bud_init f fd) (T : Tx mg) (v : vV K) : FnOk P w K mg base CX0 (k + 1) f fd ["self", "word"] (spBudInit K) := by
  refine F.ok sc_bud_init (fun vs H Q E h => ?_) (fun cdv A outer s H vs Q E hr h => ?_)
  · obtain ⟨a, C, x, rfl, _⟩ := h
    rfl
  · obtain ⟨a, C, x, rfl, O, nw, ha, q⟩ := h
    refine ⟨_, pss_cons (ps_expr (pe_veinit (by rfl) T.ValueError v (pa_cons (pv 0) (pa_cons (pv 1) pa_nil)))) (pss_one (ps_ost (pv 0) (pv 1))), ?_⟩
    refine ⟨.ref a, rfl, x, rfl, a, C, [x], rfl, by show 1 ≤ 1000; decide, O, ha, ?_⟩
    exact ⟨x, rfl, .ref a, rfl, a, C, rfl, O, nw, .inl ⟨ha, q⟩⟩
/-- an error's own __init__ that wants nothing -/
def spErrInit (K : PySem.W.Frag) (wd : Str) : Sp := fun vs H Q _ => ∃ (a C : Addr), vs = [.ref a] ∧ OexC K C ∧ PySem.W.findIn K (.ref C) "word" = some none ∧ H a = some (exo a C none) ∧
  ∀ (dx : Addr) (H' : Hp), H dx = none → dx ≠ a → H' a = some (exo a C (some dx)) → H' dx = some (exd dx (wordFs wd)) → (∀ b, b ≠ a → b ≠ dx → H' b = H b) → Q .non H'
abbrev s_bad_init : Stmt := inClass (topS 2) 0
theorem sc_bad_init : FnScope ["self"] ["self"] (defScope s_bad_init) := ⟨rfl, rfl, rfl, by decide +kernel, rfl, by decide +kernel, by decide +kernel⟩
theorem ok_badinit {f fB CB : Addr} {fd fdB : FuncData} {k : Nat} (F : Fun K "__init__" "BadTable.__init__" s_bad_init f fd) (T : Tx mg) (TB : ClsFn K mg "BudError" "__init__" CB fB) (FB : FnOk P w K mg base CX0 k fB fdB ["self", "word"] (spBudInit K)) (bB : Binds K fdB ["self", "word"] []) : FnOk P w K mg base CX0 (k + 1) f fd ["self"] (spErrInit K "bad table") := by
  refine F.ok sc_bad_init (fun vs H Q E h => ?_) (fun cdv A outer s H vs Q E hr h => ?_)
  · obtain ⟨a, C, rfl, _⟩ := h
    rfl
  · obtain ⟨a, C, rfl, O, nw, ha, q⟩ := h
    refine ⟨_, pss_one (ps_expr (pe_cfun TB FB hr (by rfl) bB pass0 (pa_cons (pv 0) (pa_cons pe_str pa_nil)))), ?_⟩
    refine ⟨.ref a, rfl, a, C, _, rfl, O, nw, ha, fun dx ed nd => ?_⟩
    refine q dx _ ed nd upd_same ?_ fun b n1 n2 => ?_
    · rw [upd_ne nd, upd_same]
      rfl
    · rw [upd_ne n1, upd_ne n2]
end
/-- raise x(): its reading, where what was stays -/
theorem raise_done {K : PySem.W.Frag} {mg : Str → Option Value} {x wd : Str} {C f CB : Addr} {σ : L2.St} {H : Hp} {E : XK} (T : ErrC K mg x C f CB) (q : ∀ (d : Addr) (H' : Hp), Same H H' → H' d = some (.xd (wordFs wd)) → E (.ref C) (some d) H') : tMkO C (spErrInit K wd) [] tNil σ H E := by
  refine ⟨by show 0 ≤ 1000; decide, fun x ex => ?_⟩
  refine ⟨x, C, rfl, T.oex, T.nw, upd_same, fun dx H6 ed nd hx hd hk => ?_⟩
  have ed2 : H dx = none := by
    rw [upd_ne nd] at ed
    exact ed
  refine ⟨rfl, dx, _, hx, hd, ed2, q dx _ (fun c o e2 => ?_) upd_same⟩
  have n1 : c ≠ x := ne_of_none e2 ex
  have n2 : c ≠ dx := ne_of_none e2 ed2
  rw [upd_ne n2, del_ne n1, hk c n1 n2, upd_ne n1]
  exact e2
structure CalX (P : Program) (w : World) (K : PySem.W.Frag) (mg : Str → Option Value) (base : Heap) (k : Nat) (x : Str) (ps : List Str) (sp : Sp) : Prop where
  ex : ∃ (f : Addr) (fd : FuncData), FnOk P w K mg base (L2.CX P w) k f fd ps sp ∧ mg x = some (.ref f) ∧ PySem.W.keepIn K (.ref f) = true ∧ Binds K fd ps []
theorem pe_calX {X : Cx} {x : Str} {ps : List Str} {sp : Sp} {k : Nat} {e : Expr} {es : List Expr} {p pos : Pos} {t : TA} {E : XK} (C : CalX X.prog X.w X.K X.mg X.base k x ps sp) (hr : Room k X.A) (hg : Gl X x) (hx : Passes (L2.CX X.prog X.w) X E) (ha : PA X (e :: es) t) (hdb : (x == ("__debug__" : Str)) = false := by decide) (he : starEach (e :: es) X.env = (false, eval e X.env) :: starEach es X.env := by rfl)
    (hpl : (backTo pos (starEach es X.env)).any (·.1) = false := by rfl) : PE X (.Call (.Name x p) (e :: es) [] pos) (tCall sp [] E t) := by
  obtain ⟨f, fd, F, hm, hk, hb⟩ := C.ex
  exact pe_call F hr hg hm hk hb .nil hx ha hdb he hpl
/-- what of a callee may be let out is let out -/
theorem passE {X : Cx} {E : XK} {E₁ : Value → Shared → Prop} (hs : X.stack = X.env :: X.outer) (hf : X.env.frame = some X.env.locals) (hex : X.ex = []) (hx : X.xe = fun e s' => wpAny (model X.prog X.w) X.A (leaving X.env e) (fun _ s'' => L2.CX X.prog X.w X.outer X.H_0 X.s_0 E e s'') E₁ s') : Passes (L2.CX X.prog X.w) X E := passes_call (takes_of hs hf hex hx) fun _ _ _ _ h => h
end Bw
set_option Elab.async false
set_option linter.all false
set_option maxRecDepth 100000
set_option maxHeartbeats 4000000
namespace Bw
open PySem PySem.Spec PyProof.Rows L2
/-! ### check_form of any rows -/
def formOk (rows : List (List Int)) : Bool := match rows with
  | [] => false
  | r0 :: _ => decide (1 ≤ r0.length ∧ r0.length ≤ 4) && decide (r0.length ≤ rows.length ∧ rows.length ≤ r0.length + 4) && rows.all (rowOk r0.length)
section
variable {P : Program} {w : World} {K : PySem.W.Frag} {mg : Str → Option Value} {base : Heap} {CT fT CB : Addr}
def spFormG (CT : Addr) : Sp := fun vs H Q E => ∃ (a : Addr) (rows : List (List Int)), vs = [.ref a] ∧ TabAt H a rows ∧ rows.length ≤ 901 ∧ (∀ r ∈ rows, r.length ≤ 901) ∧ (formOk rows = true → ∀ H', Same H H' → Q .non H') ∧
  (formOk rows = false → ∀ (d : Addr) (H' : Hp), Same H H' → H' d = some (.xd (wordFs "bad table")) → E (.ref CT) (some d) H')
theorem ok_formG {f : Addr} {fd fdT : FuncData} (F : Fun K "check_form" "check_form" s_check_form f fd) (T : Tx mg) (TS : ErrC K mg "BadTable" CT fT CB) (FS : FnOk P w K mg base CX0 2 fT fdT ["self"] (spErrInit K "bad table")) (bS : Binds K fdT ["self"] []) (c_is_row : Cal P w K mg base CX0 2 "is_row" ["row", "many"] spIsRowG) : FnOk P w K mg base (L2.CX P w) 4 f fd ["table"] (spFormG CT) := by
  refine F.okX sc_check_form (fun vs H Q E h => ?_) (fun cdv A outer s H vs Q E hr h => ?_)
  · obtain ⟨a, rows, rfl, _⟩ := h
    rfl
  · obtain ⟨a, rows, rfl, hT, lr, lrs, q, qE⟩ := h
    have hr2 := hr.mono (show 2 ≤ 3 by decide)
    refine ⟨_, (pss_cons (ps_if (PW.pt (pw_or (pt_not (pt_val (pe_callB (c_isi (K := K)) (by rfl) T.isinstance (by decide +kernel) (pa_cons (pv 0) (pa_cons (pe_bltn (v := .ty "tuple") (by rfl) T.tuple (by decide +kernel) rfl) pa_nil))))) (pw_or (pt_cmpR op_eq (pe_callB (c_len (K := K)) (by rfl) T.len PySem.boot_len (pa_cons (pv 0) pa_nil)) pe_int (nomark _)) (pw_or1 (pt_not (pt_val (pe_callB (c_isi (K := K)) (by rfl) T.isinstance (by decide +kernel) (pa_cons (pe_ix (i_tup (K := K)) (pv 0) pe_int (fun _ _ => rfl)) (pa_cons (pe_bltn (v := .ty "tuple") (by rfl) T.tuple (by decide +kernel) rfl) pa_nil)))))))))
    (pss_one (ps_raise rfl (takes_of rfl rfl rfl rfl) (pmk_oex0 TS.oex TS.iC TS.tI FS hr bS pass0 (by rfl) TS.g)))
    pss_nil)
  (pss_cons (ps_set (i := 1) sc_check_form.nd rfl (.inr rfl) (pe_callB (c_len (K := K)) (by rfl) T.len PySem.boot_len (pa_cons (pe_ix (i_tup (K := K)) (pv 0) pe_int (fun _ _ => rfl)) pa_nil)))
  (pss_cons (ps_if (PW.pt (pw_or (pt_not (pt_chain op_le op_le pe_int (pv 1) (pe_gint (by rfl) T.MOST_BUDS))) (pw_or1 (pt_not (pt_chain op_le op_le (pv 1) (pe_callB (c_len (K := K)) (by rfl) T.len PySem.boot_len (pa_cons (pv 0) pa_nil)) (pe_op op_add (pv 1) (pe_gint (by rfl) T.MOST_ROOTS)))))))
    (pss_one (ps_raise rfl (takes_of rfl rfl rfl rfl) (pmk_oex0 TS.oex TS.iC TS.tI FS hr bS pass0 (by rfl) TS.g)))
    pss_nil)
  (pss_one (ps_if (pt_not (pt_val (pe_callB (c_all (K := K) rfl) (by rfl) T.all (by decide +kernel) (pa_cons (pe_lc (own := [("row", 2)]) (by rfl) sc_check_form.nd (p_tup (K := K) (pv 0)) (blkOk_by (own := [("row", 2)]) (N := n_check_form) (sc := defScope s_check_form) (by decide +kernel)) (fun _ _ _ _ _ => (pg_name (i := 2) sc_check_form.nd rfl (.inl rfl))) (fun _ _ _ _ _ => pts_nil) (fun _ _ _ _ _ => (pe_cal c_is_row hr2 (by rfl) (pa_cons (pv 2) (pa_cons (pv 1) pa_nil))))) pa_nil))))
    (pss_one (ps_raise rfl (takes_of rfl rfl rfl rfl) (pmk_oex0 TS.oex TS.iC TS.tI FS hr bS pass0 (by rfl) TS.g)))
    pss_nil))))), ?_⟩
    obtain ⟨as, ha, hal, has⟩ := id hT
    refine ⟨.ref a, rfl, _, _, _, _, true, rfl, .ty "tuple", .base (.tup ha), kit_ty (by decide +kernel), true, rfl, ?_⟩
    refine iteF ⟨.ref a, rfl, a, _, rfl, .inr (SqT.of ha), rfl, _, rfl, ite2 (fun e => ?_) (fun e0 => ?_)⟩
    · have e := V.int.inj (of_decide_eq_true e)
      rw [List.length_map, hal] at e
      have : rows = [] := List.eq_nil_of_length_eq_zero (by omega)
      subst this
      exact iteT (raise_done TS fun d H' s hd => qE rfl d H' s hd)
    cases rows with
    | nil =>
      exfalso
      exact e0 (decide_eq_true (by rw [List.length_map, hal]; rfl))
    | cons r0 rest =>
      obtain ⟨b, hb1, hb⟩ := has 0 r0 rfl
      have hb0 : (as.map V.ref)[0]? = some (.ref b) := by rw [List.getElem?_map, hb1]; rfl
      refine ⟨.ref a, rfl, a, _, 0, .ref b, rfl, rfl, SqT.of ha, atI_nat (j := 0) hb0, _, _, _, _, true, rfl, .ty "tuple", .base (.tup hb), kit_ty (by decide +kernel), true, rfl, iteF ?_⟩
      refine ⟨.ref a, rfl, a, _, 0, .ref b, rfl, rfl, SqT.of ha, atI_nat (j := 0) hb0, b, _, rfl, .inr (SqT.of hb), ?_⟩
      rw [List.length_map]
      have bad1 : ¬ (1 ≤ r0.length ∧ r0.length ≤ 4) → formOk (r0 :: rest) = false := fun z => by
        show (decide (1 ≤ r0.length ∧ r0.length ≤ 4) && decide (r0.length ≤ (r0 :: rest).length ∧ (r0 :: rest).length ≤ r0.length + 4) && (r0 :: rest).all (rowOk r0.length)) = false
        rw [decide_eq_false z]
        rfl
      have bad2 : ¬ (r0.length ≤ (r0 :: rest).length ∧ (r0 :: rest).length ≤ r0.length + 4) → formOk (r0 :: rest) = false := fun z => by
        show (decide (1 ≤ r0.length ∧ r0.length ≤ 4) && decide (r0.length ≤ (r0 :: rest).length ∧ (r0 :: rest).length ≤ r0.length + 4) && (r0 :: rest).all (rowOk r0.length)) = false
        rw [decide_eq_false z, Bool.and_false]
        rfl
      have boom : formOk (r0 :: rest) = false → ∀ (H' : Hp) (σ : L2.St), Same H H' → tMkO CT (spErrInit K "bad table") [] tNil σ H' E := fun z H' σ s => raise_done TS fun d H2 s2 hd => qE z d H2 (s.trans s2) hd
      refine ⟨.int r0.length, rfl, _, _, rfl, rfl, _, rfl, ite2 (fun h1 => ⟨_, _, rfl, rfl, _, rfl, ite2 (fun h2 => ?_) (fun h2 => ?_)⟩) (fun h1 => ⟨false, rfl, ite2 (fun _ => ?_) (fun z => absurd rfl z)⟩)⟩
      · exact iteT (boom (bad1 fun z => by rw [decide_eq_true (show ((r0.length : Int)) ≤ 4 by omega)] at h2; exact absurd h2 (by decide)) H _ (.refl _))
      · have g1 : 1 ≤ r0.length ∧ r0.length ≤ 4 := by
          have k1 := of_decide_eq_true h1
          by_cases z : ((r0.length : Int)) ≤ 4
          · omega
          · rw [decide_eq_false z] at h2
            exact absurd rfl h2
        refine ⟨.int r0.length, rfl, .ref a, rfl, a, _, rfl, .inr (SqT.of ha), _, _, rfl, rfl, _, rfl, ?_⟩
        rw [List.length_map, hal]
        refine ite2 (fun h3 => ⟨.int r0.length, rfl, _, _, rfl, rfl, _, _, rfl, rfl, _, rfl, ite2 (fun h4 => ?_) (fun h4 => ?_)⟩) (fun h3 => ⟨false, rfl, ite2 (fun _ => ?_) (fun z => absurd rfl z)⟩)
        · exact boom (bad2 fun z => by rw [decide_eq_true (show ((((r0 :: rest).length : Nat) : Int)) ≤ (r0.length : Int) + 4 by omega)] at h4; exact absurd h4 (by decide)) H _ (.refl _)
        · have g2 : r0.length ≤ (r0 :: rest).length ∧ (r0 :: rest).length ≤ r0.length + 4 := by
            have k1 := of_decide_eq_true h3
            by_cases z : ((((r0 :: rest).length : Nat) : Int)) ≤ (r0.length : Int) + 4
            · omega
            · rw [decide_eq_false z] at h4
              exact absurd rfl h4
          have ef : formOk (r0 :: rest) = (r0 :: rest).all (rowOk r0.length) := by
            show (decide (1 ≤ r0.length ∧ r0.length ≤ 4) && decide (r0.length ≤ (r0 :: rest).length ∧ (r0 :: rest).length ≤ r0.length + 4) && (r0 :: rest).all (rowOk r0.length)) = _
            rw [decide_eq_true g1, decide_eq_true g2]
            rfl
          clear h1 h2 h3 h4 bad1 bad2
          generalize r0.length = m at *
          generalize r0 :: rest = rows at *
          refine ⟨.ref a, rfl, a, rfl, ⟨_, SqT.of ha⟩, fun D eD => ?_⟩
          refine lc_tup (K := K) (a := a) (xs := as.map V.ref) (fun j H' => H' D = some (.lst (((rows.take j).map (rowOk m)).map V.bl)) ∧ Same H H') ⟨upd_same, same_upd eD⟩ (fun j H' _ ⟨_, k⟩ => SqT.of (k _ _ ha)) ?_ ?_
          · rintro j v H1 hv ⟨e1, k1⟩
            obtain ⟨t, et, rfl⟩ := ref_at hv
            have hj : j < rows.length := by
              have := (List.getElem?_eq_some_iff.mp et).1
              omega
            obtain ⟨c', e2, hc⟩ := has j _ (List.getElem?_eq_getElem hj)
            cases (Option.some.inj (et.symm.trans e2))
            refine ⟨rfl, .ref t, rfl, .int m, rfl, t, rows[j], m, rfl, k1 _ _ hc, lrs _ (List.getElem_mem hj), fun H2 s2 => ?_⟩
            refine ⟨_, s2 _ _ e1, by rw [List.length_map, List.length_map, List.length_take]; exact small1000 (by omega), ?_, Same.updN (k1.trans s2) eD⟩
            rw [upd_same, List.take_succ, List.getElem?_eq_getElem hj, List.map_append, List.map_append]
            rfl
          · rintro H1 ⟨e1, k1⟩
            rw [List.length_map, hal, List.take_length] at e1
            have ea : (rows.map (rowOk m)).all id = formOk rows := by
              rw [ef, List.all_map]
              rfl
            refine ⟨D, _, rfl, SqL.of e1, _, rfl, ?_⟩
            rw [ea]
            cases hk : formOk rows with
            | true => exact iteF (q hk H1 k1)
            | false => exact iteT (boom hk H1 _ k1)
        · exact boom (bad2 fun z => h3 (decide_eq_true (by omega))) H _ (.refl _)
      · exact iteT (boom (bad1 fun z => h1 (decide_eq_true (by omega))) H _ (.refl _))
end
end Bw
set_option Elab.async false
set_option linter.all false
set_option maxRecDepth 100000
set_option maxHeartbeats 4000000
namespace Bw
open PySem PySem.Spec PyProof.Rows L2
/-! ### any table of a good form: what bars it -/
structure FmOk (rows : List (List Int)) (n : Nat) : Prop where
  n1 : 1 ≤ n
  n4 : n ≤ 4
  len : n ≤ rows.length
  len4 : rows.length ≤ n + 4
  wide : ∀ r ∈ rows, r.length = n
  tie : ∀ r ∈ rows, ∀ t ∈ r, -50 ≤ t ∧ t ≤ 50
theorem fmOk {rows : List (List Int)} (h : formOk rows = true) : FmOk rows (rows.getD 0 []).length := by
  cases rows with
  | nil => cases h
  | cons r0 rest =>
    have h : (decide (1 ≤ r0.length ∧ r0.length ≤ 4) && decide (r0.length ≤ (r0 :: rest).length ∧ (r0 :: rest).length ≤ r0.length + 4) && (r0 :: rest).all (rowOk r0.length)) = true := h
    rw [Bool.and_eq_true, Bool.and_eq_true] at h
    obtain ⟨⟨h1, h2⟩, h3⟩ := h
    have h1 := of_decide_eq_true h1
    have h2 := of_decide_eq_true h2
    have h3 := List.all_eq_true.mp h3
    have h4 : ∀ r ∈ r0 :: rest, r.length = r0.length ∧ ∀ t ∈ r, -50 ≤ t ∧ t ≤ 50 := fun r hr => by
      have h := h3 r hr
      unfold rowOk at h
      rw [Bool.and_eq_true] at h
      refine ⟨of_decide_eq_true h.1, fun t ht => ?_⟩
      have k := of_decide_eq_true (List.all_eq_true.mp h.2 t ht)
      split at k <;> omega
    exact ⟨h1.1, h1.2, h2.1, h2.2, fun r hr => (h4 r hr).1, fun r hr => (h4 r hr).2⟩
theorem formOk_of {rows : List (List Int)} {n : Nat} (F : FmOk rows n) : formOk rows = true := by
  cases rows with
  | nil =>
    have := F.len
    have := F.n1
    simp at *
    omega
  | cons r0 rest =>
    have e := F.wide r0 (List.mem_cons_self ..)
    show (decide (1 ≤ r0.length ∧ r0.length ≤ 4) && decide (r0.length ≤ (r0 :: rest).length ∧ (r0 :: rest).length ≤ r0.length + 4) && (r0 :: rest).all (rowOk r0.length)) = true
    rw [e, decide_eq_true ⟨F.n1, F.n4⟩, decide_eq_true ⟨F.len, F.len4⟩]
    refine List.all_eq_true.mpr fun r hr => ?_
    unfold rowOk
    rw [decide_eq_true (F.wide r hr)]
    refine List.all_eq_true.mpr fun t ht => decide_eq_true ?_
    have := F.tie r hr t ht
    split <;> omega
theorem TabOk.fm {rows : List (List Int)} {n : Nat} (O : TabOk rows n) : FmOk rows n := ⟨O.n1, O.n4, O.len, O.len4, O.wide, O.tie⟩
theorem FmOk.bd {rows : List (List Int)} {n i j : Nat} (O : FmOk rows n) (hi : i < rows.length) (hj : j < n) : -50 ≤ ent rows i j ∧ ent rows i j ≤ 50 := by
  have h := row_len O.wide hi
  have hj2 : j < (rows.getD i []).length := by omega
  have e : ent rows i j = (rows.getD i [])[j] := by
    unfold ent
    rw [List.getD_eq_getElem?_getD (i := j), List.getElem?_eq_getElem hj2]
    rfl
  rw [e]
  refine O.tie (rows.getD i []) ?_ _ (List.getElem_mem hj2)
  rw [List.getD_eq_getElem?_getD, List.getElem?_eq_getElem hi]
  exact List.getElem_mem hi
def pairB (rows : List (List Int)) (i j : Nat) : Bool := !(decide (ent rows i j = 0) && decide (ent rows j i = 0)) && decide (ent rows i j * ent rows j i ≥ 0)
def ringB (rows : List (List Int)) (g : List Nat) : Bool := !decide ((fl (fun z => ent rows z.1 z.2) (g.zip (rot g))).natAbs = (fl (fun z => ent rows z.2 z.1) (g.zip (rot g))).natAbs)
def unlS (n : Nat) (g : List Nat) : List (List Nat) := ((List.range n).filter fun x => !g.contains x).map fun x => g ++ [x]
def unl (n : Nat) : Nat → List (List Nat)
  | 0 => [[]]
  | k + 1 => (unl n k).flatMap (unlS n)
def evenB (rows : List (List Int)) (n : Nat) : Bool := ((List.range n).all fun i => (List.range (n - i)).all fun j => !pairB rows i (i + j)) && (unl n 3 ++ unl n 4).all fun g => !ringB rows g
theorem pairB_even {rows : List (List Int)} {n i j : Nat} (O : TabOk rows n) (hi : i < n) (hj : j < n) : pairB rows i j = false := by
  obtain ⟨d, d0, dv⟩ := O.even
  have key := pair_math (d0 i hi) (d0 j hj) (dv i j hi hj)
  unfold pairB
  rcases key with ⟨h1, h2⟩ | h
  · rw [h1, h2]
    rfl
  · rw [decide_eq_false (show ¬ (ent rows i j * ent rows j i ≥ 0) by omega), Bool.and_false]
theorem unl_lt {n : Nat} : ∀ (m : Nat) (g : List Nat), g ∈ unl n m → g.length = m ∧ ∀ x ∈ g, x < n
  | 0, g, h => by
    rw [List.mem_singleton.mp h]
    exact ⟨rfl, fun x hx => by cases hx⟩
  | m + 1, g, h => by
    obtain ⟨g', h1, h2⟩ := List.mem_flatMap.mp h
    obtain ⟨x, hx, rfl⟩ := List.mem_map.mp h2
    obtain ⟨a, b⟩ := unl_lt m g' h1
    have hx := List.mem_range.mp (List.mem_filter.mp hx).1
    refine ⟨by rw [List.length_append, a]; rfl, fun y hy => ?_⟩
    rcases List.mem_append.mp hy with hy | hy
    · exact b y hy
    · rw [List.mem_singleton.mp hy]
      exact hx
theorem evenB_of {rows : List (List Int)} {n : Nat} (O : TabOk rows n) : evenB rows n = true := by
  unfold evenB
  rw [Bool.and_eq_true]
  refine ⟨List.all_eq_true.mpr fun i hi => List.all_eq_true.mpr fun j hj => ?_, List.all_eq_true.mpr fun g hg => ?_⟩
  · have hi := List.mem_range.mp hi
    have hj := List.mem_range.mp hj
    rw [pairB_even O hi (by omega)]
    rfl
  · have hb : ∀ x ∈ g, x < n := by
      rcases List.mem_append.mp hg with h | h
      · exact (unl_lt _ _ h).2
      · exact (unl_lt _ _ h).2
    unfold ringB
    rw [decide_eq_true (ring_math O hb)]
    rfl
theorem unl_len (n : Nat) (h : n ≤ 4) : (unl n 3).length ≤ 64 ∧ (unl n 4).length ≤ 256 := by
  have : n = 0 ∨ n = 1 ∨ n = 2 ∨ n = 3 ∨ n = 4 := by omega
  rcases this with rfl | rfl | rfl | rfl | rfl <;> decide +kernel
/-- the tuples of such rows -/
def RgAt (H : Hp) : List Addr → List (List Nat) → Prop
  | [], [] => True
  | t :: ts, g :: gs => H t = some (.tup (ringV g)) ∧ RgAt H ts gs
  | _, _ => False
theorem RgAt.keep {H H' : Hp} (s : ∀ b xs, H b = some (.tup xs) → H' b = some (.tup xs)) : ∀ {ts : List Addr} {gs : List (List Nat)}, RgAt H ts gs → RgAt H' ts gs
  | [], [], _ => trivial
  | _ :: _, _ :: _, h => ⟨s _ _ h.1, RgAt.keep s h.2⟩
  | [], _ :: _, h => h
  | _ :: _, [], h => h
theorem RgAt.same {H H' : Hp} (s : Same H H') {ts : List Addr} {gs : List (List Nat)} (h : RgAt H ts gs) : RgAt H' ts gs := h.keep fun b xs e => s _ _ e
theorem RgAt.put {H : Hp} {D : Addr} {xs : List V} {u : HO} {ts : List Addr} {gs : List (List Nat)} (e : H D = some (.lst xs)) (h : RgAt H ts gs) : RgAt (upd H D u) ts gs := h.keep fun b ys k => by
  rw [upd_ne (ne_of k e (by intro z; cases z))]
  exact k
theorem RgAt.snoc {H : Hp} {t : Addr} {g : List Nat} (k : H t = some (.tup (ringV g))) : ∀ {ts : List Addr} {gs : List (List Nat)}, RgAt H ts gs → RgAt H (ts ++ [t]) (gs ++ [g])
  | [], [], _ => ⟨k, trivial⟩
  | _ :: _, _ :: _, h => ⟨h.1, RgAt.snoc k h.2⟩
  | [], _ :: _, h => h.elim
  | _ :: _, [], h => h.elim
theorem RgAt.append {H : Hp} {us : List Addr} {fs : List (List Nat)} (k : RgAt H us fs) : ∀ {ts : List Addr} {gs : List (List Nat)}, RgAt H ts gs → RgAt H (ts ++ us) (gs ++ fs)
  | [], [], _ => k
  | _ :: _, _ :: _, h => ⟨h.1, RgAt.append k h.2⟩
  | [], _ :: _, h => h.elim
  | _ :: _, [], h => h.elim
theorem RgAt.len {H : Hp} : ∀ {ts : List Addr} {gs : List (List Nat)}, RgAt H ts gs → ts.length = gs.length
  | [], [], _ => rfl
  | _ :: _, _ :: _, h => congrArg (· + 1) (RgAt.len h.2)
  | [], _ :: _, h => h.elim
  | _ :: _, [], h => h.elim
theorem RgAt.at {H : Hp} : ∀ {ts : List Addr} {gs : List (List Nat)}, RgAt H ts gs → ∀ {i : Nat} {t : Addr}, ts[i]? = some t → ∃ g, gs[i]? = some g ∧ H t = some (.tup (ringV g))
  | [], [], _, i, t, e => by simp at e
  | t' :: _, g :: _, h, 0, t, e => ⟨g, rfl, by cases (Option.some.inj e); exact h.1⟩
  | _ :: _, _ :: _, h, i + 1, t, e => RgAt.at h.2 (i := i) e
  | [], _ :: _, h, _, _, _ => h.elim
  | _ :: _, [], h, _, _, _ => h.elim
theorem inV_ring (x : Nat) : ∀ g : List Nat, inV (.int x) (ringV g) = g.contains x
  | [] => rfl
  | y :: g => by
    show (eqV (.int y) (.int x) || inV (.int x) (ringV g)) = (x == y || g.contains x)
    rw [inV_ring x g]
    congr 1
    show decide (((y : Nat) : Int) = ((x : Nat) : Int)) = _
    by_cases e : x = y
    · subst e
      simp
    · rw [decide_eq_false (by omega)]
      simp [e]
section
variable {P : Program} {w : World} {K : PySem.W.Frag} {mg : Str → Option Value} {base : Heap}
def spPairG : Sp := fun vs H Q _ => ∃ (a : Addr) (rows : List (List Int)) (n i j : Nat), vs = [.ref a, .int i, .int j] ∧ TabAt H a rows ∧ FmOk rows n ∧ i < n ∧ j < n ∧ Q (.bl (pairB rows i j)) H
theorem ok_pairG {f : Addr} {fd : FuncData} {k : Nat} (F : Fun K "pair_bars" "pair_bars" s_pair_bars f fd) (T : Tx mg) : FnOk P w K mg base CX0 (k + 1) f fd ["table", "i", "j"] spPairG := by
  refine F.ok sc_pair_bars (fun vs H Q E h => ?_) (fun cdv A outer s H vs Q E hr h => ?_)
  · obtain ⟨a, rows, n, i, j, rfl, _⟩ := h
    rfl
  · obtain ⟨a, rows, n, i, j, rfl, hT, O, hi, hj, q⟩ := h
    refine ⟨_, (pss_cons (ps_set (i := 3) sc_pair_bars.nd rfl (.inl rfl) (pe_ix (i_tup (K := K)) (pe_ix (i_tup (K := K)) (pv 0) (pv 1) (fun _ _ => rfl)) (pv 2) (fun _ _ => rfl)))
  (pss_cons (ps_set (i := 4) sc_pair_bars.nd rfl (.inl rfl) (pe_ix (i_tup (K := K)) (pe_ix (i_tup (K := K)) (pv 0) (pv 2) (fun _ _ => rfl)) (pv 1) (fun _ _ => rfl)))
  (pss_one (ps_ret (pe_and (pe_not (pe_and (pe_cmpR op_eq (pv 3) pe_int (nomark _)) (pe_one (pe_cmpR op_eq (pv 4) pe_int (nomark _))))) (pe_one (pe_cmpR op_ge (pe_op op_mul (pv 3) (pv 4)) pe_int (nomark _)))))))), ?_⟩
    have hl := O.len
    have hi2 : i < rows.length := by omega
    have hj2 : j < rows.length := by omega
    obtain ⟨as, bi, e1, e2, e3⟩ := hT.row hi2
    obtain ⟨as', bj, e1', e2', e3'⟩ := hT.row hj2
    have bd := O.bd hi2 hj
    refine ⟨.ref a, rfl, .int i, rfl, a, _, i, .ref bi, rfl, rfl, SqT.of e1, atI_nat e2, .int j, rfl, bi, _, j, _, rfl, rfl, SqT.of e3, atI_nat (ent_get O.wide hi2 hj), ?_⟩
    refine ⟨.ref a, rfl, .int j, rfl, a, _, j, .ref bj, rfl, rfl, SqT.of e1', atI_nat e2', .int i, rfl, bj, _, i, _, rfl, rfl, SqT.of e3', atI_nat (ent_get O.wide hj2 hi), ?_⟩
    unfold pairB at q
    generalize ent rows i j = x at bd q
    generalize ent rows j i = y at q
    refine ⟨.int x, rfl, rfl, _, rfl, ite2 (fun e => ?_) (fun e => ?_)⟩
    · have ex : x = 0 := V.int.inj (of_decide_eq_true e)
      subst ex
      refine ⟨.int y, rfl, rfl, _, rfl, ?_⟩
      by_cases hy : y = 0
      · subst hy
        exact ⟨false, rfl, q⟩
      · have e1 : decide (V.int y = V.int 0) = false := decide_eq_false fun z => hy (V.int.inj z)
        rw [e1]
        refine ⟨true, rfl, .int 0, rfl, .int y, rfl, 0, y, rfl, rfl, .inl ⟨by omega, by omega⟩, _, _, rfl, rfl, ?_⟩
        rw [decide_eq_false hy] at q
        exact q
    · have ex : ¬ x = 0 := fun z => e (decide_eq_true (congrArg V.int z))
      refine ⟨false, rfl, true, rfl, .int x, rfl, .int y, rfl, x, y, rfl, rfl, .inl ⟨by omega, by omega⟩, _, _, rfl, rfl, ?_⟩
      rw [decide_eq_false ex] at q
      exact q
def spRingG : Sp := fun vs H Q _ => ∃ (a t : Addr) (rows : List (List Int)) (n : Nat) (g : List Nat), vs = [.ref a, .ref t] ∧ TabAt H a rows ∧ FmOk rows n ∧ H t = some (.tup (ringV g)) ∧ 2 ≤ g.length ∧ g.length ≤ 4 ∧ (∀ x ∈ g, x < n) ∧ ∀ H', Same H H' → Q (.bl (ringB rows g)) H'
theorem ok_ringG {f : Addr} {fd : FuncData} {k : Nat} (F : Fun K "ring_bars" "ring_bars" s_ring_bars f fd) (T : Tx mg) : FnOk P w K mg base CX0 (k + 1) f fd ["table", "ring"] spRingG := by
  refine F.ok sc_ring_bars (fun vs H Q E h => ?_) (fun cdv A outer s H vs Q E hr h => ?_)
  · obtain ⟨a, t, rows, n, g, rfl, _⟩ := h
    rfl
  · obtain ⟨a, t, rows, n, g, rfl, hT, O, ht, g2, g4, hg, q⟩ := h
    refine ⟨_, (pss_cons (ps_set (i := 2) sc_ring_bars.nd rfl (.inl rfl) pe_int)
  (pss_cons (ps_set (i := 3) sc_ring_bars.nd rfl (.inl rfl) pe_int)
  (pss_cons (ps_for PassesOwn.never rfl (RZ.pi_zipA (by rfl) T.zip (pa_cons (pv 1) (pa_cons (pe_op (o_cat (K := K)) (pe_slice (l_tup (K := K)) (pv 1) (po_some pe_int) po_none) (pe_slice (l_tup (K := K)) (pv 1) po_none (po_some pe_int))) pa_nil))) (pg_tup rfl (pgs_cons (pg_name (i := 4) sc_ring_bars.nd rfl (.inl rfl)) (pgs_cons (pg_name (i := 5) sc_ring_bars.nd rfl (.inl rfl)) pgs_nil)))
    (pss_cons (ps_aug (i := 2) sc_ring_bars.nd rfl (.inl rfl) (pe_ix (i_tup (K := K)) (pe_ix (i_tup (K := K)) (pv 0) (pv 4) (fun _ _ => rfl)) (pv 5) (fun _ _ => rfl)) ip_mul)
    (pss_one (ps_aug (i := 3) sc_ring_bars.nd rfl (.inl rfl) (pe_ix (i_tup (K := K)) (pe_ix (i_tup (K := K)) (pv 0) (pv 5) (fun _ _ => rfl)) (pv 4) (fun _ _ => rfl)) ip_mul))))
  (pss_one (ps_ret (pe_cmpR op_ne (pe_callB call_abs (by rfl) T.abs (by decide +kernel) (pa_cons (pv 2) pa_nil)) (pe_callB call_abs (by rfl) T.abs (by decide +kernel) (pa_cons (pv 3) pa_nil)) (nomark _))))))), ?_⟩
    -- zip(ring, ring[1:] + ring[:1])
    refine ⟨.ref t, rfl, .ref t, rfl, 1, rfl, t, _, rfl, SqT.of ht, fun z => ?_, fun _ c ec => ?_⟩
    · have z1 := z.1
      rw [show HT.sIx (ringV g).length 0 (some 1) = min 1 (ringV g).length from HT.sIx_nat _ 0 1, ringV_len] at z1
      omega
    have s1 := same_upd (o := .tup (cutV (ringV g) (some 1) none)) ec
    refine ⟨.ref t, rfl, 1, rfl, t, _, rfl, SqT.of (s1 _ _ ht), fun z => ?_, fun _ e ee => ?_⟩
    · have z1 := z.2
      rw [show HT.sIx (ringV g).length (ringV g).length (some 1) = min 1 (ringV g).length from HT.sIx_nat _ _ 1, ringV_len] at z1
      omega
    have s2 := same_upd (o := .tup (cutV (ringV g) none (some 1))) ee
    have hc := s2 _ _ (upd_same (H := H) (a := c) (o := .tup (cutV (ringV g) (some 1) none)))
    have hlc : (cutV (ringV g) (some 1) none).length = g.length - 1 := by rw [cut_ring1 g2, ringV_len, List.length_drop]
    have hle : (cutV (ringV g) none (some 1)).length = 1 := by
      rw [cut_ring2 g2, ringV_len, List.length_take]
      omega
    refine ⟨c, e, _, _, rfl, rfl, SqT.of hc, SqT.of upd_same, ?_, fun z => ?_, fun _ z => ?_, fun _ _ p ep => ?_⟩
    · rw [hlc, hle]
      exact Nat.le_of_lt (small1000 (by omega))
    · rw [z] at hlc
      have : 0 = g.length - 1 := hlc
      omega
    · rw [z] at hle
      cases hle
    have s3 := same_upd (o := .tup (cutV (ringV g) (some 1) none ++ cutV (ringV g) none (some 1))) ep
    have hp : (upd (upd (upd H c (.tup (cutV (ringV g) (some 1) none))) e (.tup (cutV (ringV g) none (some 1)))) p (.tup (cutV (ringV g) (some 1) none ++ cutV (ringV g) none (some 1)))) p = some (.tup (ringV (rot g))) := by
      rw [upd_same, cut_ring1 g2, cut_ring2 g2]
      unfold rot ringV
      rw [List.map_append]
    have s13 := s1.trans (s2.trans s3)
    generalize (upd (upd (upd H c (.tup (cutV (ringV g) (some 1) none))) e (.tup (cutV (ringV g) none (some 1)))) p (.tup (cutV (ringV g) (some 1) none ++ cutV (ringV g) none (some 1)))) = H3 at hp s13
    have ht3 := s13 _ _ ht
    have hT3 := hT.same s13
    refine ⟨t, p, ringV g, ringV (rot g), rfl, .inr ⟨SqT.of ht3, SqT.of hp, RZ.for_zipT (by rw [ringV_len, ringV_len, rot_len]) (fun i σ H' => ∃ y4 y5 : Option V, σ = [some (.ref a), some (.ref t), some (.int (fl (fun z => ent rows z.1 z.2) ((g.zip (rot g)).take i))), some (.int (fl (fun z => ent rows z.2 z.1) ((g.zip (rot g)).take i))), y4, y5] ∧ Same H3 H') ⟨none, none, rfl, .refl _⟩ (fun i σ H' ⟨_, _, _, s⟩ => ⟨SqT.of (s _ _ ht3), SqT.of (s _ _ hp)⟩) ?_ ?_⟩⟩
    · rintro i vx vy Tt σ H4 hx hy ⟨y4, y5, rfl, s4⟩ nT
      obtain ⟨x, ex, rfl⟩ := ringV_at hx
      obtain ⟨y, ey, rfl⟩ := ringV_at hy
      have hxn := hg x (List.mem_of_getElem? ex)
      have hyn := hg y (rot_mem (List.mem_of_getElem? ey))
      have hl := O.len
      have hz : (g.zip (rot g))[i]? = some (x, y) := by
        rw [List.getElem?_zip_eq_some]
        exact ⟨ex, ey⟩
      have s5 := s4.trans (same_upd (o := .tup [.int x, .int y]) nT)
      have hT5 := hT3.same s5
      obtain ⟨as, bx, e1, e2, e3⟩ := hT5.row (show x < rows.length by omega)
      obtain ⟨as', by', e1', e2', e3'⟩ := hT5.row (show y < rows.length by omega)
      have bd1 := O.bd (show x < rows.length by omega) hyn
      have bd2 := O.bd (show y < rows.length by omega) hxn
      refine ⟨Tt, [.int x, .int y], rfl, SqT.of upd_same, rfl, .int x, [.int y], rfl, .int y, [], rfl, rfl, ?_⟩
      refine ⟨_, rfl, .ref a, rfl, .int x, rfl, a, _, x, .ref bx, rfl, rfl, SqT.of e1, atI_nat e2, .int y, rfl, bx, _, y, _, rfl, rfl, SqT.of e3, atI_nat (ent_get O.wide (by omega) hyn), _, _, rfl, rfl, .inr ⟨by omega, by omega⟩, ?_⟩
      refine ⟨_, rfl, .ref a, rfl, .int y, rfl, a, _, y, .ref by', rfl, rfl, SqT.of e1', atI_nat e2', .int x, rfl, by', _, x, _, rfl, rfl, SqT.of e3', atI_nat (ent_get O.wide (by omega) hxn), _, _, rfl, rfl, .inr ⟨by omega, by omega⟩, ?_⟩
      refine ⟨some (.int x), some (.int y), ?_, s5⟩
      rw [fl_take hz, fl_take hz]
      rfl
    · rintro σ H4 ⟨y4, y5, rfl, s4⟩
      have et : (g.zip (rot g)).take (ringV g).length = g.zip (rot g) := List.take_of_length_le (by rw [ringV_len, List.length_zip]; omega)
      rw [et]
      refine ⟨_, rfl, _, rfl, _, rfl, _, rfl, rfl, ?_⟩
      rw [abs_if, abs_if]
      have q := q _ (s13.trans s4)
      unfold ringB at q
      have ed : ∀ a b : Nat, (!decide (V.int (a : Int) = V.int (b : Int))) = (!decide (a = b)) := fun a b => by
        by_cases e : a = b
        · subst e
          rw [decide_eq_true rfl, decide_eq_true rfl]
        · rw [decide_eq_false e, decide_eq_false fun z => e (by have := V.int.inj z; omega)]
      rw [ed]
      exact q
theorem unlS_len {n : Nat} (h : n ≤ 4) (g : List Nat) : (unlS n g).length ≤ 4 := by
  unfold unlS
  rw [List.length_map]
  have := List.length_filter_le (fun x => !g.contains x) (List.range n)
  rw [List.length_range] at this
  omega
theorem flat_len {n : Nat} (h : n ≤ 4) : ∀ gs : List (List Nat), (gs.flatMap (unlS n)).length ≤ 4 * gs.length
  | [] => Nat.le_refl _
  | g :: gs => by
    have h1 := flat_len h gs
    have h2 := unlS_len h g
    rw [List.flatMap_cons, List.length_append, List.length_cons]
    omega
theorem unl_len4 {n : Nat} (h : n ≤ 4) : ∀ m, (unl n m).length ≤ 4 ^ m
  | 0 => Nat.le_refl _
  | m + 1 => by
    have h1 := unl_len4 h m
    have h2 := flat_len h (unl n m)
    rw [Nat.pow_succ]
    show ((unl n m).flatMap (unlS n)).length ≤ _
    omega
/-- what is made of g by the first x places -/
def unlP (g : List Nat) (x : Nat) : List (List Nat) := ((List.range x).filter fun x => !g.contains x).map fun x => g ++ [x]
theorem unlP_len (g : List Nat) (x : Nat) : (unlP g x).length ≤ x := by
  unfold unlP
  rw [List.length_map]
  have := List.length_filter_le (fun x => !g.contains x) (List.range x)
  rw [List.length_range] at this
  exact this
theorem unlP_yes {g : List Nat} {x : Nat} (h : g.contains x = false) : unlP g (x + 1) = unlP g x ++ [g ++ [x]] := by
  unfold unlP
  rw [List.range_succ, List.filter_append, List.map_append]
  congr 1
  rw [List.filter_cons, h]
  rfl
theorem unlP_no {g : List Nat} {x : Nat} (h : g.contains x = true) : unlP g (x + 1) = unlP g x := by
  unfold unlP
  rw [List.range_succ, List.filter_append, List.map_append]
  rw [List.filter_cons, h]
  exact List.append_nil _
def spUnlikeG : Sp := fun vs H Q _ => ∃ (n m : Nat), vs = [.int n, .int m] ∧ n ≤ 4 ∧ m ≤ 4 ∧ ∀ (p : Addr) (ts : List Addr) (H' : Hp), Same H H' → H' p = some (.lst (ts.map V.ref)) → RgAt H' ts (unl n m) → Q (.ref p) H'
theorem ok_unlikeG {f : Addr} {fd : FuncData} {k : Nat} (F : Fun K "unlike_rows" "unlike_rows" s_unlike_rows f fd) (T : Tx mg) : FnOk P w K mg base CX0 (k + 1) f fd ["many", "length"] spUnlikeG := by
  refine F.ok sc_unlike_rows (fun vs H Q E h => ?_) (fun cdv A outer s H vs Q E hr h => ?_)
  · obtain ⟨n, m, rfl, _⟩ := h
    rfl
  · obtain ⟨n, m, rfl, n4, m4, q⟩ := h
    refine ⟨_, (pss_cons (ps_set (i := 2) sc_unlike_rows.nd rfl (.inl rfl) (pe_lst (pa_cons (pe_tup pa_nil) pa_nil)))
      (pss_cons (ps_for PassesOwn.never rfl (pi_range1 (by rfl) T.range (pa_cons (pv 1) pa_nil)) (pg_name (i := 3) sc_unlike_rows.nd rfl (.inl rfl))
        (pss_one (ps_setLc2 (i := 2) (own := [("row", 4), ("number", 5)]) (vs1 := [5]) (by rfl) sc_unlike_rows.nd rfl rfl (sw_true rfl rfl rfl (by decide +kernel)) (p_list (K := K) (pv 2)) (blkOk_by (own := [("row", 4), ("number", 5)]) (N := n_unlike_rows) (sc := defScope s_unlike_rows) (by decide +kernel)) (by decide)
          (fun _ _ _ _ _ => (pg_name (i := 4) sc_unlike_rows.nd rfl (.inl rfl))) (fun _ _ _ _ _ => pts_nil) (fun _ _ _ _ _ => (pi_range1 (by rfl) T.range (pa_cons (pv 0) pa_nil))) (fun _ _ _ _ _ => (pg_name (i := 5) sc_unlike_rows.nd rfl (.inl rfl))) (fun _ _ _ _ _ => pts_one (pt_cmpR (o_notin (K := K)) (pv 5) (pv 4) (by rfl)))
          (fun _ _ _ _ _ => (pe_op (o_cat (K := K)) (pv 4) (pe_tup (pa_cons (pv 5) pa_nil)))))))
      (pss_one (ps_ret (pv 2))))), ?_⟩
    refine ⟨Nat.zero_le _, fun e he => ⟨by show 1 ≤ sizeLine; decide, fun R eR => ?_⟩⟩
    have s1 := same_upd (o := .tup []) he
    have s2 := same_upd (o := .lst [.ref e]) eR
    refine ⟨.int m, rfl, m, rfl, by omega, by omega, for_range (fun i σ H' => ∃ (y3 : Option V) (R : Addr) (ts : List Addr), σ = [some (.int n), some (.int m), some (.ref R), y3, none, none] ∧ Same H H' ∧ H' R = some (.lst (ts.map V.ref)) ∧ RgAt H' ts (unl n i))
      ⟨none, R, [e], rfl, s1.trans s2, upd_same, s2 _ _ upd_same, trivial⟩ ?_ ?_⟩
    · rintro i σ H1 hi ⟨y3, R, ts, rfl, sm, eR1, hts⟩
      have hi : i < m := hi
      have lts := hts.len
      have l4 := unl_len4 n4 i
      have l256 : ts.length ≤ 256 := Nat.le_trans (by omega) (pow4 (show i ≤ 4 by omega))
      refine ⟨.ref R, rfl, R, rfl, ⟨_, SqL.of eR1⟩, fun D eD => ?_⟩
      have nRD : R ≠ D := ne_of_none eR1 eD
      refine it_list (K := K) (a := R) (xs := ts.map V.ref) (fun j H' => ∃ us : List Addr, H' D = some (.lst (us.map V.ref)) ∧ RgAt H' us (((unl n i).take j).flatMap (unlS n)) ∧ ∀ b o, b ≠ D → H1 b = some o → H' b = some o)
        ⟨[], upd_same, trivial, fun b o n e => by rw [upd_ne n]; exact e⟩ (fun j H' _ ⟨us, _, _, k⟩ => SqL.of (k _ _ nRD eR1)) ?_ ?_
      · rintro j v H2 hv ⟨us, eD2, hus, k2⟩
        obtain ⟨t, ej, rfl⟩ := ref_at hv
        have hjl := (List.getElem?_eq_some_iff.mp ej).1
        obtain ⟨g, eg, hg⟩ := hts.at ej
        have lg := (unl_lt i g (List.mem_of_getElem? eg)).1
        have lj := flat_len n4 ((unl n i).take j)
        rw [List.length_take] at lj
        refine ⟨rfl, .int n, rfl, n, rfl, by omega, by omega, it_range (fun x H' => ∃ us : List Addr, H' D = some (.lst (us.map V.ref)) ∧ RgAt H' us (((unl n i).take j).flatMap (unlS n) ++ unlP g x) ∧ ∀ b o, b ≠ D → H1 b = some o → H' b = some o) ⟨us, eD2, by rw [show unlP g 0 = [] from rfl, List.append_nil]; exact hus, k2⟩ ?_ ?_⟩
        · rintro x H3 hx ⟨us, eD3, hus, k3⟩
          have hx : x < n := hx
          have e0 : (0 : Int) + (x : Int) = ((x : Nat) : Int) := by omega
          rw [e0]
          have ht3 := k3 _ _ (ne_of_none hg eD) hg
          have lu := hus.len
          have lp := unlP_len g x
          rw [List.length_append] at lu
          refine ⟨rfl, .int x, rfl, .ref t, rfl, t, _, rfl, .inr (SqT.of ht3), rfl, flat_ring g, _, rfl, ite2 (fun hin => ?_) (fun hin => ?_)⟩
          · have hin : (!inV (.int x) (ringV g)) = true := hin
            rw [inV_ring] at hin
            have hc : g.contains x = false := by
              cases h : g.contains x
              · rfl
              · rw [h] at hin
                cases hin
            refine ⟨.ref t, rfl, .int x, rfl, by show 1 ≤ sizeLine; decide, fun c ec => ?_⟩
            have sc := same_upd (o := .tup [.int x]) ec
            have done : ∀ (z : Addr) (H4 : Hp), Same H3 H4 → H4 z = some (.tup (ringV (g ++ [x]))) → ∃ acc, H4 D = some (.lst acc) ∧ acc.length < sizeLine ∧ ∃ us : List Addr, (upd H4 D (.lst (acc ++ [.ref z]))) D = some (.lst (us.map V.ref)) ∧ RgAt (upd H4 D (.lst (acc ++ [.ref z]))) us (((unl n i).take j).flatMap (unlS n) ++ unlP g (x + 1)) ∧ ∀ b o, b ≠ D → H1 b = some o → (upd H4 D (.lst (acc ++ [.ref z]))) b = some o := by
              intro z H4 s4 hz
              have eD4 := s4 _ _ eD3
              refine ⟨_, eD4, by rw [List.length_map]; exact Nat.lt_of_le_of_lt (show us.length ≤ 5000 by omega) (by decide), us ++ [z], by rw [upd_same, List.map_append]; rfl, ?_, fun b o nb e => by rw [upd_ne nb]; exact s4 _ _ (k3 _ _ nb e)⟩
              rw [unlP_yes hc, ← List.append_assoc]
              exact (RgAt.snoc hz (hus.same s4)).put eD4
            refine ⟨t, c, ringV g, [.int x], rfl, rfl, SqT.of (sc _ _ ht3), SqT.of upd_same, ?_, fun z => ?_, fun _ z => (by cases z), fun _ _ p ep => ?_⟩
            · unfold ringV
              rw [List.length_map]
              show g.length + 1 ≤ sizeLine
              exact Nat.le_of_lt (small1000 (by omega))
            · refine done c _ sc ?_
              rw [upd_same]
              unfold ringV at z ⊢
              rw [List.map_append, z]
              rfl
            · refine done p _ (sc.trans (same_upd ep)) ?_
              rw [upd_same]
              unfold ringV
              rw [List.map_append]
              rfl
          · have hin : ¬ (!inV (.int x) (ringV g)) = true := hin
            rw [inV_ring] at hin
            have hc : g.contains x = true := by
              cases h : g.contains x
              · rw [h] at hin
                exact absurd rfl hin
              · rfl
            refine ⟨us, eD3, ?_, k3⟩
            rw [unlP_no hc]
            exact hus
        · rintro H3 ⟨us, eD3, hus, k3⟩
          refine ⟨us, eD3, ?_, k3⟩
          rw [List.take_succ, eg, List.flatMap_append]
          show RgAt H3 us (_ ++ List.flatMap (unlS n) [g])
          rw [List.flatMap_cons, List.flatMap_nil, List.append_nil]
          exact hus
      · rintro H2 ⟨us, eD2, hus, k2⟩
        rw [List.length_map, lts, List.take_length] at hus
        exact ⟨_, D, us, rfl, fun b o e => k2 _ _ (ne_of_none (sm _ _ e) eD) (sm _ _ e), eD2, hus⟩
    · rintro σ H1 ⟨y3, R, ts, rfl, sm, eR1, hts⟩
      exact ⟨.ref R, rfl, q R ts _ sm eR1 hts⟩
end
end Bw
set_option Elab.async false
set_option linter.all false
set_option maxRecDepth 100000
set_option maxHeartbeats 4000000
namespace Bw
open PySem PySem.Spec PyProof.Rows L2
/-! ### errors with a field of their own -/
def fldFs (fld wd : Str) (x : V) : List (Str × V) := [(fld, x), ("word", .str wd)]
def spErrInit1 (K : PySem.W.Frag) (wd fld : Str) : Sp := fun vs H Q _ => ∃ (a C : Addr) (x : V), vs = [.ref a, x] ∧ OexC K C ∧ PySem.W.findIn K (.ref C) "word" = some none ∧ PySem.W.findIn K (.ref C) fld = some none ∧ H a = some (exo a C none) ∧
  ∀ (dx : Addr) (H' : Hp), H dx = none → dx ≠ a → H' a = some (exo a C (some dx)) → H' dx = some (exd dx (fldFs fld wd x)) → (∀ b, b ≠ a → b ≠ dx → H' b = H b) → Q .non H'
theorem ErrC.at1 {K : PySem.W.Frag} {mg : Str → Option Value} {x wd fld : Str} {C f CB d : Addr} {H : Hp} {v : V} (T : ErrC K mg x C f CB) (hn : (("word" : Str) == fld) = false) (h : H d = some (.xd (fldFs fld wd v))) : ErrAt K CB (.ref C) (some d) H (.str wd) := ⟨C, d, _, rfl, rfl, T.te, T.xf, T.nw, h, by
  unfold fldFs
  rw [List.lookup_cons, hn]
  rfl⟩
theorem mk_done1 {K : PySem.W.Frag} {mg : Str → Option Value} {y wd fld : Str} {C f CB : Addr} {H : Hp} {E : XK} {x : V} (T : ErrC K mg y C f CB) (nf : PySem.W.findIn K (.ref C) fld = some none) (q : ∀ (d : Addr) (H' : Hp), Same H H' → H' d = some (.xd (fldFs fld wd x)) → E (.ref C) (some d) H') :
    [x].length ≤ 1000 ∧ ∀ a, H a = none → spErrInit1 K wd fld (.ref a :: ([x] ++ [])) (upd H a (exo a C none)) (fun v H2 => v = .non ∧ ∃ (d : Addr) (fs : List (Str × V)), H2 a = some (exo a C (some d)) ∧ H2 d = some (exd d fs) ∧ H d = none ∧ E (.ref C) (some d) (upd (del H2 a) d (.xd fs))) (fun _ _ _ => False) := by
  refine ⟨by show 1 ≤ 1000; decide, fun a ea => ?_⟩
  refine ⟨a, C, x, rfl, T.oex, T.nw, nf, upd_same, fun dx H6 ed nd hx hd hk => ?_⟩
  have ed2 : H dx = none := by
    rw [upd_ne nd] at ed
    exact ed
  refine ⟨rfl, dx, _, hx, hd, ed2, q dx _ (fun c o e2 => ?_) upd_same⟩
  have n1 : c ≠ a := ne_of_none e2 ea
  have n2 : c ≠ dx := ne_of_none e2 ed2
  rw [upd_ne n2, del_ne n1, hk c n1 n2, upd_ne n1]
  exact e2
section
variable {P : Program} {w : World} {K : PySem.W.Frag} {mg : Str → Option Value} {base : Heap} {CT fT CB CU fU CX' fX : Addr}
abbrev s_uneven_init : Stmt := inClass (topS 3) 0
theorem sc_uneven_init : FnScope ["self", "ring"] ["self", "ring"] (defScope s_uneven_init) := ⟨rfl, rfl, rfl, by decide +kernel, rfl, by decide +kernel, by decide +kernel⟩
theorem ok_unevinit {f fB CB : Addr} {fd fdB : FuncData} {k : Nat} (F : Fun K "__init__" "Uneven.__init__" s_uneven_init f fd) (T : Tx mg) (TB : ClsFn K mg "BudError" "__init__" CB fB) (FB : FnOk P w K mg base CX0 k fB fdB ["self", "word"] (spBudInit K)) (bB : Binds K fdB ["self", "word"] []) : FnOk P w K mg base CX0 (k + 1) f fd ["self", "ring"] (spErrInit1 K "uneven" "ring") := by
  refine F.ok sc_uneven_init (fun vs H Q E h => ?_) (fun cdv A outer s H vs Q E hr h => ?_)
  · obtain ⟨a, C, x, rfl, _⟩ := h
    rfl
  · obtain ⟨a, C, x, rfl, O, nw, nm, ha, q⟩ := h
    refine ⟨_, pss_cons (ps_expr (pe_cfun TB FB hr (by rfl) bB pass0 (pa_cons (pv 0) (pa_cons pe_str pa_nil)))) (pss_one (ps_ost (pv 0) (pv 1))), ?_⟩
    refine ⟨.ref a, rfl, a, C, _, rfl, O, nw, ha, fun dx ed nd => ?_⟩
    refine ⟨x, rfl, .ref a, rfl, a, C, rfl, O, nm, .inr ⟨dx, [("word", .str "uneven")], upd_same, ?_, by show 1 ≤ 900; decide, ?_⟩⟩
    · rw [upd_ne nd, upd_same]
    · refine q dx _ ed nd ?_ upd_same fun b n1 n2 => ?_
      · rw [upd_ne (Ne.symm nd), upd_same]
      · rw [upd_ne n2, upd_ne n1, upd_ne n2]
abbrev s_text_init : Stmt := inClass (topS 4) 0
theorem sc_text_init : FnScope ["self", "at"] ["self", "at"] (defScope s_text_init) := ⟨rfl, rfl, rfl, by decide +kernel, rfl, by decide +kernel, by decide +kernel⟩
theorem ok_textinit {f fB CB : Addr} {fd fdB : FuncData} {k : Nat} (F : Fun K "__init__" "BadText.__init__" s_text_init f fd) (T : Tx mg) (TB : ClsFn K mg "BudError" "__init__" CB fB) (FB : FnOk P w K mg base CX0 k fB fdB ["self", "word"] (spBudInit K)) (bB : Binds K fdB ["self", "word"] []) : FnOk P w K mg base CX0 (k + 1) f fd ["self", "at"] (spErrInit1 K "bad text" "at") := by
  refine F.ok sc_text_init (fun vs H Q E h => ?_) (fun cdv A outer s H vs Q E hr h => ?_)
  · obtain ⟨a, C, x, rfl, _⟩ := h
    rfl
  · obtain ⟨a, C, x, rfl, O, nw, nm, ha, q⟩ := h
    refine ⟨_, pss_cons (ps_expr (pe_cfun TB FB hr (by rfl) bB pass0 (pa_cons (pv 0) (pa_cons pe_str pa_nil)))) (pss_one (ps_ost (pv 0) (pv 1))), ?_⟩
    refine ⟨.ref a, rfl, a, C, _, rfl, O, nw, ha, fun dx ed nd => ?_⟩
    refine ⟨x, rfl, .ref a, rfl, a, C, rfl, O, nm, .inr ⟨dx, [("word", .str "bad text")], upd_same, ?_, by show 1 ≤ 900; decide, ?_⟩⟩
    · rw [upd_ne nd, upd_same]
    · refine q dx _ ed nd ?_ upd_same fun b n1 n2 => ?_
      · rw [upd_ne (Ne.symm nd), upd_same]
      · rw [upd_ne n2, upd_ne n1, upd_ne n2]
/-! ### barred, exact -/
theorem evenB_pair {rows : List (List Int)} {n i j : Nat} (hi : i < n) (hj : j < n - i) (h : pairB rows i (i + j) = true) : evenB rows n = false := by
  cases e : evenB rows n with
  | false => rfl
  | true =>
    unfold evenB at e
    rw [Bool.and_eq_true] at e
    have := List.all_eq_true.mp (List.all_eq_true.mp e.1 i (List.mem_range.mpr hi)) j (List.mem_range.mpr hj)
    rw [h] at this
    cases this
theorem evenB_ring {rows : List (List Int)} {n : Nat} {g : List Nat} (hg : g ∈ unl n 3 ++ unl n 4) (h : ringB rows g = true) : evenB rows n = false := by
  cases e : evenB rows n with
  | false => rfl
  | true =>
    unfold evenB at e
    rw [Bool.and_eq_true] at e
    have := List.all_eq_true.mp e.2 g hg
    rw [h] at this
    cases this
theorem evenB_yes {rows : List (List Int)} {n : Nat} (h1 : ∀ i, i < n → ∀ j, j < n - i → pairB rows i (i + j) = false) (h2 : ∀ (i : Nat) (g : List Nat), (unl n 3 ++ unl n 4)[i]? = some g → ringB rows g = false) : evenB rows n = true := by
  unfold evenB
  rw [Bool.and_eq_true]
  refine ⟨List.all_eq_true.mpr fun i hi => List.all_eq_true.mpr fun j hj => ?_, List.all_eq_true.mpr fun g hg => ?_⟩
  · rw [h1 i (List.mem_range.mp hi) j (List.mem_range.mp hj)]
    rfl
  · obtain ⟨i, e⟩ := List.getElem?_of_mem hg
    rw [h2 i g e]
    rfl
/-- no word where it is a good even table; else the word that it is refused with -/
def evB (rows : List (List Int)) : Bool := evenB rows (rows.getD 0 []).length
def TbIn (H : Hp) (a : Addr) (rows : List (List Int)) : Prop := TabAt H a rows ∧ rows.length ≤ 901 ∧ ∀ r ∈ rows, r.length ≤ 901
def spBarG (CT : Addr) : Sp := fun vs H Q E => ∃ (a : Addr) (rows : List (List Int)), vs = [.ref a] ∧ TbIn H a rows ∧ (formOk rows = true → evB rows = true → ∀ H', Same H H' → Q .non H') ∧ (formOk rows = true → evB rows = false → ∀ p H', Same H H' → Q (.ref p) H') ∧
  (formOk rows = false → ∀ (d : Addr) (H' : Hp), Same H H' → H' d = some (.xd (wordFs "bad table")) → E (.ref CT) (some d) H')
theorem ok_barG {f : Addr} {fd : FuncData} (F : Fun K "barred" "barred" s_barred f fd) (T : Tx mg) (c_check_form : CalX P w K mg base 4 "check_form" ["table"] (spFormG CT)) (c_bud_count : Cal P w K mg base CX0 1 "bud_count" ["table"] spBuds)
    (c_pair_bars : Cal P w K mg base CX0 1 "pair_bars" ["table", "i", "j"] spPairG) (c_unlike_rows : Cal P w K mg base CX0 1 "unlike_rows" ["many", "length"] spUnlikeG) (c_ring_bars : Cal P w K mg base CX0 1 "ring_bars" ["table", "ring"] spRingG) : FnOk P w K mg base (L2.CX P w) 5 f fd ["table"] (spBarG CT) := by
  refine F.okX sc_barred (fun vs H Q E h => ?_) (fun cdv A outer s H vs Q E hr h => ?_)
  · obtain ⟨a, rows, rfl, _⟩ := h
    rfl
  · obtain ⟨a, rows, rfl, ⟨hT, lr, lrs⟩, q1, q2, q3⟩ := h
    have hr1 := hr.mono (show 1 ≤ 4 by decide)
    refine ⟨_, (pss_cons (ps_expr (pe_calX c_check_form hr (by rfl) (passE rfl rfl rfl rfl) (pa_cons (pv 0) pa_nil)))
  (pss_cons (ps_set (i := 1) sc_barred.nd rfl (.inl rfl) (pe_cal c_bud_count hr1 (by rfl) (pa_cons (pv 0) pa_nil)))
  (pss_cons (ps_for PassesOwn.leaving rfl (pi_range1 (by rfl) T.range (pa_cons (pv 1) pa_nil)) (pg_name (i := 2) sc_barred.nd rfl (.inl rfl))
    (pss_one (ps_for PassesOwn.leaving rfl (pi_range2 (by rfl) T.range (pa_cons (pv 2) (pa_cons (pv 1) pa_nil))) (pg_name (i := 3) sc_barred.nd rfl (.inl rfl))
      (pss_one (ps_if (pt_val (pe_cal c_pair_bars hr1 (by rfl) (pa_cons (pv 0) (pa_cons (pv 2) (pa_cons (pv 3) pa_nil)))))
        (pss_one (ps_ret (pe_tup (pa_cons (pv 2) (pa_cons (pv 3) pa_nil)))))
        pss_nil)))))
  (pss_cons (ps_for PassesOwn.leaving rfl (p_list (K := K) (pe_op op_cat (pe_cal c_unlike_rows hr1 (by rfl) (pa_cons (pv 1) (pa_cons pe_int pa_nil))) (pe_cal c_unlike_rows hr1 (by rfl) (pa_cons (pv 1) (pa_cons pe_int pa_nil))))) (pg_name (i := 4) sc_barred.nd rfl (.inl rfl))
    (pss_one (ps_if (pt_val (pe_cal c_ring_bars hr1 (by rfl) (pa_cons (pv 0) (pa_cons (pv 4) pa_nil))))
      (pss_one (ps_ret (pv 4)))
      pss_nil)))
  (pss_one (ps_ret pe_non)))))), ?_⟩
    refine ⟨.ref a, rfl, a, rows, rfl, hT, lr, lrs, fun fk H1 s1 => ?_, q3⟩
    have O := fmOk fk
    have q1 := q1 fk
    have q2 := q2 fk
    unfold evB at q1 q2
    generalize (rows.getD 0 []).length = n at O q1 q2
    have h1 := O.n1
    have h2 := O.n4
    have h3 := O.len
    refine ⟨.ref a, rfl, a, rows, n, rfl, hT.same s1, by omega, O.wide, ?_⟩
    refine ⟨.int n, rfl, n, rfl, by omega, by omega, for_range (fun i σ H' => ∃ y2 y3 : Option V, σ = [some (.ref a), some (.int n), y2, y3, none] ∧ Same H H' ∧ ∀ i', i' < i → ∀ j, j < n - i' → pairB rows i' (i' + j) = false) ⟨none, none, rfl, s1, fun i' z => by omega⟩ ?_ ?_⟩
    · rintro i σ H2 hi ⟨y2, y3, rfl, s2, hp⟩
      have hi : i < n := hi
      have e0 : (0 : Int) + (i : Int) = (i : Int) := by omega
      rw [e0]
      refine ⟨_, rfl, _, rfl, i, n, rfl, ⟨by omega, by omega, by omega, by omega⟩, for_range (fun j σ H' => ∃ y3 : Option V, σ = [some (.ref a), some (.int n), some (.int i), y3, none] ∧ Same H H' ∧ ∀ j', j' < j → pairB rows i (i + j') = false) ⟨y3, rfl, s2, fun j' z => by omega⟩ ?_ ?_⟩
      · rintro j σ H3 hj ⟨y3, rfl, s3, hpj⟩
        have hj : j < ((n : Int) - (i : Int)).toNat := hj
        have hJ : (i : Int) + (j : Int) = ((i + j : Nat) : Int) := by omega
        rw [hJ]
        refine ⟨_, rfl, _, rfl, _, rfl, a, rows, n, i, i + j, rfl, hT.same s3, O, hi, by omega, _, rfl, ite2 (fun e => ?_) (fun e => ⟨_, rfl, s3, fun j' hj' => ?_⟩)⟩
        · exact ⟨_, rfl, _, rfl, by show 2 ≤ sizeLine; decide, fun p ep => q2 (evenB_pair hi (by omega) e) p _ (s3.trans (same_upd ep))⟩
        · by_cases z : j' < j
          · exact hpj j' z
          · have : j' = j := by omega
            subst this
            cases h : pairB rows i (i + j') with
            | false => rfl
            | true => exact absurd h e
      · rintro σ H3 ⟨y3, rfl, s3, hpj⟩
        have hpj : ∀ j', j' < ((n : Int) - (i : Int)).toNat → pairB rows i (i + j') = false := hpj
        refine ⟨_, y3, rfl, s3, fun i' hi' j hj => ?_⟩
        by_cases z : i' < i
        · exact hp i' z j hj
        · have : i' = i := by omega
          subst this
          exact hpj j (by omega)
    · rintro σ H2 ⟨y2, y3, rfl, s2, hp⟩
      have hp : ∀ i', i' < n → ∀ j, j < n - i' → pairB rows i' (i' + j) = false := hp
      have lu := unl_len n h2
      refine ⟨.int n, rfl, n, 3, rfl, h2, by decide, fun p ts H3 s3 hp3 hts => ?_⟩
      refine ⟨.int n, rfl, n, 4, rfl, h2, by decide, fun p' ts' H4 s4 hp' hts' => ?_⟩
      have l3 := hts.len
      have l4 := hts'.len
      refine ⟨p, p', _, _, rfl, rfl, s4 _ _ hp3, hp', ?_, fun R eR => ?_⟩
      · rw [List.length_map, List.length_map]
        exact Nat.le_trans (show ts.length + ts'.length ≤ 1000 by omega) (by decide)
      have sR := same_upd (o := .lst (ts.map V.ref ++ ts'.map V.ref)) eR
      have hA : RgAt (upd H4 R (.lst (ts.map V.ref ++ ts'.map V.ref))) (ts ++ ts') (unl n 3 ++ unl n 4) := (RgAt.append hts' (hts.same s4)).same sR
      have eRR : (upd H4 R (.lst (ts.map V.ref ++ ts'.map V.ref))) R = some (.lst ((ts ++ ts').map V.ref)) := by
        rw [upd_same, List.map_append]
      have sAll := s2.trans (s3.trans (s4.trans sR))
      generalize (upd H4 R (.lst (ts.map V.ref ++ ts'.map V.ref))) = H5 at hA eRR sAll
      have lA := hA.len
      refine ⟨R, rfl, ⟨_, SqL.of eRR⟩, for_list (K := K) (a := R) (xs := (ts ++ ts').map V.ref) (fun i σ H' => ∃ y4 : Option V, σ = [some (.ref a), some (.int n), y2, y3, y4] ∧ Same H5 H' ∧ ∀ (i' : Nat) (g : List Nat), i' < i → (unl n 3 ++ unl n 4)[i']? = some g → ringB rows g = false) ⟨none, rfl, .refl _, fun i' g z => by omega⟩ (fun i σ H' _ ⟨_, _, s, _⟩ => SqL.of (s _ _ eRR)) ?_ ?_⟩
      · rintro i v σ H6 hv ⟨y4, rfl, s6, hg0⟩
        obtain ⟨t, et, rfl⟩ := ref_at hv
        obtain ⟨g, eg, hg⟩ := hA.at et
        have hm := List.mem_of_getElem? eg
        have lg : (g.length = 3 ∨ g.length = 4) ∧ ∀ x ∈ g, x < n := by
          rcases List.mem_append.mp hm with h | h
          · exact ⟨.inl (unl_lt _ _ h).1, (unl_lt _ _ h).2⟩
          · exact ⟨.inr (unl_lt _ _ h).1, (unl_lt _ _ h).2⟩
        refine ⟨_, rfl, _, rfl, a, t, rows, n, g, rfl, hT.same (sAll.trans s6), O, s6 _ _ hg, by omega, by omega, lg.2, fun H7 s7 => ⟨_, rfl, ite2 (fun e => ?_) (fun e => ⟨_, rfl, s6.trans s7, fun i' g' hi' eg' => ?_⟩)⟩⟩
        · exact ⟨_, rfl, q2 (evenB_ring hm e) t _ (sAll.trans (s6.trans s7))⟩
        · by_cases z : i' < i
          · exact hg0 i' g' z eg'
          · have : i' = i := by omega
            subst this
            have eq := Option.some.inj (eg'.symm.trans eg)
            subst eq
            cases h : ringB rows g' with
            | false => rfl
            | true => exact absurd h e
      · rintro σ H6 ⟨y4, rfl, s6, hg0⟩
        refine q1 (evenB_yes hp fun i g e => hg0 i g ?_ e) _ (sAll.trans s6)
        rw [List.length_map, lA]
        exact (List.getElem?_eq_some_iff.mp e).1
/-- the table is judged -/
def spChkG (K : PySem.W.Frag) (CB : Addr) : Sp := fun vs H Q E => ∃ (a : Addr) (rows : List (List Int)), vs = [.ref a] ∧ TbIn H a rows ∧ (formOk rows = true → evB rows = true → ∀ H', Same H H' → Q .non H') ∧
  (formOk rows = false → ∀ cls d H', Same H H' → ErrAt K CB cls d H' (.str "bad table") → E cls d H') ∧ (formOk rows = true → evB rows = false → ∀ cls d H', Same H H' → ErrAt K CB cls d H' (.str "uneven") → E cls d H')
theorem ok_chkG {f : Addr} {fd fdU : FuncData} (F : Fun K "check_table" "check_table" s_check_table f fd) (T : Tx mg) (TT : ErrC K mg "BadTable" CT fT CB) (TU : ErrC K mg "Uneven" CU fU CB) (nU : PySem.W.findIn K (.ref CU) "ring" = some none) (FU : FnOk P w K mg base CX0 2 fU fdU ["self", "ring"] (spErrInit1 K "uneven" "ring")) (bU : Binds K fdU ["self", "ring"] []) (c_barred : CalX P w K mg base 5 "barred" ["table"] (spBarG CT)) : FnOk P w K mg base (L2.CX P w) 6 f fd ["table"] (spChkG K CB) := by
  refine F.okX sc_check_table (fun vs H Q E h => ?_) (fun cdv A outer s H vs Q E hr h => ?_)
  · obtain ⟨a, rows, rfl, _⟩ := h
    rfl
  · obtain ⟨a, rows, rfl, hI, q1, q2, q3⟩ := h
    have hr3 := hr.mono (show 3 ≤ 5 by decide)
    refine ⟨_, (pss_cons (ps_set (i := 1) sc_check_table.nd rfl (.inl rfl) (pe_calX c_barred hr (by rfl) (passE rfl rfl rfl rfl) (pa_cons (pv 0) pa_nil)))
  (pss_one (ps_if (pt_cmpR op_notN (pv 1) pe_non (nomark _))
    (pss_one (ps_raise rfl (takes_of rfl rfl rfl rfl) (pmk_oex TU.oex TU.iC TU.tI FU hr3 bU .nil pass0 (by rfl) TU.g (pa_cons (pv 1) pa_nil))))
    pss_nil))), ?_⟩
    refine ⟨.ref a, rfl, a, rows, rfl, hI, fun f1 f2 H1 s1 => ⟨.non, rfl, rfl, _, rfl, iteF (q1 f1 f2 H1 s1)⟩, fun f1 f2 p H1 s1 => ?_, fun f1 d H1 s1 hd => q2 f1 _ _ H1 s1 (TT.at hd)⟩
    refine ⟨.ref p, rfl, rfl, _, rfl, iteT ⟨.ref p, rfl, mk_done1 TU nU fun d H2 s2 hd => q3 f1 f2 _ _ H2 (s1.trans s2) (TU.at1 (by decide) hd)⟩⟩
abbrev s_table_text : Stmt := topS 31
abbrev n_table_text : List Str := ["table"]
theorem sc_table_text : FnScope n_table_text ["table"] (defScope s_table_text) := ⟨rfl, rfl, rfl, by decide +kernel, rfl, by decide +kernel, by decide +kernel⟩
def spTabText : Sp := fun vs H Q E => ∃ (a : Addr) (rows : List (List Int)), vs = [.ref a] ∧ TbIn H a rows ∧ formOk rows = true ∧ evB rows = true ∧ ∀ H', Same H H' → Q (.str (rowsT rows)) H'
theorem ok_tabtext {f : Addr} {fd : FuncData} (F : Fun K "table_text" "table_text" s_table_text f fd) (T : Tx mg) (c_check_table : CalX P w K mg base 6 "check_table" ["table"] (spChkG K CB)) (c_rows_text : Cal P w K mg base CX0 2 "rows_text" ["rows"] spRowsText) : FnOk P w K mg base (L2.CX P w) 7 f fd ["table"] spTabText := by
  refine F.okX sc_table_text (fun vs H Q E h => ?_) (fun cdv A outer s H vs Q E hr h => ?_)
  · obtain ⟨a, rows, rfl, _⟩ := h
    rfl
  · obtain ⟨a, rows, rfl, hI, f1, f2, q⟩ := h
    have hr2 := hr.mono (show 2 ≤ 6 by decide)
    refine ⟨_, (pss_cons (ps_expr (pe_calX c_check_table hr (by rfl) (passE rfl rfl rfl rfl) (pa_cons (pv 0) pa_nil)))
      (pss_one (ps_ret (pe_cal c_rows_text hr2 (by rfl) (pa_cons (pv 0) pa_nil))))), ?_⟩
    have O := fmOk f1
    have h1 := O.n4
    have h2 := O.len4
    refine ⟨.ref a, rfl, a, rows, rfl, hI, fun _ _ H1 s1 => ?_, fun z => absurd f1 (by rw [z]; decide), fun _ z => absurd f2 (by rw [z]; decide)⟩
    refine ⟨.ref a, rfl, a, rows, rfl, hI.1.same s1, ⟨by omega, fun r hr => ⟨by have := O.wide r hr; omega, fun z hz => ?_⟩⟩, fun H2 s2 => q _ (s1.trans s2)⟩
    have := O.tie r hr z hz
    have e : (2 : Nat) ^ 20 = 1048576 := by decide
    rw [e]
    omega
abbrev s_read_table : Stmt := topS 32
abbrev n_read_table : List Str := ["text", "table"]
theorem sc_read_table : FnScope n_read_table ["text"] (defScope s_read_table) := ⟨rfl, rfl, rfl, by decide +kernel, rfl, by decide +kernel, by decide +kernel⟩
def spReadTab (K : PySem.W.Frag) (CB CX' : Addr) : Sp := fun vs H Q E => ∃ x : Str, vs = [.str x] ∧ x.length ≤ 900 ∧
  (readT x = none → ∀ d H', Same H H' → H' d = some (.xd (fldFs "at" "bad text" (.int 0))) → E (.ref CX') (some d) H') ∧
  ∀ rows, readT x = some rows → (formOk rows = true → evB rows = true → ∀ a H', Same H H' → TbIn H' a rows → Q (.ref a) H') ∧
    (formOk rows = false → ∀ cls d H', Same H H' → ErrAt K CB cls d H' (.str "bad table") → E cls d H') ∧ (formOk rows = true → evB rows = false → ∀ cls d H', Same H H' → ErrAt K CB cls d H' (.str "uneven") → E cls d H')
theorem split_cnt {x sep : Str} (h1 : 1 ≤ sep.length) : (Txt.split x sep).length ≤ x.length + 1 ∧ ∀ t ∈ Txt.split x sep, t.length ≤ x.length := by
  have e : Str.join sep (Txt.split x sep) = x := StrLaws.join_split x sep
  refine ⟨?_, fun t ht => ?_⟩
  · have := join_count sep h1 (Txt.split x sep)
    rw [e] at this
    exact this
  · have := join_piece sep (Txt.split x sep) t ht
    rw [e] at this
    exact this
theorem readT_len {x : Str} {rows : List (List Int)} (lx : x.length ≤ 900) (h : readT x = some rows) : rows.length ≤ 901 ∧ ∀ r ∈ rows, r.length ≤ 901 := by
  have h := mapM_some h
  have c := split_cnt (x := x) (sep := ";") (by decide)
  have l := congrArg List.length h
  rw [List.length_map, List.length_map] at l
  refine ⟨by omega, fun r hr => ?_⟩
  obtain ⟨p, hp, e⟩ := map_mem h hr
  have l1 := c.2 p hp
  have h' := mapM_some e
  have c' := split_cnt (x := p) (sep := ",") (by decide)
  have l' := congrArg List.length h'
  rw [List.length_map, List.length_map] at l'
  omega
theorem ok_readtab {f : Addr} {fd fdX : FuncData} (F : Fun K "read_table" "read_table" s_read_table f fd) (T : Tx mg) (TX : ErrC K mg "BadText" CX' fX CB) (nX : PySem.W.findIn K (.ref CX') "at" = some none) (FX : FnOk P w K mg base CX0 2 fX fdX ["self", "at"] (spErrInit1 K "bad text" "at")) (bX : Binds K fdX ["self", "at"] [])
    (c_check_table : CalX P w K mg base 6 "check_table" ["table"] (spChkG K CB)) (c_read_rows : Cal P w K mg base CX0 4 "read_rows" ["text"] spReadRows) : FnOk P w K mg base (L2.CX P w) 7 f fd ["text"] (spReadTab K CB CX') := by
  refine F.okX sc_read_table (fun vs H Q E h => ?_) (fun cdv A outer s H vs Q E hr h => ?_)
  · obtain ⟨x, rfl, _⟩ := h
    rfl
  · obtain ⟨x, rfl, lx, q0, q1⟩ := h
    have hr4 := hr.mono (show 4 ≤ 6 by decide)
    have hr3 := hr.mono (show 3 ≤ 6 by decide)
    refine ⟨_, (pss_cons (ps_set (i := 1) sc_read_table.nd rfl (.inl rfl) (pe_cal c_read_rows hr4 (by rfl) (pa_cons (pv 0) pa_nil)))
      (pss_cons (ps_if (pt_cmpR op_isN (pv 1) pe_non (nomark _))
        (pss_one (ps_raise rfl (takes_of rfl rfl rfl rfl) (pmk_oex TX.oex TX.iC TX.tI FX hr3 bX .nil pass0 (by rfl) TX.g (pa_cons pe_int pa_nil))))
        pss_nil)
      (pss_cons (ps_expr (pe_calX c_check_table hr (by rfl) (passE rfl rfl rfl rfl) (pa_cons (pv 1) pa_nil)))
      (pss_one (ps_ret (pv 1)))))), ?_⟩
    refine ⟨_, rfl, x, rfl, lx, fun h0 H1 s1 => ?_, fun rows p H1 h1 s1 hT => ?_⟩
    · exact ⟨.non, rfl, rfl, _, rfl, iteT (mk_done1 TX nX fun d H2 s2 hd => q0 h0 d H2 (s1.trans s2) hd)⟩
    · have hl := readT_len lx h1
      have hI : TbIn H1 p rows := ⟨hT, hl.1, hl.2⟩
      obtain ⟨a1, a2, a3⟩ := q1 rows h1
      exact ⟨.ref p, rfl, rfl, _, rfl, iteF ⟨.ref p, rfl, p, rows, rfl, hI, fun f1 f2 H2 s2 => ⟨.ref p, rfl, a1 f1 f2 p H2 (s1.trans s2) ⟨hT.same s2, hl.1, hl.2⟩⟩, fun f1 cls d H2 s2 he => a2 f1 cls d H2 (s1.trans s2) he, fun f1 f2 cls d H2 s2 he => a3 f1 f2 cls d H2 (s1.trans s2) he⟩⟩
end
end Bw
set_option Elab.async false
set_option linter.all false
set_option maxRecDepth 100000
set_option maxHeartbeats 0
namespace Bw
open PySem PySem.Spec PyProof.Rows L2 LamX
/-! ### _law_word(lambda: ..) -/
theorem pe_word {X : Cx} {st : Stmt} {g CB c P : Addr} {fd : FuncData} {k : Nat} {params : Arguments} {body : Expr} {scope : Scope} {t : XK → TE} {p lpos pos : Pos}
    (F : Fun X.K "_law_word" "_law_word" st g fd) (gg : X.mg "_law_word" = some (.ref g)) (bb : L2.Binds X.K fd ["_law_asked"] []) (Sg : FnScope ["_law_asked", "e"] ["_law_asked"] (defScope st)) (hva : Vis (defScope st) "_law_asked") (hG : ∀ cdv, GivesTo X ["_law_asked", "e"] "_law_word" (defScope st) g cdv (defBody st) "_law_asked" (X.env.qual ++ "<lambda>") (TWord X.K CB))
    (TB : TabB X.base X.mg c P) (hcode : X.env.code = .ref c) (hr : Room (k + 2) X.A) (hg : Gl X "_law_word") (L : LamS X.env.scope scope)
    (hbody : ∀ (A : Around) (outer : List Env) (s : Shared) (H : Hp) (E : XK) (f c' : Addr), Room k (A.deeper (lamEnv X scope s.heap.objs.size f c')) → PE (lamCx X A outer s H E scope f c') body (t E)) (hdef : defaultsOf params X.env = ([], []))
    (hbind : ∀ (q : Str) (cl : List (Str × Addr)) (pm cv ctv : Value), bindArgs (PySem.W.kla_fn "<lambda>" q params body scope cl pm cv ctv) ⟨[], []⟩ = pure []) :
    PE X (.Call (.Name "_law_word" p) [.Lambda params body scope lpos] [] pos) (tLam [(P, X.env.qual ++ "<lambda>")] (TWord X.K CB) t) := by
  obtain ⟨oc, od, kV, doc, pm, an, cdv, ct, osl, rfl, lk, hcd⟩ := F.ex
  exact pe_lamcall hg gg F.kp lk hcd bb Sg rfl hva (hG cdv) TB hcode (List.mem_singleton.mpr rfl) (fun p hp _ => by rw [List.mem_singleton.mp hp]) hr L hdef hbind hbody
abbrev s_law_word : Stmt := topS 38
theorem sc_law_word : FnScope ["_law_asked", "e"] ["_law_asked"] (defScope s_law_word) := ⟨rfl, rfl, rfl, by decide +kernel, rfl, by decide +kernel, by decide +kernel⟩
structure WordB (K : PySem.W.Frag) (mg : Str → Option Value) (base : Heap) (g CB c P : Addr) (fd : FuncData) : Prop where
  F : Fun K "_law_word" "_law_word" s_law_word g fd
  gg : mg "_law_word" = some (.ref g)
  bb : L2.Binds K fd ["_law_asked"] []
  gB : mg "BudError" = some (.ref CB)
  TB : TabB base mg c P
def qLam : Str := (("law" : Str) ++ (".<locals>." : Str)) ++ ("<lambda>" : Str)
theorem pe_wd {X : Cx} {g CB c P : Addr} {fd : FuncData} {k : Nat} {params : Arguments} {body : Expr} {scope : Scope} {t : XK → TE} {p lpos pos : Pos} (W : WordB X.K X.mg X.base g CB c P fd) (hcode : X.env.code = .ref c) (hr : Room (k + 2) X.A) (hg : Gl X "_law_word") (L : LamS X.env.scope scope)
    (hbody : ∀ (A : Around) (outer : List Env) (s : Shared) (H : Hp) (E : XK) (f c' : Addr), Room k (A.deeper (lamEnv X scope s.heap.objs.size f c')) → PE (lamCx X A outer s H E scope f c') body (t E)) (hq : X.env.qual ++ "<lambda>" = qLam := by rfl) (hdef : defaultsOf params X.env = ([], []) := by rfl)
    (hbind : ∀ (q : Str) (cl : List (Str × Addr)) (pm cv ctv : Value), bindArgs (PySem.W.kla_fn "<lambda>" q params body scope cl pm cv ctv) ⟨[], []⟩ = pure [] := by intros; rfl) :
    PE X (.Call (.Name "_law_word" p) [.Lambda params body scope lpos] [] pos) (tLam [(P, qLam)] (TWord X.K CB) t) := by
  rw [← hq]
  exact pe_word W.F W.gg W.bb sc_law_word (.inl rfl) (fun cdv => word_gives rfl W.gB (by decide) rfl rfl (fun f => rfl)) W.TB hcode hr hg L hbody hdef hbind

/-- two tables alike are the same by the law's own looking -/
theorem al_tab {H : Hp} {a b : Addr} {rows : List (List Int)} (ha : TabAt H a rows) (hb : TabAt H b rows) (hz : rows.length ≤ 1000) (hw : ∀ r ∈ rows, r.length ≤ 1000) : Al 3 H (.ref a) (.ref b) := by
  obtain ⟨as, a1, a2, a3⟩ := ha
  obtain ⟨bs, b1, b2, b3⟩ := hb
  refine .inr (.inl ⟨a, b, _, _, rfl, rfl, a1, b1, by rw [List.length_map, List.length_map, a2, b2], by rw [List.length_map, a2]; exact hz, fun j u v hu hv => ?_⟩)
  have hj : j < rows.length := by
    have := (List.getElem?_eq_some_iff.mp hu).1
    rw [List.length_map, a2] at this
    exact this
  obtain ⟨x, x1, x2⟩ := a3 j _ (List.getElem?_eq_getElem hj)
  obtain ⟨y, y1, y2⟩ := b3 j _ (List.getElem?_eq_getElem hj)
  rw [List.getElem?_map, x1] at hu
  rw [List.getElem?_map, y1] at hv
  cases hu
  cases hv
  refine .inr (.inl ⟨x, y, _, _, rfl, rfl, x2, y2, rfl, by rw [List.length_map]; exact hw _ (List.getElem_mem hj), fun k u v hu hv => ?_⟩)
  obtain ⟨t, _, rfl⟩ := int_at hu
  rw [hu] at hv
  cases hv
  exact .inl ⟨rfl, .inl ⟨t, rfl⟩⟩

theorem Al.up : ∀ {n : Nat} {H : Hp} {x y : V}, Al n H x y → Al (n + 1) H x y
  | 0, _, _, _, h => h.elim
  | n + 1, H, x, y, h => by
    rcases h with h | ⟨a, b, xs, ys, h1, h2, h3, h4, h5, h6, h7⟩ | ⟨a, b, xs, ys, h1, h2, h3, h4, h5, h6, h7⟩
    · exact .inl h
    · exact .inr (.inl ⟨a, b, xs, ys, h1, h2, h3, h4, h5, h6, fun j u v e1 e2 => (h7 j u v e1 e2).up⟩)
    · exact .inr (.inr ⟨a, b, xs, ys, h1, h2, h3, h4, h5, h6, fun j u v e1 e2 => (h7 j u v e1 e2).up⟩)
theorem FeedAt.neO {H : Hp} {f l b : Addr} {o : HO} (h : FeedAt H f l) (e : H b = some o) (n : ∀ xs, o ≠ .lst xs) : b ≠ f := by
  obtain ⟨_, _, _, _, _, _, b', _⟩ := h
  intro z
  subst z
  rw [e] at b'
  exact n _ (Option.some.inj b')
theorem FeedAt.ext {H H' : Hp} {f l : Addr} (s : ExtN H H') (h : FeedAt H f l) : FeedAt H' f l := by
  obtain ⟨ns, i, n, m, c, a, b, d, r⟩ := h
  exact ⟨ns, i, n, m, c, a, s _ _ b (fun ps z => by cases z), s _ _ d (fun ps z => by cases z), r⟩
/-- the word that a text is refused with, or none -/
def verd (x : Str) : Str := match readT x with
  | none => "bad text"
  | some rows => if formOk rows then if evB rows then "" else "uneven" else "bad table"
theorem verd_none {x : Str} (h : readT x = none) : verd x = "bad text" := by
  unfold verd
  rw [h]
theorem verd_form {x : Str} {rows : List (List Int)} (h : readT x = some rows) (f : formOk rows = false) : verd x = "bad table" := by
  unfold verd
  rw [h]
  show (if formOk rows = true then _ else _) = _
  rw [f]
  rfl
theorem verd_even {x : Str} {rows : List (List Int)} (h : readT x = some rows) (f : formOk rows = true) (e : evB rows = false) : verd x = "uneven" := by
  unfold verd
  rw [h]
  show (if formOk rows = true then (if evB rows = true then _ else _) else _) = _
  rw [f, e]
  rfl
theorem verd_good {x : Str} {rows : List (List Int)} (h : readT x = some rows) (f : formOk rows = true) (e : evB rows = true) : verd x = "" := by
  unfold verd
  rw [h]
  show (if formOk rows = true then (if evB rows = true then _ else _) else _) = _
  rw [f, e]
  rfl
theorem verd_in (x : Str) : verd x = "" ∨ verd x = "bad text" ∨ verd x = "bad table" ∨ verd x = "uneven" := by
  cases h : readT x with
  | none => exact .inr (.inl (verd_none h))
  | some rows =>
    cases f : formOk rows with
    | false => exact .inr (.inr (.inl (verd_form h f)))
    | true =>
      cases e : evB rows with
      | false => exact .inr (.inr (.inr (verd_even h f e)))
      | true => exact .inl (verd_good h f e)
def odds : List (Str × Str) := [("", "bad text"), ("0;", "bad text"), ("0,", "bad text"), ("00", "bad text"), ("-0", "bad text"), ("+0", "bad text"), ("0, 1;-1,0", "bad text"), ("1000000", "bad text"), ("0;0;0;0;0;0", "bad table"), ("0,1", "bad table"), ("51", "bad table"), ("999999", "bad table"), ("1", "uneven"), ("0,1;1,0", "uneven"), ("0,1;0,0", "uneven"), ("0,1,0;-1,0", "bad table"), ("0,1,1;-1,0,1;-2,-1,0", "uneven")]
theorem odds_ok : odds.all (fun p => decide (verd p.1 = p.2) && decide (verd p.1 ≠ "") && decide (p.1.length ≤ 900)) = true := by decide +kernel
theorem odd_x : readT "0;x" = none := by decide +kernel
theorem one_ok : readT "0" = some [[0]] ∧ formOk [[0]] = true ∧ evB [[0]] = true := by decide +kernel
/-- pairs of texts -/
def PrAt (H : Hp) (ts : List Addr) (ps : List (Str × Str)) : Prop := ts.length = ps.length ∧ ∀ (i : Nat) (t : Addr) (p : Str × Str), ts[i]? = some t → ps[i]? = some p → H t = some (.tup [.str p.1, .str p.2])
theorem PrAt.same {H H' : Hp} {ts : List Addr} {ps : List (Str × Str)} (s : Same H H') (h : PrAt H ts ps) : PrAt H' ts ps := ⟨h.1, fun i t p a b => s _ _ (h.2 i t p a b)⟩
theorem PrAt.ext {H H' : Hp} {ts : List Addr} {ps : List (Str × Str)} (s : ExtN H H') (h : PrAt H ts ps) : PrAt H' ts ps := ⟨h.1, fun i t p a b => s _ _ (h.2 i t p a b) (fun ps z => by cases z)⟩
theorem PrAt.nil {H : Hp} : PrAt H [] [] := ⟨rfl, fun i t p a _ => by simp at a⟩
theorem PrAt.append {H : Hp} {ts us : List Addr} {ps qs : List (Str × Str)} (h : PrAt H ts ps) (k : PrAt H us qs) : PrAt H (ts ++ us) (ps ++ qs) := by
  refine ⟨by rw [List.length_append, List.length_append, h.1, k.1], fun i t p a b => ?_⟩
  rw [List.getElem?_append] at a b
  by_cases hi : i < ts.length
  · rw [if_pos hi] at a
    rw [if_pos (by rw [← h.1]; exact hi)] at b
    exact h.2 i t p a b
  · rw [if_neg hi] at a
    rw [if_neg (by rw [← h.1]; exact hi), ← h.1] at b
    exact k.2 _ t p a b
theorem PrAt.one {H : Hp} {t : Addr} {x y : Str} (h : H t = some (.tup [.str x, .str y])) : PrAt H [t] [(x, y)] := ⟨rfl, fun i t' p a b => by
  cases i with
  | zero =>
    cases (Option.some.inj a)
    cases (Option.some.inj b)
    exact h
  | succ i => simp at a⟩
theorem PrAt.snoc {H : Hp} {ts : List Addr} {ps : List (Str × Str)} {t : Addr} {x y : Str} (h : PrAt H ts ps) (n : H t = none) : PrAt (upd H t (.tup [.str x, .str y])) (ts ++ [t]) (ps ++ [(x, y)]) := (h.same (same_upd n)).append (PrAt.one upd_same)
/-! ### a display of pairs of texts -/
theorem pe_wk {X : Cx} {e : Expr} {t t' : TE} (h : PE X e t) (hw : ∀ σ H Q, t' σ H Q → t σ H Q) : PE X e t' := ⟨fun pins s σ H Q I q => h.run pins s σ H Q I (hw σ H Q q)⟩
def taPairs : List (Str × Str) → TA
  | [] => tNil
  | p :: ps => tCons (tTup (tCons (tC (.str p.1)) (tCons (tC (.str p.2)) tNil))) (taPairs ps)
theorem taPairs_of {σ : L2.St} : ∀ (ps : List (Str × Str)) (H : Hp) (Q : List V → Hp → Prop), (∀ (ts : List Addr) (H' : Hp), Same H H' → PrAt H' ts ps → Q (ts.map V.ref) H') → taPairs ps σ H Q
  | [], H, Q, q => q [] H (.refl _) .nil
  | p :: ps, H, Q, q => ⟨by show 2 ≤ sizeLine; decide, fun t e => taPairs_of ps _ _ fun ts H' s h => q (t :: ts) H' ((same_upd e).trans s) ((PrAt.one (s _ _ upd_same)).append h)⟩
def tPairs (ps : List (Str × Str)) : TE := fun σ H Q => ∀ (R : Addr) (ts : List Addr) (H' : Hp), Same H H' → H' R = some (.lst (ts.map V.ref)) → PrAt H' ts ps → Q (.ref R) H'
theorem tPairs_of {ps : List (Str × Str)} (h : ps.length ≤ 1000) : ∀ σ H Q, tPairs ps σ H Q → tLst (taPairs ps) σ H Q := fun σ H Q q => taPairs_of ps H _ fun ts H' s hp => ⟨by
  rw [List.length_map, hp.1]
  exact Nat.le_trans h (by decide), fun R e => q R ts _ (s.trans (same_upd e)) upd_same (hp.same (same_upd e))⟩
theorem Tabs.put {T : List (Addr × Str)} {H : Hp} {L : Addr} {xs : List V} {o : HO} (e : H L = some (.lst xs)) (h : Tabs T H) : Tabs T (upd H L o) := by
  intro p hp
  obtain ⟨ps, h1, h2, h3⟩ := h p hp
  refine ⟨ps, ?_, h2, fun pos cv hc => ?_⟩
  · rw [upd_ne (ne_of h1 e (by intro z; cases z))]
    exact h1
  · obtain ⟨c, e1, e2⟩ := h3 pos cv hc
    refine ⟨c, e1, ?_⟩
    rw [upd_ne (ne_of e2 e (by intro z; cases z))]
    exact e2
theorem Tabs.but {T : List (Addr × Str)} {H H' : Hp} {f l : Addr} (s : SameBut f H H') (hf : FeedAt H f l) (h : Tabs T H) : Tabs T H' := by
  intro p hp
  obtain ⟨ps, h1, h2, h3⟩ := h p hp
  refine ⟨ps, s _ _ (hf.neO h1 (fun xs z => by cases z)) h1, h2, fun pos cv hc => ?_⟩
  obtain ⟨c, e1, e2⟩ := h3 pos cv hc
  exact ⟨c, e1, s _ _ (hf.neO e2 (fun xs z => by cases z)) e2⟩
theorem tabT_len {rows : List (List Int)} {n : Nat} (O : FmOk rows n) : (rowsT rows).length ≤ 712 := by
  have h1 : ∀ r ∈ rows, (rowT r).length ≤ 88 := fun r hr => by
    have w := O.wide r hr
    have n4 := O.n4
    have j := joinS_len "," (r.map numT)
    have s : ((r.map numT).map (·.length)).sum ≤ (r.map numT).length * 21 := sum_le fun y hy => by
      obtain ⟨z, hz, rfl⟩ := List.mem_map.mp hy
      have := O.tie r hr z hz
      have e : (2 : Nat) ^ 20 = 1048576 := by decide
      exact numT_len (by rw [e]; omega)
    have h3 : (("," : Str)).length = 1 := by decide
    rw [List.length_map] at j s
    rw [h3] at j
    unfold rowT
    omega
  have j := joinS_len ";" (rows.map rowT)
  have s : ((rows.map rowT).map (·.length)).sum ≤ (rows.map rowT).length * 88 := sum_le fun y hy => by
    obtain ⟨r, hr, rfl⟩ := List.mem_map.mp hy
    exact h1 r hr
  have h3 : ((";" : Str)).length = 1 := by decide
  have l4 := O.len4
  have n4 := O.n4
  rw [List.length_map] at j s
  rw [h3] at j
  unfold rowsT
  omega
theorem TbIn.ext {H H' : Hp} {a : Addr} {rows : List (List Int)} (s : ExtN H H') (h : TbIn H a rows) : TbIn H' a rows := by
  obtain ⟨⟨as, h1, h2, h3⟩, h4⟩ := h
  refine ⟨⟨as, s _ _ h1 (fun ps z => by cases z), h2, fun i r e => ?_⟩, h4⟩
  obtain ⟨b, e1, e2⟩ := h3 i r e
  exact ⟨b, e1, s _ _ e2 (fun ps z => by cases z)⟩
theorem TbIn.same {H H' : Hp} {a : Addr} {rows : List (List Int)} (s : Same H H') (h : TbIn H a rows) : TbIn H' a rows := ⟨h.1.same s, h.2⟩
theorem TbIn.put {H : Hp} {L a : Addr} {xs : List V} {o : HO} {rows : List (List Int)} (e : H L = some (.lst xs)) (h : TbIn H a rows) : TbIn (upd H L o) a rows := by
  obtain ⟨⟨as, h1, h2, h3⟩, h4⟩ := h
  refine ⟨⟨as, ?_, h2, fun i r e' => ?_⟩, h4⟩
  · rw [upd_ne (ne_of h1 e (by intro z; cases z))]
    exact h1
  · obtain ⟨b, e1, e2⟩ := h3 i r e'
    refine ⟨b, e1, ?_⟩
    rw [upd_ne (ne_of e2 e (by intro z; cases z))]
    exact e2
theorem cutS_len (x : Str) (i j : Option Int) : (cutS x i j).length ≤ x.length := by
  unfold cutS
  show (((x.cps.toList.drop _).take _).toArray).size ≤ x.cps.size
  rw [List.size_toArray, List.length_take, List.length_drop, Array.length_toList]
  omega
theorem cutS_to (x : Str) (k : Nat) : (cutS x none (some (k : Int))).length ≤ k := by
  unfold cutS
  show (((x.cps.toList.drop _).take _).toArray).size ≤ k
  rw [List.size_toArray, List.length_take, HT.sIx_nat]
  omega
theorem cutS_from (x : Str) (k : Nat) : (cutS x (some (k : Int)) none).length ≤ x.length - k := by
  unfold cutS
  show (((x.cps.toList.drop _).take _).toArray).size ≤ x.cps.size - k
  rw [List.size_toArray, List.length_take, HT.sIx_nat, List.length_drop, Array.length_toList]
  have : x.length = x.cps.size := rfl
  omega
section
variable {P : Program} {w : World} {K : PySem.W.Frag} {mg : Str → Option Value} {base : Heap} {CB CX' fX : Addr}
def spReadV (K : PySem.W.Frag) (CB : Addr) : Sp := fun vs H Q E => ∃ x : Str, vs = [.str x] ∧ x.length ≤ 900 ∧ (∀ cls d H', Same H H' → ErrAt K CB cls d H' (.str (verd x)) → verd x ≠ "" → E cls d H') ∧
  ∀ rows a H', verd x = "" → readT x = some rows → formOk rows = true → evB rows = true → Same H H' → TbIn H' a rows → Q (.ref a) H'
theorem readV_of (TX : ErrC K mg "BadText" CX' fX CB) (vs : List V) (H : Hp) (Q : VK) (E : XK) (h : spReadV K CB vs H Q E) : spReadTab K CB CX' vs H Q E := by
  obtain ⟨x, rfl, lx, hE, hQ⟩ := h
  refine ⟨x, rfl, lx, fun h d H' s hd => ?_, fun rows h => ⟨fun f e a H' s hT => hQ rows a H' (verd_good h f e) h f e s hT, fun f cls d H' s he => ?_, fun f e cls d H' s he => ?_⟩⟩
  · have ev := verd_none h
    exact hE _ _ H' s (by rw [ev]; exact TX.at1 (by decide) hd) (by rw [ev]; decide)
  · have ev := verd_form h f
    exact hE _ _ H' s (by rw [ev]; exact he) (by rw [ev]; decide)
  · have ev := verd_even h f e
    exact hE _ _ H' s (by rw [ev]; exact he) (by rw [ev]; decide)
abbrev s_law : Stmt := topS 43
abbrev n_law : List Str := ["_law_script", "_law_feed_here", "_law_ties", "_law_text", "_law_at", "_law_sign", "_law_bent", "_law_told", "_law_word_here", "_law_some", "_law_odd", "_law_due", "_law_where", "e"]
theorem sc_law : FnScope n_law ["_law_script"] (defScope s_law) := ⟨rfl, rfl, rfl, by decide +kernel, rfl, by decide +kernel, by decide +kernel⟩

def spLaw (K : PySem.W.Frag) (Pt : Addr) : Sp := fun vs H Q _ => ∃ (a : Addr) (ns : List Int), vs = [.ref a] ∧ SqL K H a (ns.map V.int) ∧ ns.length ≤ 63 ∧ H Pt = some (.tbl #[]) ∧ ∀ H', Q (.bl true) H'
theorem ok_law {f fR gW cc Pt : Addr} {fdR fdW : FuncData} {oc kV doc pm ct : Value} {od an : Option Addr} {osl : Array (Option Value)} (lk : K.lookup f = some ⟨oc, od, .func (PySem.W.fnOf "law" "law" (defArgs s_law) (defBody s_law) (defScope s_law) .none kV doc pm an (.ref cc) ct), osl⟩) (hcd : PySem.W.codeIn K (.ref cc) "law" = true) (T : Tx mg) (TX : ErrC K mg "BadText" CX' fX CB) (nX : PySem.W.findIn K (.ref CX') "at" = some none) (teX : PySem.W.exmOne K (.ref CX') (.ref CX') = some true)
    (c_law_feed : Cal P w K mg base CX0 1 "_law_feed" ["_law_script"] (spFeed K)) (c_law_draw : Cal P w K mg base CX0 1 "_law_draw" ["_law_feed_here", "_law_many"] spDraw) (c_law_pick : Cal P w K mg base CX0 2 "_law_pick" ["_law_feed_here", "_law_row"] spPick) (c_law_same : Cal P w K mg base CX0 5 "_law_same" ["_law_found", "_law_due"] (spSame 4))
    (c_law_even : Cal P w K mg base CX0 3 "_law_even" ["_law_feed_here", "_law_many", "_law_reach"] spEven) (c_law_roots : Cal P w K mg base CX0 2 "_law_roots" ["_law_feed_here", "_law_ties", "_law_most", "_law_reach"] spRoots) (c_law_rows_text : Cal P w K mg base CX0 1 "_law_rows_text" ["_law_rows"] spRowsText)
    (c_table_text : CalX P w K mg base 7 "table_text" ["table"] spTabText) (c_read_table : CalX P w K mg base 7 "read_table" ["text"] (spReadV K CB))
    (FR : FnOk P w K mg base (L2.CX P w) 7 fR fdR ["text"] (spReadTab K CB CX')) (gR : mg "read_table" = some (.ref fR)) (kR : PySem.W.keepIn K (.ref fR) = true) (bR : Binds K fdR ["text"] [])
    (WB : WordB K mg base gW CB cc Pt fdW) : FnOk P w K mg base CX0 10 f (PySem.W.fnOf "law" "law" (defArgs s_law) (defBody s_law) (defScope s_law) .none kV doc pm an (.ref cc) ct) ["_law_script"] (spLaw K Pt) := by
  refine fn_of lk hcd sc_law (fun vs H Q E h => ?_) (fun A outer s H vs Q E hr h => ?_)
  · obtain ⟨a, ns, rfl, _⟩ := h
    rfl
  · obtain ⟨a, ns, rfl, hS, hlen, hPt, q⟩ := h
    suffices hh : ∃ t, PSs (cxOf CX0 P w K mg base n_law "law" (defScope s_law) f (.ref cc) A outer s H E).nox (defBody s_law) t ∧ t { nx := fun _ H' => Q .non H', rt := Q } (L2.start n_law [.ref a]) H by
      obtain ⟨t, h1, h2⟩ := hh
      exact ⟨t, h1.nox, h2⟩
    have hu := hr.units
    have hr1 := hr.mono (show 1 ≤ 9 by decide)
    have hr2 := hr.mono (show 2 ≤ 9 by decide)
    have hr3 := hr.mono (show 3 ≤ 9 by decide)
    have hr5 := hr.mono (show 5 ≤ 9 by decide)
    have hr7 := hr.mono (show 7 ≤ 9 by decide)
    refine ⟨_, (pss_cons (ps_set (i := 1) sc_law.nd rfl (.inl rfl) (pe_cal c_law_feed hr1 (by rfl) (pa_cons (pv 0) pa_nil)))
  (pss_cons (ps_set (i := 2) sc_law.nd rfl (.inl rfl) (pe_cal c_law_roots hr2 (by rfl) (pa_cons (pv 1) (pa_cons (pe_cal c_law_even hr3 (by rfl) (pa_cons (pv 1) (pa_cons (pe_op op_add pe_int (pe_cal c_law_draw hr1 (by rfl) (pa_cons (pv 1) (pa_cons pe_int pa_nil)))) (pa_cons pe_int pa_nil)))) (pa_cons pe_int (pa_cons pe_int pa_nil))))))
  (pss_cons (ps_set (i := 3) sc_law.nd rfl (.inl rfl) (pe_cal c_law_rows_text hr1 (by rfl) (pa_cons (pv 2) pa_nil)))
  (pss_cons (ps_if (pt_not (pt_val (pe_cal c_law_same hr5 (by rfl) (pa_cons (pe_lst (pa_cons (pe_calX c_table_text hr7 (by rfl) passL (pa_cons (pv 2) pa_nil)) (pa_cons (pe_calX c_read_table hr7 (by rfl) passL (pa_cons (pv 3) pa_nil)) pa_nil))) (pa_cons (pe_lst (pa_cons (pv 3) (pa_cons (pv 2) pa_nil))) pa_nil)))))
    (pss_one (ps_ret pe_bl))
    pss_nil)
  (pss_cons (ps_set (i := 4) sc_law.nd rfl (.inl rfl) (pe_cal c_law_draw hr1 (by rfl) (pa_cons (pv 1) (pa_cons (pe_op op_add (pe_callB call_len_str (by rfl) T.len PySem.boot_len (pa_cons (pv 3) pa_nil)) pe_int) pa_nil))))
  (pss_cons (ps_set (i := 5) sc_law.nd rfl (.inl rfl) (pe_cal c_law_pick hr2 (by rfl) (pa_cons (pv 1) (pa_cons (pe_lst (pa_cons pe_str (pa_cons pe_str (pa_cons pe_str (pa_cons pe_str (pa_cons pe_str (pa_cons pe_str (pa_cons pe_str (pa_cons pe_str pa_nil))))))))) pa_nil))))
  (pss_cons (ps_set (i := 6) sc_law.nd rfl (.inr rfl) (pe_lst (pa_cons (pe_op op_add_str (pe_op op_add_str (pe_slice sl_str (pv 3) po_none (po_some (pv 4))) (pv 5)) (pe_slice sl_str (pv 3) (po_some (pv 4)) po_none)) (pa_cons (pe_op op_add_str (pe_slice sl_str (pv 3) po_none (po_some (pv 4))) (pe_slice sl_str (pv 3) (po_some (pe_op op_add (pv 4) pe_int)) po_none)) (pa_cons (pe_op op_add_str (pe_op op_add_str (pe_slice sl_str (pv 3) po_none (po_some (pv 4))) (pv 5)) (pe_slice sl_str (pv 3) (po_some (pe_op op_add (pv 4) pe_int)) po_none)) pa_nil)))))
  (pss_cons (ps_set (i := 6) sc_law.nd rfl (.inr rfl) (pe_ix (i_list (K := K)) (pv 6) (pe_cal c_law_draw hr1 (by rfl) (pa_cons (pv 1) (pa_cons pe_int pa_nil))) (fun _ _ => rfl)))
  (pss_cons (ps_set (i := 7) sc_law.nd rfl (.inr rfl) (pe_lst pa_nil))
  (C8.pss_cut (ps_set (i := 8) sc_law.nd rfl (.inl rfl) (pe_wd (k := 7) WB rfl hr (by rfl) (lamS_by (sc := defScope s_law) (by decide +kernel)) (fun A outer s H E f c' hr' => p_bmR (K := K) PySem.F.plainAttrs_list PySem.F.slot_list_append PySem.F.type_list_append mt_append (pv 7) (pa_cons (pe_calX c_read_table hr' (by rfl) (passE rfl rfl rfl rfl) (pa_cons (pv 6) pa_nil)) pa_nil))))
  (C8.pss_cut (ps_if (pt_cmpR (o_notin (K := K)) (pv 8) (pe_tup (pa_cons pe_str (pa_cons pe_str (pa_cons pe_str (pa_cons pe_str pa_nil))))) (by rfl))
    (pss_one (ps_ret pe_bl))
    pss_nil)
  (C8.pss_cut (ps_if (PW.pt (pw_and (pt_cmpR op_eq (pv 8) pe_str (nomark _)) (pw_and1 (pt_cmpR op_ne (pe_calX c_table_text hr7 (by rfl) passL (pa_cons (pe_ix (i_list (K := K)) (pv 7) pe_int (fun _ _ => rfl)) pa_nil)) (pv 6) (nomark _)))))
    (pss_one (ps_ret pe_bl))
    pss_nil)
  (pss_cons (ps_set (i := 9) sc_law.nd rfl (.inl rfl) (pe_wk (t := tLst (taPairs [("", "bad text"), ("0;", "bad text"), ("0,", "bad text"), ("00", "bad text"), ("-0", "bad text"), ("+0", "bad text")])) (pe_lst (pa_cons (pe_tup (pa_cons pe_str (pa_cons pe_str pa_nil))) (pa_cons (pe_tup (pa_cons pe_str (pa_cons pe_str pa_nil))) (pa_cons (pe_tup (pa_cons pe_str (pa_cons pe_str pa_nil))) (pa_cons (pe_tup (pa_cons pe_str (pa_cons pe_str pa_nil))) (pa_cons (pe_tup (pa_cons pe_str (pa_cons pe_str pa_nil))) (pa_cons (pe_tup (pa_cons pe_str (pa_cons pe_str pa_nil))) pa_nil))))))) (tPairs_of (ps := [("", "bad text"), ("0;", "bad text"), ("0,", "bad text"), ("00", "bad text"), ("-0", "bad text"), ("+0", "bad text")]) (by decide))))
  (pss_cons (ps_set (i := 9) sc_law.nd rfl (.inl rfl) (pe_op op_cat (pv 9) (pe_wk (t := tLst (taPairs [("0, 1;-1,0", "bad text"), ("1000000", "bad text"), ("0;0;0;0;0;0", "bad table"), ("0,1", "bad table")])) (pe_lst (pa_cons (pe_tup (pa_cons pe_str (pa_cons pe_str pa_nil))) (pa_cons (pe_tup (pa_cons pe_str (pa_cons pe_str pa_nil))) (pa_cons (pe_tup (pa_cons pe_str (pa_cons pe_str pa_nil))) (pa_cons (pe_tup (pa_cons pe_str (pa_cons pe_str pa_nil))) pa_nil))))) (tPairs_of (ps := [("0, 1;-1,0", "bad text"), ("1000000", "bad text"), ("0;0;0;0;0;0", "bad table"), ("0,1", "bad table")]) (by decide)))))
  (pss_cons (ps_set (i := 9) sc_law.nd rfl (.inl rfl) (pe_op op_cat (pv 9) (pe_wk (t := tLst (taPairs [("51", "bad table"), ("999999", "bad table"), ("1", "uneven"), ("0,1;1,0", "uneven"), ("0,1;0,0", "uneven")])) (pe_lst (pa_cons (pe_tup (pa_cons pe_str (pa_cons pe_str pa_nil))) (pa_cons (pe_tup (pa_cons pe_str (pa_cons pe_str pa_nil))) (pa_cons (pe_tup (pa_cons pe_str (pa_cons pe_str pa_nil))) (pa_cons (pe_tup (pa_cons pe_str (pa_cons pe_str pa_nil))) (pa_cons (pe_tup (pa_cons pe_str (pa_cons pe_str pa_nil))) pa_nil)))))) (tPairs_of (ps := [("51", "bad table"), ("999999", "bad table"), ("1", "uneven"), ("0,1;1,0", "uneven"), ("0,1;0,0", "uneven")]) (by decide)))))
  (pss_cons (ps_set (i := 9) sc_law.nd rfl (.inl rfl) (pe_op op_cat (pv 9) (pe_wk (t := tLst (taPairs [("0,1,0;-1,0", "bad table"), ("0,1,1;-1,0,1;-2,-1,0", "uneven")])) (pe_lst (pa_cons (pe_tup (pa_cons pe_str (pa_cons pe_str pa_nil))) (pa_cons (pe_tup (pa_cons pe_str (pa_cons pe_str pa_nil))) pa_nil))) (tPairs_of (ps := [("0,1,0;-1,0", "bad table"), ("0,1,1;-1,0,1;-2,-1,0", "uneven")]) (by decide)))))
  (pss_cons (ps_for PassesOwn.never rfl (p_list (K := K) (pv 9)) (g_tup (K := K) (n := 2) rfl (pgs_cons (pg_name (i := 10) sc_law.nd rfl (.inr rfl)) (pgs_cons (pg_name (i := 11) sc_law.nd rfl (.inl rfl)) pgs_nil)))
    (pss_one (ps_if (pt_cmpR op_ne (pe_wd (k := 7) WB rfl hr (by rfl) (lamS_by (sc := defScope s_law) (by decide +kernel)) (fun A outer s H E f c' hr' => pe_calX c_read_table hr' (by rfl) (passE rfl rfl rfl rfl) (pa_cons (pv 10) pa_nil))) (pv 11) (nomark _))
      (pss_one (ps_ret pe_bl))
      pss_nil)))
  (pss_cons (ps_set (i := 12) sc_law.nd rfl (.inl rfl) (pe_un un_neg pe_int))
  (pss_cons (ps_try_as (i := 13) rfl rfl sc_law.nd rfl rfl ⟨rfl, by decide, .inl TX.g⟩ L2.takes0 (fun W pn xe tk _ => pss_one (ps_expr (pe_callS FR hr7 (by rfl) gR kR bR (fun σ => passAt tk σ) (pa_cons pe_str pa_nil)))) (fun a oe cls d pn hz hf => pss_one (ps_set (i := 12) sc_law.nd rfl (.inl rfl) (pe_xf TX.xf nX hz hf (pv 13)))))
  (pss_one (ps_ret (pe_and (pe_cmpR op_eq (pv 12) pe_int (nomark _)) (pe_one (pe_cal c_law_same hr5 (by rfl) (pa_cons (pe_calX c_read_table hr7 (by rfl) passL (pa_cons pe_str pa_nil)) (pa_cons (pe_tup (pa_cons (pe_tup (pa_cons pe_int pa_nil)) pa_nil)) pa_nil)))))))))))))))))))))))))), ?_⟩
    -- the table
    refine ⟨.ref a, rfl, a, ns, rfl, hS, fun f l H1 s1 nf hf1 => ?_⟩
    have tb1 : Tabs [(Pt, qLam)] H1 := fun p hp => by
      rw [List.mem_singleton.mp hp]
      exact TabS.nil (s1 _ _ hPt)
    refine ⟨.ref f, rfl, .ref f, rfl, .ref f, rfl, f, l, 4, rfl, hf1, by decide, by decide, fun u H2 u0 u1 sb2 hf2 => ⟨_, _, rfl, rfl, ?_⟩⟩
    obtain ⟨m, rfl⟩ : ∃ m : Nat, u = (m : Int) := ⟨u.toNat, by omega⟩
    obtain ⟨n, en⟩ : ∃ n : Nat, (1 : Int) + (m : Int) = (n : Int) := ⟨m + 1, by omega⟩
    have n1 : 1 ≤ n := by omega
    have n4 : n ≤ 4 := by omega
    have tb2 := Tabs.but sb2 hf1 tb1
    refine ⟨f, l, n, 2, by show [V.ref f, V.int (1 + (m : Int)), V.int 2] = _; rw [en], hf2, n4, by decide, by decide, fun b ls B H3 sb3 hf3 hT3 hG => ?_⟩
    have tb3 := Tabs.but sb3 hf2 tb2
    refine ⟨f, l, b, matRows n B, n, 4, 50, rfl, hf3, hT3, n1, n4, by rw [matRows_len]; omega, by rw [matRows_len]; exact n1, fun x hx => ?_, by decide, by decide, by decide, fun c more H4 sb4 hf4 hT4 lm hm => ?_⟩
    · unfold matRows at hx
      obtain ⟨i, _, rfl⟩ := List.mem_map.mp hx
      exact matRow_len ..
    have O := tabOk_drawn n1 n4 hG (by decide) (by decide) lm hm
    have tb4 := Tabs.but sb4 hf3 tb3
    generalize matRows n B ++ more = rows at hT4 O
    clear hT3 hG hm lm sb2 sb3 sb4 hf1 hf2 hf3 tb1 tb2 tb3 s1 hPt hS hlen
    have OF := O.fm
    have fk := formOk_of OF
    have el : (rows.getD 0 []).length = n := row_len OF.wide (by have := OF.len; omega)
    have ev : evB rows = true := by
      unfold evB
      rw [el]
      exact evenB_of O
    have lt := tabT_len OF
    have ln := OF.n4
    have l4 := OF.len4
    have ht9 : ∀ r ∈ rows, r.length ≤ 901 := fun r hr => by
      have := OF.wide r hr
      omega
    have tI : ∀ {H : Hp}, TabAt H c rows → TbIn H c rows := fun h => ⟨h, by omega, ht9⟩
    have rb : readT (rowsT rows) = some rows := rows_back (fun z => by rw [z] at fk; cases fk) fun r hr => ⟨fun z => by
      have := OF.wide r hr
      rw [z] at this
      have : 0 = n := this
      omega, fun z hz => by
      have := OF.tie r hr z hz
      omega⟩
    -- its text
    refine ⟨.ref c, rfl, c, rows, rfl, hT4, ⟨by omega, fun r hr => ⟨by have := OF.wide r hr; omega, fun z hz => by
      have := OF.tie r hr z hz
      have e : (2 : Nat) ^ 20 = 1048576 := by decide
      rw [e]
      omega⟩⟩, fun H5 s5 => ?_⟩
    have hT5 := hT4.same s5
    have hf5 := hf4.same s5
    have tb5 := tb4.ext s5
    clear hT4 hf4 tb4 s5
    refine ⟨.ref c, rfl, c, rows, rfl, tI hT5, fk, ev, fun H6 s6 => ?_⟩
    refine ⟨.str (rowsT rows), rfl, _, rfl, by omega, fun cls d H' s he hne => absurd (verd_good rb fk ev) hne, fun rows' b' H7 _ h7 _ _ s7 hT7 => ?_⟩
    cases (Option.some.inj (rb.symm.trans h7))
    refine ⟨by show 2 ≤ sizeLine; decide, fun L1 e1 => ?_⟩
    refine ⟨.str (rowsT rows), rfl, .ref c, rfl, by show 2 ≤ sizeLine; decide, fun L2 e2 => ?_⟩
    have sA := same_upd (o := .lst [.str (rowsT rows), .ref b']) e1
    have sB := same_upd (o := .lst [.str (rowsT rows), .ref c]) e2
    refine ⟨.ref L1, .ref L2, rfl, .inr (.inr ⟨L1, L2, _, _, rfl, rfl, sB _ _ upd_same, upd_same, rfl, by show 2 ≤ 1000; decide, fun j x y hx hy => ?_⟩), fun H8 s8 => ⟨true, rfl, iteF ?_⟩⟩
    · match j, hx, hy with
      | 0, hx, hy =>
        cases (Option.some.inj hx)
        cases (Option.some.inj hy)
        exact .inl ⟨rfl, .inr (.inl ⟨_, rfl⟩)⟩
      | 1, hx, hy =>
        cases (Option.some.inj hx)
        cases (Option.some.inj hy)
        exact al_tab ((hT7.1.same sA).same sB) ((((hT5.same s6).same s7).same sA).same sB) (by omega) (fun r hr => by have := ht9 r hr; omega)
      | j + 2, hx, hy => simp at hx
    have s58 := s6.trans (s7.trans (sA.trans (sB.trans s8)))
    have hf8 := hf5.same s58
    have tb8 := tb5.ext s58
    clear s58 sA sB s8 e1 e2 hT7 s7 s6 hT5 hf5 tb5
    generalize rowsT rows = text at lt
    -- the bent text
    refine ⟨.ref f, rfl, .str text, rfl, text, rfl, Nat.le_of_lt (small1000 (by omega)), _, _, rfl, rfl, f, l, _, rfl, hf8, by omega, by omega, fun v H9 v0 v1 sb9 hf9 => ?_⟩
    have tb9 := Tabs.but sb9 hf8 tb8
    refine ⟨.ref f, rfl, by show 8 ≤ sizeLine; decide, fun o eo => ?_⟩
    have so := same_upd (o := .lst [.str "0", .str "1", .str "-", .str ",", .str ";", .str " ", .str "a", .str "9"]) eo
    refine ⟨f, l, o, _, rfl, hf9.same so, upd_same, hf9.ne eo, by show 0 < 8; decide, by show 8 < 1000; decide, fun sg H10 hv sb10 hf10 => ?_⟩
    have tb10 := Tabs.but sb10 (hf9.same so) (tb9.ext so)
    obtain ⟨z, rfl, lz⟩ : ∃ z : Str, sg = .str z ∧ z.length = 1 := by
      simp only [List.mem_cons, List.not_mem_nil, or_false] at hv
      rcases hv with rfl | rfl | rfl | rfl | rfl | rfl | rfl | rfl <;> exact ⟨_, rfl, by decide⟩
    clear hv sb10 so eo sb9 hf8 hf9 tb8 tb9
    have ln9 : ∀ {k : Nat}, k ≤ 2000 → k ≤ sizeLine := fun h => Nat.le_trans h (by decide)
    have ea : ∀ a b : Str, (a ++ b).length = a.length + b.length := fun a b => Str.length_append a b
    have c1 : (cutS text none (some v)).length ≤ v.toNat := by
      have := cutS_to text v.toNat
      rw [show ((v.toNat : Nat) : Int) = v by omega] at this
      exact this
    have c2 : (cutS text (some v) none).length ≤ text.length - v.toNat := by
      have := cutS_from text v.toNat
      rw [show ((v.toNat : Nat) : Int) = v by omega] at this
      exact this
    have c3 : (cutS text (some (v + 1)) none).length ≤ text.length - (v.toNat + 1) := by
      have := cutS_from text (v.toNat + 1)
      rw [show (((v.toNat + 1 : Nat)) : Int) = v + 1 by omega] at this
      exact this
    refine ⟨.str text, rfl, .int v, rfl, v, rfl, text, rfl, ln9 (by omega), .str z, rfl, _, _, rfl, rfl, ln9 (by omega), .str text, rfl, .int v, rfl, v, rfl, text, rfl, ln9 (by omega), _, _, rfl, rfl, ln9 (by rw [ea]; omega), ?_⟩
    refine ⟨.str text, rfl, .int v, rfl, v, rfl, text, rfl, ln9 (by omega), .str text, rfl, .int v, rfl, _, _, rfl, rfl, v + 1, rfl, text, rfl, ln9 (by omega), _, _, rfl, rfl, ln9 (by omega), ?_⟩
    refine ⟨.str text, rfl, .int v, rfl, v, rfl, text, rfl, ln9 (by omega), .str z, rfl, _, _, rfl, rfl, ln9 (by omega), .str text, rfl, .int v, rfl, _, _, rfl, rfl, v + 1, rfl, text, rfl, ln9 (by omega), _, _, rfl, rfl, ln9 (by rw [ea]; omega), ?_⟩
    obtain ⟨b1, eb1⟩ : ∃ b1, cutS text none (some v) ++ z ++ cutS text (some v) none = b1 := ⟨_, rfl⟩
    obtain ⟨b2, eb2⟩ : ∃ b2, cutS text none (some v) ++ cutS text (some (v + 1)) none = b2 := ⟨_, rfl⟩
    obtain ⟨b3, eb3⟩ : ∃ b3, cutS text none (some v) ++ z ++ cutS text (some (v + 1)) none = b3 := ⟨_, rfl⟩
    have lb1 : b1.length ≤ 900 := by
      rw [← eb1, ea, ea]
      omega
    have lb2 : b2.length ≤ 900 := by
      rw [← eb2, ea]
      omega
    have lb3 : b3.length ≤ 900 := by
      rw [← eb3, ea, ea]
      omega
    refine ⟨by show 3 ≤ sizeLine; decide, fun o eo => ?_⟩
    rw [eb1, eb2, eb3] at *
    clear eb1 eb2 eb3 c1 c2 c3
    have so := same_upd (o := .lst [.str b1, .str b2, .str b3]) eo
    refine ⟨.ref o, rfl, .ref f, rfl, f, l, 3, rfl, hf10.same so, by decide, by decide, fun u H12 u0 u1 sb12 hf12 => ?_⟩
    obtain ⟨k, rfl⟩ : ∃ k : Nat, u = (k : Int) := ⟨u.toNat, by omega⟩
    have ho := sb12 _ _ (hf10.ne eo) upd_same
    have tb12 := Tabs.but sb12 (hf10.same so) (tb10.ext so)
    obtain ⟨bent, ek, lb⟩ : ∃ y : Str, ([V.str b1, .str b2, .str b3] : List V)[k]? = some (.str y) ∧ y.length ≤ 900 := by
      have : k = 0 ∨ k = 1 ∨ k = 2 := by omega
      rcases this with rfl | rfl | rfl
      · exact ⟨b1, rfl, lb1⟩
      · exact ⟨b2, rfl, lb2⟩
      · exact ⟨b3, rfl, lb3⟩
    refine ⟨o, _, _, _, rfl, rfl, SqL.of ho, atI_nat ek, ?_⟩
    clear ek ho sb12 hf12 hf10 so eo lb1 lb2 lb3 tb10
    -- told, and the word
    refine ⟨Nat.zero_le _, fun L eL => ?_⟩
    have tb13 := tb12.ext (same_upd (o := .lst []) eL)
    have hL13 := upd_same (H := H12) (a := L) (o := .lst [])
    generalize upd H12 L (.lst []) = H13 at tb13 hL13
    clear tb12 eL
    refine ⟨fun σ H' => ∃ wd : Str, σ = [some (.ref a), some (.ref f), some (.ref c), some (.str text), some (.int v), some (.str z), some (.str bent), some (.ref L), some (.str wd), none, none, none, none, none] ∧ Tabs [(Pt, qLam)] H' ∧
      ((wd = "" ∧ ∃ p rows, H' L = some (.lst [.ref p]) ∧ TbIn H' p rows ∧ rowsT rows = bent ∧ formOk rows = true ∧ evB rows = true) ∨ wd = "bad text" ∨ wd = "bad table" ∨ wd = "uneven"), ?_, ?_⟩
    · refine ⟨tb13, fun H14 x14 tb14 => ?_⟩
      have hL14 := x14 _ _ hL13 (fun ps z => by cases z)
      refine ⟨.ref L, rfl, .inl ⟨rfl, _, SqL.of hL14⟩, .str bent, rfl, bent, rfl, lb, fun cls d H' s he hne => ⟨_, he, _, rfl, tb14.ext s, ?_⟩, fun rows' p H' h0 h1 f1 e1 s hT => ?_⟩
      · rcases verd_in bent with h | h | h | h
        · exact absurd h hne
        · exact .inr (.inl h)
        · exact .inr (.inr (.inl h))
        · exact .inr (.inr (.inr h))
      · have hL15 := s _ _ hL14
        exact ⟨L, _, _, rfl, rfl, hL15, by show 0 < sizeLine; decide, "", rfl, Tabs.put hL15 (tb14.ext s), .inl ⟨rfl, p, rows', upd_same, hT.put hL15, readT_text h1, f1, e1⟩⟩
    clear tb13 hL13
    rintro σ H14 ⟨wd, rfl, tb14, hc⟩
    refine ⟨fun σ H' => σ = [some (.ref a), some (.ref f), some (.ref c), some (.str text), some (.int v), some (.str z), some (.str bent), some (.ref L), some (.str wd), none, none, none, none, none] ∧ Tabs [(Pt, qLam)] H' ∧
      ((wd = "" ∧ ∃ p rows, H' L = some (.lst [.ref p]) ∧ TbIn H' p rows ∧ rowsT rows = bent ∧ formOk rows = true ∧ evB rows = true) ∨ wd = "bad text" ∨ wd = "bad table" ∨ wd = "uneven"), ?_, ?_⟩
    · refine ⟨.str wd, rfl, by show 4 ≤ sizeLine; decide, fun t et => ⟨t, _, rfl, .inr (SqT.of upd_same), rfl, rfl, _, rfl, ite2 (fun y => ?_) (fun _ => ?_)⟩⟩
      · exfalso
        rcases hc with ⟨rfl, _⟩ | rfl | rfl | rfl
        · exact absurd y (by decide +kernel)
        · exact absurd y (by decide +kernel)
        · exact absurd y (by decide +kernel)
        · exact absurd y (by decide +kernel)
      · have st := same_upd (o := .tup [.str "", .str "bad text", .str "bad table", .str "uneven"]) et
        refine ⟨rfl, tb14.ext st, ?_⟩
        rcases hc with ⟨rfl, p, rows', h1, h2, h3⟩ | h
        · exact .inl ⟨rfl, p, rows', st _ _ h1, h2.same st, h3⟩
        · exact .inr h
    clear tb14 hc H14
    rintro σ H15 ⟨rfl, tb15, hc⟩
    refine ⟨fun σ H' => σ = [some (.ref a), some (.ref f), some (.ref c), some (.str text), some (.int v), some (.str z), some (.str bent), some (.ref L), some (.str wd), none, none, none, none, none] ∧ Tabs [(Pt, qLam)] H', ?_, ?_⟩
    · refine ⟨.str wd, rfl, rfl, _, rfl, ite2 (fun y => ?_) (fun _ => iteF ⟨rfl, tb15⟩)⟩
      have y := V.str.inj (of_decide_eq_true y)
      rcases hc with ⟨_, p, rows', h1, h2, h3, h4, h5⟩ | hc
      · refine ⟨.ref L, rfl, L, _, 0, .ref p, rfl, rfl, SqL.of h1, atI_nat (j := 0) rfl, p, rows', rfl, h2, h4, h5, fun H16 s16 => ?_⟩
        rw [h3]
        exact ⟨.str bent, rfl, rfl, _, rfl, ite2 (fun z => absurd z (by rw [decide_eq_true rfl]; decide)) (fun _ => ⟨rfl, tb15.ext s16⟩)⟩
      · exfalso
        rcases hc with h | h | h
        · exact absurd (y.symm.trans h) (by decide)
        · exact absurd (y.symm.trans h) (by decide)
        · exact absurd (y.symm.trans h) (by decide)
    clear tb15 hc H15
    rintro σ H16 ⟨rfl, tb16⟩
    -- odd texts
    refine fun R1 u1 H17 s17 e17 p17 => ?_
    refine ⟨.ref R1, rfl, fun B2 w2 H18 s18 e18 p18 => ⟨R1, B2, _, _, rfl, rfl, s18 _ _ e17, e18, ?_, fun R2 eR2 => ?_⟩⟩
    · rw [List.length_map, List.length_map, p17.1, p18.1]
      show 10 ≤ sizeLine
      decide
    have P2 : PrAt (upd H18 R2 (.lst (u1.map V.ref ++ w2.map V.ref))) (u1 ++ w2) (odds.take 10) := ((p17.same s18).append p18).same (same_upd eR2)
    have E2 : (upd H18 R2 (.lst (u1.map V.ref ++ w2.map V.ref))) R2 = some (.lst ((u1 ++ w2).map V.ref)) := by
      rw [upd_same, List.map_append]
    have tb2 := tb16.ext (s17.trans (s18.trans (same_upd (o := .lst (u1.map V.ref ++ w2.map V.ref)) eR2)))
    generalize upd H18 R2 (.lst (u1.map V.ref ++ w2.map V.ref)) = H19 at P2 E2 tb2
    clear s17 e17 p17 s18 e18 p18 eR2 tb16
    generalize u1 ++ w2 = u2 at P2 E2
    refine ⟨.ref R2, rfl, fun B3 w3 H20 s20 e20 p20 => ⟨R2, B3, _, _, rfl, rfl, s20 _ _ E2, e20, ?_, fun R3 eR3 => ?_⟩⟩
    · rw [List.length_map, List.length_map, P2.1, p20.1]
      show 15 ≤ sizeLine
      decide
    have P3 : PrAt (upd H20 R3 (.lst (u2.map V.ref ++ w3.map V.ref))) (u2 ++ w3) (odds.take 15) := ((P2.same s20).append p20).same (same_upd eR3)
    have E3 : (upd H20 R3 (.lst (u2.map V.ref ++ w3.map V.ref))) R3 = some (.lst ((u2 ++ w3).map V.ref)) := by
      rw [upd_same, List.map_append]
    have tb3 := tb2.ext (s20.trans (same_upd (o := .lst (u2.map V.ref ++ w3.map V.ref)) eR3))
    generalize upd H20 R3 (.lst (u2.map V.ref ++ w3.map V.ref)) = H21 at P3 E3 tb3
    clear s20 e20 p20 eR3 tb2 P2 E2
    generalize u2 ++ w3 = u3 at P3 E3
    refine ⟨.ref R3, rfl, fun B4 w4 H22 s22 e22 p22 => ⟨R3, B4, _, _, rfl, rfl, s22 _ _ E3, e22, ?_, fun R4 eR4 => ?_⟩⟩
    · rw [List.length_map, List.length_map, P3.1, p22.1]
      show 17 ≤ sizeLine
      decide
    have P4 : PrAt (upd H22 R4 (.lst (u3.map V.ref ++ w4.map V.ref))) (u3 ++ w4) odds := ((P3.same s22).append p22).same (same_upd eR4)
    have E4 : (upd H22 R4 (.lst (u3.map V.ref ++ w4.map V.ref))) R4 = some (.lst ((u3 ++ w4).map V.ref)) := by
      rw [upd_same, List.map_append]
    have tb4 := tb3.ext (s22.trans (same_upd (o := .lst (u3.map V.ref ++ w4.map V.ref)) eR4))
    generalize upd H22 R4 (.lst (u3.map V.ref ++ w4.map V.ref)) = H23 at P4 E4 tb4
    clear s22 e22 p22 eR4 tb3 P3 E3
    generalize u3 ++ w4 = u4 at P4 E4
    refine ⟨.ref R4, rfl, R4, rfl, ⟨_, SqL.of E4⟩, for_list (K := K) (a := R4) (xs := u4.map V.ref) (fun i σ H' => ∃ y10 y11 : Option V, σ = [some (.ref a), some (.ref f), some (.ref c), some (.str text), some (.int v), some (.str z), some (.str bent), some (.ref L), some (.str wd), some (.ref R4), y10, y11, none, none] ∧ Tabs [(Pt, qLam)] H' ∧ PrAt H' u4 odds ∧ H' R4 = some (.lst (u4.map V.ref))) ⟨none, none, rfl, tb4, P4, E4⟩ (fun i σ H' _ ⟨_, _, _, _, _, e⟩ => SqL.of e) ?_ ?_⟩
    · rintro i x σ H24 hx ⟨y10, y11, rfl, tb24, P24, E24⟩
      obtain ⟨t, et, rfl⟩ := ref_at hx
      have hi : i < odds.length := by
        rw [← P24.1]
        exact (List.getElem?_eq_some_iff.mp et).1
      have ep := List.getElem?_eq_getElem hi
      have ht := P24.2 i t _ et ep
      have ok := List.all_eq_true.mp odds_ok _ (List.getElem_mem hi)
      rw [Bool.and_eq_true, Bool.and_eq_true] at ok
      have ok1 := of_decide_eq_true ok.1.1
      have ok2 := of_decide_eq_true ok.1.2
      have ok3 := of_decide_eq_true ok.2
      generalize odds[i] = p at ep ht ok1 ok2 ok3
      clear ok ep hi
      refine ⟨t, _, rfl, SqT.of ht, rfl, .str p.1, _, rfl, .str p.2, _, rfl, rfl, ?_⟩
      refine ⟨tb24, fun H25 x25 tb25 => ?_⟩
      refine ⟨.str p.1, rfl, p.1, rfl, ok3, fun cls d H' s he hne => ?_, fun rows' q' H' h0 => absurd h0 ok2⟩
      rw [ok1] at he
      refine ⟨_, he, .str p.2, rfl, rfl, _, rfl, ite2 (fun z => absurd z (by rw [decide_eq_true rfl]; decide)) (fun _ => ⟨_, _, rfl, tb25.ext s, (P24.ext x25).same s, s _ _ (x25 _ _ E24 (fun ps z => by cases z))⟩)⟩
    · rintro σ H24 ⟨y10, y11, rfl, tb24, P24, E24⟩
      refine ⟨1, rfl, ?_⟩
      refine ⟨"0;x", rfl, by decide, fun _ d H25 s25 hd => ⟨true, teX, fun _ x hx => ?_, fun z => nomatch z⟩, fun rows' h => by rw [odd_x] at h; cases h⟩
      refine ⟨.ref x, rfl, rfl, rfl, d, _, .int 0, rfl, hd, rfl, ?_⟩
      refine ⟨.int 0, rfl, rfl, true, rfl, ?_⟩
      refine ⟨"0", rfl, by decide, fun cls d H' s he hne => absurd (verd_good one_ok.1 one_ok.2.1 one_ok.2.2) hne, fun rows' b' H26 _ h26 _ _ s26 hT26 => ?_⟩
      cases (Option.some.inj (one_ok.1.symm.trans h26))
      refine ⟨by show 1 ≤ sizeLine; decide, fun t1 e1 => ⟨by show 1 ≤ sizeLine; decide, fun t2 e2 => ?_⟩⟩
      have sA := same_upd (o := .tup [.int 0]) e1
      have sB := same_upd (o := .tup [.ref t1]) e2
      refine ⟨.ref b', .ref t2, rfl, Al.up (al_tab ((hT26.1.same sA).same sB) ⟨[t1], upd_same, rfl, fun i r e => ?_⟩ (by decide) (by decide)), fun H' _ => q H'⟩
      match i, e with
      | 0, e =>
        cases (Option.some.inj e)
        exact ⟨t1, rfl, sB _ _ upd_same⟩
      | i + 1, e => simp at e

end
end Bw
set_option Elab.async false
set_option linter.all false
set_option maxRecDepth 100000
set_option maxHeartbeats 4000000
namespace Bw
open PySem PySem.Spec PyProof.Rows L2
theorem all_mk {l : PySem.W.OpenLaw} {w : World} {K : PySem.W.Frag} {h : Heap} {mg : Str → Option Value} {fa : Addr} (X : K.In h) (G : h.Ns mainGlobals mg) (hfa : mg "law" = some (.ref fa)) (own : LamX.OwnTab K fa h)
    {C_BudError : Addr}
    {C_BadTable : Addr}
    {C_Uneven : Addr}
    {C_BadText : Addr}
    {od_is_number an_is_number : Option Addr} {sl_is_number : Array (Option Value)} {oc_is_number kV_is_number dc_is_number pm_is_number cd_is_number ct_is_number : Value} {f_is_number : Addr}
    {od_leading_figures an_leading_figures : Option Addr} {sl_leading_figures : Array (Option Value)} {oc_leading_figures kV_leading_figures dc_leading_figures pm_leading_figures cd_leading_figures ct_leading_figures : Value} {f_leading_figures : Addr}
    {od_read_number an_read_number : Option Addr} {sl_read_number : Array (Option Value)} {oc_read_number kV_read_number dc_read_number pm_read_number cd_read_number ct_read_number : Value} {f_read_number : Addr}
    {od_row_text an_row_text : Option Addr} {sl_row_text : Array (Option Value)} {oc_row_text kV_row_text dc_row_text pm_row_text cd_row_text ct_row_text : Value} {f_row_text : Addr}
    {od_read_row an_read_row : Option Addr} {sl_read_row : Array (Option Value)} {oc_read_row kV_read_row dc_read_row pm_read_row cd_read_row ct_read_row : Value} {f_read_row : Addr}
    {od_rows_text an_rows_text : Option Addr} {sl_rows_text : Array (Option Value)} {oc_rows_text kV_rows_text dc_rows_text pm_rows_text cd_rows_text ct_rows_text : Value} {f_rows_text : Addr}
    {od_read_rows an_read_rows : Option Addr} {sl_read_rows : Array (Option Value)} {oc_read_rows kV_read_rows dc_read_rows pm_read_rows cd_read_rows ct_read_rows : Value} {f_read_rows : Addr}
    {od_is_row an_is_row : Option Addr} {sl_is_row : Array (Option Value)} {oc_is_row kV_is_row dc_is_row pm_is_row cd_is_row ct_is_row : Value} {f_is_row : Addr}
    {od_check_form an_check_form : Option Addr} {sl_check_form : Array (Option Value)} {oc_check_form kV_check_form dc_check_form pm_check_form cd_check_form ct_check_form : Value} {f_check_form : Addr}
    {od_check_table an_check_table : Option Addr} {sl_check_table : Array (Option Value)} {oc_check_table kV_check_table dc_check_table pm_check_table cd_check_table ct_check_table : Value} {f_check_table : Addr}
    {od_bud_count an_bud_count : Option Addr} {sl_bud_count : Array (Option Value)} {oc_bud_count kV_bud_count dc_bud_count pm_bud_count cd_bud_count ct_bud_count : Value} {f_bud_count : Addr}
    {od_unlike_rows an_unlike_rows : Option Addr} {sl_unlike_rows : Array (Option Value)} {oc_unlike_rows kV_unlike_rows dc_unlike_rows pm_unlike_rows cd_unlike_rows ct_unlike_rows : Value} {f_unlike_rows : Addr}
    {od_pair_bars an_pair_bars : Option Addr} {sl_pair_bars : Array (Option Value)} {oc_pair_bars kV_pair_bars dc_pair_bars pm_pair_bars cd_pair_bars ct_pair_bars : Value} {f_pair_bars : Addr}
    {od_ring_bars an_ring_bars : Option Addr} {sl_ring_bars : Array (Option Value)} {oc_ring_bars kV_ring_bars dc_ring_bars pm_ring_bars cd_ring_bars ct_ring_bars : Value} {f_ring_bars : Addr}
    {od_barred an_barred : Option Addr} {sl_barred : Array (Option Value)} {oc_barred kV_barred dc_barred pm_barred cd_barred ct_barred : Value} {f_barred : Addr}
    {od_table_text an_table_text : Option Addr} {sl_table_text : Array (Option Value)} {oc_table_text kV_table_text dc_table_text pm_table_text cd_table_text ct_table_text : Value} {f_table_text : Addr}
    {od_read_table an_read_table : Option Addr} {sl_read_table : Array (Option Value)} {oc_read_table kV_read_table dc_read_table pm_read_table cd_read_table ct_read_table : Value} {f_read_table : Addr}
    {od_law_feed an_law_feed : Option Addr} {sl_law_feed : Array (Option Value)} {oc_law_feed kV_law_feed dc_law_feed pm_law_feed cd_law_feed ct_law_feed : Value} {f_law_feed : Addr}
    {od_law_draw an_law_draw : Option Addr} {sl_law_draw : Array (Option Value)} {oc_law_draw kV_law_draw dc_law_draw pm_law_draw cd_law_draw ct_law_draw : Value} {f_law_draw : Addr}
    {od_law_pick an_law_pick : Option Addr} {sl_law_pick : Array (Option Value)} {oc_law_pick kV_law_pick dc_law_pick pm_law_pick cd_law_pick ct_law_pick : Value} {f_law_pick : Addr}
    {od_law_same an_law_same : Option Addr} {sl_law_same : Array (Option Value)} {oc_law_same kV_law_same dc_law_same pm_law_same cd_law_same ct_law_same : Value} {f_law_same : Addr}
    {od_law_word an_law_word : Option Addr} {sl_law_word : Array (Option Value)} {oc_law_word kV_law_word dc_law_word pm_law_word cd_law_word ct_law_word : Value} {f_law_word : Addr}
    {od_law_gcd an_law_gcd : Option Addr} {sl_law_gcd : Array (Option Value)} {oc_law_gcd kV_law_gcd dc_law_gcd pm_law_gcd cd_law_gcd ct_law_gcd : Value} {f_law_gcd : Addr}
    {od_law_even an_law_even : Option Addr} {sl_law_even : Array (Option Value)} {oc_law_even kV_law_even dc_law_even pm_law_even cd_law_even ct_law_even : Value} {f_law_even : Addr}
    {od_law_roots an_law_roots : Option Addr} {sl_law_roots : Array (Option Value)} {oc_law_roots kV_law_roots dc_law_roots pm_law_roots cd_law_roots ct_law_roots : Value} {f_law_roots : Addr}
    {od_law_rows_text an_law_rows_text : Option Addr} {sl_law_rows_text : Array (Option Value)} {oc_law_rows_text kV_law_rows_text dc_law_rows_text pm_law_rows_text cd_law_rows_text ct_law_rows_text : Value} {f_law_rows_text : Addr}
    {od_law an_law : Option Addr} {sl_law : Array (Option Value)} {oc_law kV_law dc_law pm_law ct_law : Value} {f_law : Addr}
    {cc_law Pt : Addr} {oc2 : Value} {od2 : Option Addr} {vs_law : Array Value} {sl2 : Array (Option Value)}
    {od_bud_init an_bud_init : Option Addr} {sl_bud_init : Array (Option Value)} {oc_bud_init kV_bud_init dc_bud_init pm_bud_init cd_bud_init ct_bud_init : Value} {f_bud_init : Addr}
    {od_bad_init an_bad_init : Option Addr} {sl_bad_init : Array (Option Value)} {oc_bad_init kV_bad_init dc_bad_init pm_bad_init cd_bad_init ct_bad_init : Value} {f_bad_init : Addr}
    {od_unev_init an_unev_init : Option Addr} {sl_unev_init : Array (Option Value)} {oc_unev_init kV_unev_init dc_unev_init pm_unev_init cd_unev_init ct_unev_init : Value} {f_unev_init : Addr}
    {od_text_init an_text_init : Option Addr} {sl_text_init : Array (Option Value)} {oc_text_init kV_text_init dc_text_init pm_text_init cd_text_init ct_text_init : Value} {f_text_init : Addr}
    {t_MOST_TIE : Tok}
    {t_MOST_BUDS : Tok}
    {t_MOST_ROOTS : Tok}
    {t_MOST_FIGURES : Tok}
    {t_FIGURES : Tok}
    {nm_BadTable q_BadTable : Str} {N_BadTable : Addr} {bs_BadTable : List Value} {sn_BadTable : List Str} {sub_BadTable : List Value} {ab_BadTable : Bool} {col_BadTable : Option Bool} {dd_BadTable : Option Addr} {m0_BadTable m1_BadTable m2_BadTable m3_BadTable m5_BadTable : Option Value}
    {nm_Uneven q_Uneven : Str} {N_Uneven : Addr} {bs_Uneven : List Value} {sn_Uneven : List Str} {sub_Uneven : List Value} {ab_Uneven : Bool} {col_Uneven : Option Bool} {dd_Uneven : Option Addr} {m0_Uneven m1_Uneven m2_Uneven m3_Uneven m5_Uneven : Option Value}
    {nm_BadText q_BadText : Str} {N_BadText : Addr} {bs_BadText : List Value} {sn_BadText : List Str} {sub_BadText : List Value} {ab_BadText : Bool} {col_BadText : Option Bool} {dd_BadText : Option Addr} {m0_BadText m1_BadText m2_BadText m3_BadText m5_BadText : Option Value}
    (a_BudError : PySem.W.nsIn K mainGlobals "BudError" = some (some (.ref C_BudError)))
    (a_BadTable : PySem.W.nsIn K mainGlobals "BadTable" = some (some (.ref C_BadTable)))
    (a_Uneven : PySem.W.nsIn K mainGlobals "Uneven" = some (some (.ref C_Uneven)))
    (a_BadText : PySem.W.nsIn K mainGlobals "BadText" = some (some (.ref C_BadText)))
    (a_is_number : PySem.W.nsIn K mainGlobals "is_number" = some (some (.ref f_is_number)))
    (l_is_number : K.lookup f_is_number = some ⟨oc_is_number, od_is_number, .func (PySem.W.fnOf "is_number" "is_number" (defArgs s_is_number) (defBody s_is_number) (defScope s_is_number) .none kV_is_number dc_is_number pm_is_number an_is_number cd_is_number ct_is_number), sl_is_number⟩)
    (c_is_number : PySem.W.codeIn K cd_is_number "is_number" = true)
    (k_is_number : PySem.W.keepIn K (.ref f_is_number) = true)
    (a_leading_figures : PySem.W.nsIn K mainGlobals "leading_figures" = some (some (.ref f_leading_figures)))
    (l_leading_figures : K.lookup f_leading_figures = some ⟨oc_leading_figures, od_leading_figures, .func (PySem.W.fnOf "leading_figures" "leading_figures" (defArgs s_leading_figures) (defBody s_leading_figures) (defScope s_leading_figures) .none kV_leading_figures dc_leading_figures pm_leading_figures an_leading_figures cd_leading_figures ct_leading_figures), sl_leading_figures⟩)
    (c_leading_figures : PySem.W.codeIn K cd_leading_figures "leading_figures" = true)
    (k_leading_figures : PySem.W.keepIn K (.ref f_leading_figures) = true)
    (a_read_number : PySem.W.nsIn K mainGlobals "read_number" = some (some (.ref f_read_number)))
    (l_read_number : K.lookup f_read_number = some ⟨oc_read_number, od_read_number, .func (PySem.W.fnOf "read_number" "read_number" (defArgs s_read_number) (defBody s_read_number) (defScope s_read_number) .none kV_read_number dc_read_number pm_read_number an_read_number cd_read_number ct_read_number), sl_read_number⟩)
    (c_read_number : PySem.W.codeIn K cd_read_number "read_number" = true)
    (k_read_number : PySem.W.keepIn K (.ref f_read_number) = true)
    (a_row_text : PySem.W.nsIn K mainGlobals "row_text" = some (some (.ref f_row_text)))
    (l_row_text : K.lookup f_row_text = some ⟨oc_row_text, od_row_text, .func (PySem.W.fnOf "row_text" "row_text" (defArgs s_row_text) (defBody s_row_text) (defScope s_row_text) .none kV_row_text dc_row_text pm_row_text an_row_text cd_row_text ct_row_text), sl_row_text⟩)
    (c_row_text : PySem.W.codeIn K cd_row_text "row_text" = true)
    (k_row_text : PySem.W.keepIn K (.ref f_row_text) = true)
    (a_read_row : PySem.W.nsIn K mainGlobals "read_row" = some (some (.ref f_read_row)))
    (l_read_row : K.lookup f_read_row = some ⟨oc_read_row, od_read_row, .func (PySem.W.fnOf "read_row" "read_row" (defArgs s_read_row) (defBody s_read_row) (defScope s_read_row) .none kV_read_row dc_read_row pm_read_row an_read_row cd_read_row ct_read_row), sl_read_row⟩)
    (c_read_row : PySem.W.codeIn K cd_read_row "read_row" = true)
    (k_read_row : PySem.W.keepIn K (.ref f_read_row) = true)
    (a_rows_text : PySem.W.nsIn K mainGlobals "rows_text" = some (some (.ref f_rows_text)))
    (l_rows_text : K.lookup f_rows_text = some ⟨oc_rows_text, od_rows_text, .func (PySem.W.fnOf "rows_text" "rows_text" (defArgs s_rows_text) (defBody s_rows_text) (defScope s_rows_text) .none kV_rows_text dc_rows_text pm_rows_text an_rows_text cd_rows_text ct_rows_text), sl_rows_text⟩)
    (c_rows_text : PySem.W.codeIn K cd_rows_text "rows_text" = true)
    (k_rows_text : PySem.W.keepIn K (.ref f_rows_text) = true)
    (a_read_rows : PySem.W.nsIn K mainGlobals "read_rows" = some (some (.ref f_read_rows)))
    (l_read_rows : K.lookup f_read_rows = some ⟨oc_read_rows, od_read_rows, .func (PySem.W.fnOf "read_rows" "read_rows" (defArgs s_read_rows) (defBody s_read_rows) (defScope s_read_rows) .none kV_read_rows dc_read_rows pm_read_rows an_read_rows cd_read_rows ct_read_rows), sl_read_rows⟩)
    (c_read_rows : PySem.W.codeIn K cd_read_rows "read_rows" = true)
    (k_read_rows : PySem.W.keepIn K (.ref f_read_rows) = true)
    (a_is_row : PySem.W.nsIn K mainGlobals "is_row" = some (some (.ref f_is_row)))
    (l_is_row : K.lookup f_is_row = some ⟨oc_is_row, od_is_row, .func (PySem.W.fnOf "is_row" "is_row" (defArgs s_is_row) (defBody s_is_row) (defScope s_is_row) .none kV_is_row dc_is_row pm_is_row an_is_row cd_is_row ct_is_row), sl_is_row⟩)
    (c_is_row : PySem.W.codeIn K cd_is_row "is_row" = true)
    (k_is_row : PySem.W.keepIn K (.ref f_is_row) = true)
    (a_check_form : PySem.W.nsIn K mainGlobals "check_form" = some (some (.ref f_check_form)))
    (l_check_form : K.lookup f_check_form = some ⟨oc_check_form, od_check_form, .func (PySem.W.fnOf "check_form" "check_form" (defArgs s_check_form) (defBody s_check_form) (defScope s_check_form) .none kV_check_form dc_check_form pm_check_form an_check_form cd_check_form ct_check_form), sl_check_form⟩)
    (c_check_form : PySem.W.codeIn K cd_check_form "check_form" = true)
    (k_check_form : PySem.W.keepIn K (.ref f_check_form) = true)
    (a_check_table : PySem.W.nsIn K mainGlobals "check_table" = some (some (.ref f_check_table)))
    (l_check_table : K.lookup f_check_table = some ⟨oc_check_table, od_check_table, .func (PySem.W.fnOf "check_table" "check_table" (defArgs s_check_table) (defBody s_check_table) (defScope s_check_table) .none kV_check_table dc_check_table pm_check_table an_check_table cd_check_table ct_check_table), sl_check_table⟩)
    (c_check_table : PySem.W.codeIn K cd_check_table "check_table" = true)
    (k_check_table : PySem.W.keepIn K (.ref f_check_table) = true)
    (a_bud_count : PySem.W.nsIn K mainGlobals "bud_count" = some (some (.ref f_bud_count)))
    (l_bud_count : K.lookup f_bud_count = some ⟨oc_bud_count, od_bud_count, .func (PySem.W.fnOf "bud_count" "bud_count" (defArgs s_bud_count) (defBody s_bud_count) (defScope s_bud_count) .none kV_bud_count dc_bud_count pm_bud_count an_bud_count cd_bud_count ct_bud_count), sl_bud_count⟩)
    (c_bud_count : PySem.W.codeIn K cd_bud_count "bud_count" = true)
    (k_bud_count : PySem.W.keepIn K (.ref f_bud_count) = true)
    (a_unlike_rows : PySem.W.nsIn K mainGlobals "unlike_rows" = some (some (.ref f_unlike_rows)))
    (l_unlike_rows : K.lookup f_unlike_rows = some ⟨oc_unlike_rows, od_unlike_rows, .func (PySem.W.fnOf "unlike_rows" "unlike_rows" (defArgs s_unlike_rows) (defBody s_unlike_rows) (defScope s_unlike_rows) .none kV_unlike_rows dc_unlike_rows pm_unlike_rows an_unlike_rows cd_unlike_rows ct_unlike_rows), sl_unlike_rows⟩)
    (c_unlike_rows : PySem.W.codeIn K cd_unlike_rows "unlike_rows" = true)
    (k_unlike_rows : PySem.W.keepIn K (.ref f_unlike_rows) = true)
    (a_pair_bars : PySem.W.nsIn K mainGlobals "pair_bars" = some (some (.ref f_pair_bars)))
    (l_pair_bars : K.lookup f_pair_bars = some ⟨oc_pair_bars, od_pair_bars, .func (PySem.W.fnOf "pair_bars" "pair_bars" (defArgs s_pair_bars) (defBody s_pair_bars) (defScope s_pair_bars) .none kV_pair_bars dc_pair_bars pm_pair_bars an_pair_bars cd_pair_bars ct_pair_bars), sl_pair_bars⟩)
    (c_pair_bars : PySem.W.codeIn K cd_pair_bars "pair_bars" = true)
    (k_pair_bars : PySem.W.keepIn K (.ref f_pair_bars) = true)
    (a_ring_bars : PySem.W.nsIn K mainGlobals "ring_bars" = some (some (.ref f_ring_bars)))
    (l_ring_bars : K.lookup f_ring_bars = some ⟨oc_ring_bars, od_ring_bars, .func (PySem.W.fnOf "ring_bars" "ring_bars" (defArgs s_ring_bars) (defBody s_ring_bars) (defScope s_ring_bars) .none kV_ring_bars dc_ring_bars pm_ring_bars an_ring_bars cd_ring_bars ct_ring_bars), sl_ring_bars⟩)
    (c_ring_bars : PySem.W.codeIn K cd_ring_bars "ring_bars" = true)
    (k_ring_bars : PySem.W.keepIn K (.ref f_ring_bars) = true)
    (a_barred : PySem.W.nsIn K mainGlobals "barred" = some (some (.ref f_barred)))
    (l_barred : K.lookup f_barred = some ⟨oc_barred, od_barred, .func (PySem.W.fnOf "barred" "barred" (defArgs s_barred) (defBody s_barred) (defScope s_barred) .none kV_barred dc_barred pm_barred an_barred cd_barred ct_barred), sl_barred⟩)
    (c_barred : PySem.W.codeIn K cd_barred "barred" = true)
    (k_barred : PySem.W.keepIn K (.ref f_barred) = true)
    (a_table_text : PySem.W.nsIn K mainGlobals "table_text" = some (some (.ref f_table_text)))
    (l_table_text : K.lookup f_table_text = some ⟨oc_table_text, od_table_text, .func (PySem.W.fnOf "table_text" "table_text" (defArgs s_table_text) (defBody s_table_text) (defScope s_table_text) .none kV_table_text dc_table_text pm_table_text an_table_text cd_table_text ct_table_text), sl_table_text⟩)
    (c_table_text : PySem.W.codeIn K cd_table_text "table_text" = true)
    (k_table_text : PySem.W.keepIn K (.ref f_table_text) = true)
    (a_read_table : PySem.W.nsIn K mainGlobals "read_table" = some (some (.ref f_read_table)))
    (l_read_table : K.lookup f_read_table = some ⟨oc_read_table, od_read_table, .func (PySem.W.fnOf "read_table" "read_table" (defArgs s_read_table) (defBody s_read_table) (defScope s_read_table) .none kV_read_table dc_read_table pm_read_table an_read_table cd_read_table ct_read_table), sl_read_table⟩)
    (c_read_table : PySem.W.codeIn K cd_read_table "read_table" = true)
    (k_read_table : PySem.W.keepIn K (.ref f_read_table) = true)
    (a_law_feed : PySem.W.nsIn K mainGlobals "_law_feed" = some (some (.ref f_law_feed)))
    (l_law_feed : K.lookup f_law_feed = some ⟨oc_law_feed, od_law_feed, .func (PySem.W.fnOf "_law_feed" "_law_feed" (defArgs s_law_feed) (defBody s_law_feed) (defScope s_law_feed) .none kV_law_feed dc_law_feed pm_law_feed an_law_feed cd_law_feed ct_law_feed), sl_law_feed⟩)
    (c_law_feed : PySem.W.codeIn K cd_law_feed "_law_feed" = true)
    (k_law_feed : PySem.W.keepIn K (.ref f_law_feed) = true)
    (a_law_draw : PySem.W.nsIn K mainGlobals "_law_draw" = some (some (.ref f_law_draw)))
    (l_law_draw : K.lookup f_law_draw = some ⟨oc_law_draw, od_law_draw, .func (PySem.W.fnOf "_law_draw" "_law_draw" (defArgs s_law_draw) (defBody s_law_draw) (defScope s_law_draw) .none kV_law_draw dc_law_draw pm_law_draw an_law_draw cd_law_draw ct_law_draw), sl_law_draw⟩)
    (c_law_draw : PySem.W.codeIn K cd_law_draw "_law_draw" = true)
    (k_law_draw : PySem.W.keepIn K (.ref f_law_draw) = true)
    (a_law_pick : PySem.W.nsIn K mainGlobals "_law_pick" = some (some (.ref f_law_pick)))
    (l_law_pick : K.lookup f_law_pick = some ⟨oc_law_pick, od_law_pick, .func (PySem.W.fnOf "_law_pick" "_law_pick" (defArgs s_law_pick) (defBody s_law_pick) (defScope s_law_pick) .none kV_law_pick dc_law_pick pm_law_pick an_law_pick cd_law_pick ct_law_pick), sl_law_pick⟩)
    (c_law_pick : PySem.W.codeIn K cd_law_pick "_law_pick" = true)
    (k_law_pick : PySem.W.keepIn K (.ref f_law_pick) = true)
    (a_law_same : PySem.W.nsIn K mainGlobals "_law_same" = some (some (.ref f_law_same)))
    (l_law_same : K.lookup f_law_same = some ⟨oc_law_same, od_law_same, .func (PySem.W.fnOf "_law_same" "_law_same" (defArgs s_law_same) (defBody s_law_same) (defScope s_law_same) .none kV_law_same dc_law_same pm_law_same an_law_same cd_law_same ct_law_same), sl_law_same⟩)
    (c_law_same : PySem.W.codeIn K cd_law_same "_law_same" = true)
    (k_law_same : PySem.W.keepIn K (.ref f_law_same) = true)
    (a_law_word : PySem.W.nsIn K mainGlobals "_law_word" = some (some (.ref f_law_word)))
    (l_law_word : K.lookup f_law_word = some ⟨oc_law_word, od_law_word, .func (PySem.W.fnOf "_law_word" "_law_word" (defArgs s_law_word) (defBody s_law_word) (defScope s_law_word) .none kV_law_word dc_law_word pm_law_word an_law_word cd_law_word ct_law_word), sl_law_word⟩)
    (c_law_word : PySem.W.codeIn K cd_law_word "_law_word" = true)
    (k_law_word : PySem.W.keepIn K (.ref f_law_word) = true)
    (a_law_gcd : PySem.W.nsIn K mainGlobals "_law_gcd" = some (some (.ref f_law_gcd)))
    (l_law_gcd : K.lookup f_law_gcd = some ⟨oc_law_gcd, od_law_gcd, .func (PySem.W.fnOf "_law_gcd" "_law_gcd" (defArgs s_law_gcd) (defBody s_law_gcd) (defScope s_law_gcd) .none kV_law_gcd dc_law_gcd pm_law_gcd an_law_gcd cd_law_gcd ct_law_gcd), sl_law_gcd⟩)
    (c_law_gcd : PySem.W.codeIn K cd_law_gcd "_law_gcd" = true)
    (k_law_gcd : PySem.W.keepIn K (.ref f_law_gcd) = true)
    (a_law_even : PySem.W.nsIn K mainGlobals "_law_even" = some (some (.ref f_law_even)))
    (l_law_even : K.lookup f_law_even = some ⟨oc_law_even, od_law_even, .func (PySem.W.fnOf "_law_even" "_law_even" (defArgs s_law_even) (defBody s_law_even) (defScope s_law_even) .none kV_law_even dc_law_even pm_law_even an_law_even cd_law_even ct_law_even), sl_law_even⟩)
    (c_law_even : PySem.W.codeIn K cd_law_even "_law_even" = true)
    (k_law_even : PySem.W.keepIn K (.ref f_law_even) = true)
    (a_law_roots : PySem.W.nsIn K mainGlobals "_law_roots" = some (some (.ref f_law_roots)))
    (l_law_roots : K.lookup f_law_roots = some ⟨oc_law_roots, od_law_roots, .func (PySem.W.fnOf "_law_roots" "_law_roots" (defArgs s_law_roots) (defBody s_law_roots) (defScope s_law_roots) .none kV_law_roots dc_law_roots pm_law_roots an_law_roots cd_law_roots ct_law_roots), sl_law_roots⟩)
    (c_law_roots : PySem.W.codeIn K cd_law_roots "_law_roots" = true)
    (k_law_roots : PySem.W.keepIn K (.ref f_law_roots) = true)
    (a_law_rows_text : PySem.W.nsIn K mainGlobals "_law_rows_text" = some (some (.ref f_law_rows_text)))
    (l_law_rows_text : K.lookup f_law_rows_text = some ⟨oc_law_rows_text, od_law_rows_text, .func (PySem.W.fnOf "_law_rows_text" "_law_rows_text" (defArgs s_law_rows_text) (defBody s_law_rows_text) (defScope s_law_rows_text) .none kV_law_rows_text dc_law_rows_text pm_law_rows_text an_law_rows_text cd_law_rows_text ct_law_rows_text), sl_law_rows_text⟩)
    (c_law_rows_text : PySem.W.codeIn K cd_law_rows_text "_law_rows_text" = true)
    (k_law_rows_text : PySem.W.keepIn K (.ref f_law_rows_text) = true)
    (a_law : PySem.W.nsIn K mainGlobals "law" = some (some (.ref f_law)))
    (l_law : K.lookup f_law = some ⟨oc_law, od_law, .func (PySem.W.fnOf "law" "law" (defArgs s_law) (defBody s_law) (defScope s_law) .none kV_law dc_law pm_law an_law (.ref cc_law) ct_law), sl_law⟩)
    (c_law : PySem.W.codeIn K (.ref cc_law) "law" = true)
    (k_law : PySem.W.keepIn K (.ref f_law) = true)
    (a_bud_init : PySem.W.findIn K (.ref C_BudError) "__init__" = some (some (.ref f_bud_init)))
    (l_bud_init : K.lookup f_bud_init = some ⟨oc_bud_init, od_bud_init, .func (PySem.W.fnOf "__init__" "BudError.__init__" (defArgs s_bud_init) (defBody s_bud_init) (defScope s_bud_init) .none kV_bud_init dc_bud_init pm_bud_init an_bud_init cd_bud_init ct_bud_init), sl_bud_init⟩)
    (c_bud_init : PySem.W.codeIn K cd_bud_init "BudError.__init__" = true)
    (k_bud_init : PySem.W.keepIn K (.ref f_bud_init) = true)
    (a_bad_init : PySem.W.findIn K (.ref C_BadTable) "__init__" = some (some (.ref f_bad_init)))
    (l_bad_init : K.lookup f_bad_init = some ⟨oc_bad_init, od_bad_init, .func (PySem.W.fnOf "__init__" "BadTable.__init__" (defArgs s_bad_init) (defBody s_bad_init) (defScope s_bad_init) .none kV_bad_init dc_bad_init pm_bad_init an_bad_init cd_bad_init ct_bad_init), sl_bad_init⟩)
    (c_bad_init : PySem.W.codeIn K cd_bad_init "BadTable.__init__" = true)
    (k_bad_init : PySem.W.keepIn K (.ref f_bad_init) = true)
    (a_unev_init : PySem.W.findIn K (.ref C_Uneven) "__init__" = some (some (.ref f_unev_init)))
    (l_unev_init : K.lookup f_unev_init = some ⟨oc_unev_init, od_unev_init, .func (PySem.W.fnOf "__init__" "Uneven.__init__" (defArgs s_uneven_init) (defBody s_uneven_init) (defScope s_uneven_init) .none kV_unev_init dc_unev_init pm_unev_init an_unev_init cd_unev_init ct_unev_init), sl_unev_init⟩)
    (c_unev_init : PySem.W.codeIn K cd_unev_init "Uneven.__init__" = true)
    (k_unev_init : PySem.W.keepIn K (.ref f_unev_init) = true)
    (a_text_init : PySem.W.findIn K (.ref C_BadText) "__init__" = some (some (.ref f_text_init)))
    (l_text_init : K.lookup f_text_init = some ⟨oc_text_init, od_text_init, .func (PySem.W.fnOf "__init__" "BadText.__init__" (defArgs s_text_init) (defBody s_text_init) (defScope s_text_init) .none kV_text_init dc_text_init pm_text_init an_text_init cd_text_init ct_text_init), sl_text_init⟩)
    (c_text_init : PySem.W.codeIn K cd_text_init "BadText.__init__" = true)
    (k_text_init : PySem.W.keepIn K (.ref f_text_init) = true)
    (z_len : PySem.W.nsIn K mainGlobals "len" = some none)
    (z_range : PySem.W.nsIn K mainGlobals "range" = some none)
    (z_zip : PySem.W.nsIn K mainGlobals "zip" = some none)
    (z_abs : PySem.W.nsIn K mainGlobals "abs" = some none)
    (z_all : PySem.W.nsIn K mainGlobals "all" = some none)
    (z_any : PySem.W.nsIn K mainGlobals "any" = some none)
    (z_sorted : PySem.W.nsIn K mainGlobals "sorted" = some none)
    (z_isinstance : PySem.W.nsIn K mainGlobals "isinstance" = some none)
    (z_int : PySem.W.nsIn K mainGlobals "int" = some none)
    (z_bool : PySem.W.nsIn K mainGlobals "bool" = some none)
    (z_tuple : PySem.W.nsIn K mainGlobals "tuple" = some none)
    (z_list : PySem.W.nsIn K mainGlobals "list" = some none)
    (z_dict : PySem.W.nsIn K mainGlobals "dict" = some none)
    (z_str : PySem.W.nsIn K mainGlobals "str" = some none)
    (z_ValueError : PySem.W.nsIn K mainGlobals "ValueError" = some none)
    (i_MOST_TIE : PySem.W.nsIn K mainGlobals "MOST_TIE" = some (some (.int 50 t_MOST_TIE)))
    (i_MOST_BUDS : PySem.W.nsIn K mainGlobals "MOST_BUDS" = some (some (.int 4 t_MOST_BUDS)))
    (i_MOST_ROOTS : PySem.W.nsIn K mainGlobals "MOST_ROOTS" = some (some (.int 4 t_MOST_ROOTS)))
    (i_MOST_FIGURES : PySem.W.nsIn K mainGlobals "MOST_FIGURES" = some (some (.int 6 t_MOST_FIGURES)))
    (i_FIGURES : PySem.W.nsIn K mainGlobals "FIGURES" = some (some (.str "0123456789" t_FIGURES)))
    (sg : PySem.W.specialIn K (.ref C_BudError) "__getattribute__" = some (some (.builtin "type.__getattribute__")))
    (tyB : PySem.W.typeIn K (.ref C_BudError) = some (.type "type"))
    (rdB : PySem.W.readsIn K C_BudError (.type "type") = true)
    (fcB : PySem.W.findCls K (.ref C_BudError) (.type "type") "__init__" = some (.val (.ref f_bud_init)))
    (vv : PySem.W.findCls K (.type "ValueError") (.type "type") "__init__" = some (.val (.builtin "ValueError.__init__")))
    (eB : PySem.W.subIn K (.ref C_BudError) (.type "BaseException") = some true)
    (hB : PySem.W.hasDictIn K C_BudError = true)
    (xL_BadTable : K.lookup C_BadTable = some (excClassObj nm_BadTable q_BadTable C_BadTable N_BadTable bs_BadTable [.ref C_BudError, .type "ValueError", .type "Exception", .type "BaseException", .type "object"] true sn_BadTable sub_BadTable ab_BadTable col_BadTable dd_BadTable m0_BadTable m1_BadTable m2_BadTable m3_BadTable m5_BadTable "ValueError.__new__"))
    (sa_BadTable : PySem.W.findIn K (.ref C_BadTable) "__setattr__" = some (some (.builtin "object.__setattr__")))
    (ga_BadTable : PySem.W.findIn K (.ref C_BadTable) "__getattribute__" = some (some (.builtin "BaseException.__getattribute__")))
    (gg_BadTable : PySem.W.findIn K (.ref C_BadTable) "__getattr__" = some none)
    (nw_BadTable : PySem.W.findIn K (.ref C_BadTable) "word" = some none)
    (tI_BadTable : PySem.W.typeIn K (.ref f_bad_init) = some (.type "function"))
    (kC_BadTable : PySem.W.keepIn K (.ref C_BadTable) = true)
    (eC_BadTable : PySem.W.subIn K (.ref C_BadTable) (.type "BaseException") = some true)
    (tC_BadTable : PySem.W.typeIn K (.ref C_BadTable) = some (.type "type"))
    (hC_BadTable : PySem.W.hasDictIn K C_BadTable = true)
    (sC_BadTable : PySem.W.subIn K (.ref C_BadTable) (.ref C_BudError) = some true)
    (xL_Uneven : K.lookup C_Uneven = some (excClassObj nm_Uneven q_Uneven C_Uneven N_Uneven bs_Uneven [.ref C_BudError, .type "ValueError", .type "Exception", .type "BaseException", .type "object"] true sn_Uneven sub_Uneven ab_Uneven col_Uneven dd_Uneven m0_Uneven m1_Uneven m2_Uneven m3_Uneven m5_Uneven "ValueError.__new__"))
    (sa_Uneven : PySem.W.findIn K (.ref C_Uneven) "__setattr__" = some (some (.builtin "object.__setattr__")))
    (ga_Uneven : PySem.W.findIn K (.ref C_Uneven) "__getattribute__" = some (some (.builtin "BaseException.__getattribute__")))
    (gg_Uneven : PySem.W.findIn K (.ref C_Uneven) "__getattr__" = some none)
    (nw_Uneven : PySem.W.findIn K (.ref C_Uneven) "word" = some none)
    (tI_Uneven : PySem.W.typeIn K (.ref f_unev_init) = some (.type "function"))
    (kC_Uneven : PySem.W.keepIn K (.ref C_Uneven) = true)
    (eC_Uneven : PySem.W.subIn K (.ref C_Uneven) (.type "BaseException") = some true)
    (tC_Uneven : PySem.W.typeIn K (.ref C_Uneven) = some (.type "type"))
    (hC_Uneven : PySem.W.hasDictIn K C_Uneven = true)
    (sC_Uneven : PySem.W.subIn K (.ref C_Uneven) (.ref C_BudError) = some true)
    (nf_Uneven : PySem.W.findIn K (.ref C_Uneven) "ring" = some none)
    (xL_BadText : K.lookup C_BadText = some (excClassObj nm_BadText q_BadText C_BadText N_BadText bs_BadText [.ref C_BudError, .type "ValueError", .type "Exception", .type "BaseException", .type "object"] true sn_BadText sub_BadText ab_BadText col_BadText dd_BadText m0_BadText m1_BadText m2_BadText m3_BadText m5_BadText "ValueError.__new__"))
    (sa_BadText : PySem.W.findIn K (.ref C_BadText) "__setattr__" = some (some (.builtin "object.__setattr__")))
    (ga_BadText : PySem.W.findIn K (.ref C_BadText) "__getattribute__" = some (some (.builtin "BaseException.__getattribute__")))
    (gg_BadText : PySem.W.findIn K (.ref C_BadText) "__getattr__" = some none)
    (nw_BadText : PySem.W.findIn K (.ref C_BadText) "word" = some none)
    (tI_BadText : PySem.W.typeIn K (.ref f_text_init) = some (.type "function"))
    (kC_BadText : PySem.W.keepIn K (.ref C_BadText) = true)
    (eC_BadText : PySem.W.subIn K (.ref C_BadText) (.type "BaseException") = some true)
    (tC_BadText : PySem.W.typeIn K (.ref C_BadText) = some (.type "type"))
    (hC_BadText : PySem.W.hasDictIn K C_BadText = true)
    (sC_BadText : PySem.W.subIn K (.ref C_BadText) (.ref C_BudError) = some true)
    (nf_BadText : PySem.W.findIn K (.ref C_BadText) "at" = some none)
    (sl_BadText : PySem.W.subIn K (.ref C_BadText) (.ref C_BadText) = some true)
    (cl_law : K.lookup cc_law = some ⟨oc2, od2, .fields vs_law, sl2⟩)
    (v11 : vs_law[11]? = some (.ref Pt))
    (hd_law : PySem.W.codeHdIn K cc_law Pt = true)
    (nP : K.lookup Pt = none)
    : LamX.LawAtS l w K CX0 10 63 "_law_script" mg fa h := by
  have e := hfa.symm.trans (PySem.W.mg_of X G a_law)
  cases e
  have T : Tx mg := { len := PySem.W.mg_none_of X G z_len, range := PySem.W.mg_none_of X G z_range, zip := PySem.W.mg_none_of X G z_zip, abs := PySem.W.mg_none_of X G z_abs, all := PySem.W.mg_none_of X G z_all, any := PySem.W.mg_none_of X G z_any, sorted := PySem.W.mg_none_of X G z_sorted, isinstance := PySem.W.mg_none_of X G z_isinstance, int := PySem.W.mg_none_of X G z_int, bool := PySem.W.mg_none_of X G z_bool, tuple := PySem.W.mg_none_of X G z_tuple, list := PySem.W.mg_none_of X G z_list, dict := PySem.W.mg_none_of X G z_dict, str := PySem.W.mg_none_of X G z_str, ValueError := PySem.W.mg_none_of X G z_ValueError, MOST_TIE := ⟨_, PySem.W.mg_of X G i_MOST_TIE⟩, MOST_BUDS := ⟨_, PySem.W.mg_of X G i_MOST_BUDS⟩, MOST_ROOTS := ⟨_, PySem.W.mg_of X G i_MOST_ROOTS⟩, MOST_FIGURES := ⟨_, PySem.W.mg_of X G i_MOST_FIGURES⟩, FIGURES := ⟨_, PySem.W.mg_of X G i_FIGURES⟩ }
  have F_is_number := fun_mk (st := s_is_number) l_is_number c_is_number k_is_number
  have b_is_number := F_is_number.binds (ps := ["thing"]) fun _ _ _ _ _ _ us hl => match us, hl with | [_], _ => rfl
  have F_leading_figures := fun_mk (st := s_leading_figures) l_leading_figures c_leading_figures k_leading_figures
  have b_leading_figures := F_leading_figures.binds (ps := ["text", "at"]) fun _ _ _ _ _ _ us hl => match us, hl with | [_, _], _ => rfl
  have F_read_number := fun_mk (st := s_read_number) l_read_number c_read_number k_read_number
  have b_read_number := F_read_number.binds (ps := ["text", "most"]) fun _ _ _ _ _ _ us hl => match us, hl with | [_, _], _ => rfl
  have F_row_text := fun_mk (st := s_row_text) l_row_text c_row_text k_row_text
  have b_row_text := F_row_text.binds (ps := ["numbers"]) fun _ _ _ _ _ _ us hl => match us, hl with | [_], _ => rfl
  have F_read_row := fun_mk (st := s_read_row) l_read_row c_read_row k_read_row
  have b_read_row := F_read_row.binds (ps := ["text"]) fun _ _ _ _ _ _ us hl => match us, hl with | [_], _ => rfl
  have F_rows_text := fun_mk (st := s_rows_text) l_rows_text c_rows_text k_rows_text
  have b_rows_text := F_rows_text.binds (ps := ["rows"]) fun _ _ _ _ _ _ us hl => match us, hl with | [_], _ => rfl
  have F_read_rows := fun_mk (st := s_read_rows) l_read_rows c_read_rows k_read_rows
  have b_read_rows := F_read_rows.binds (ps := ["text"]) fun _ _ _ _ _ _ us hl => match us, hl with | [_], _ => rfl
  have F_is_row := fun_mk (st := s_is_row) l_is_row c_is_row k_is_row
  have b_is_row := F_is_row.binds (ps := ["row", "many"]) fun _ _ _ _ _ _ us hl => match us, hl with | [_, _], _ => rfl
  have F_check_form := fun_mk (st := s_check_form) l_check_form c_check_form k_check_form
  have b_check_form := F_check_form.binds (ps := ["table"]) fun _ _ _ _ _ _ us hl => match us, hl with | [_], _ => rfl
  have F_check_table := fun_mk (st := s_check_table) l_check_table c_check_table k_check_table
  have b_check_table := F_check_table.binds (ps := ["table"]) fun _ _ _ _ _ _ us hl => match us, hl with | [_], _ => rfl
  have F_bud_count := fun_mk (st := s_bud_count) l_bud_count c_bud_count k_bud_count
  have b_bud_count := F_bud_count.binds (ps := ["table"]) fun _ _ _ _ _ _ us hl => match us, hl with | [_], _ => rfl
  have F_unlike_rows := fun_mk (st := s_unlike_rows) l_unlike_rows c_unlike_rows k_unlike_rows
  have b_unlike_rows := F_unlike_rows.binds (ps := ["many", "length"]) fun _ _ _ _ _ _ us hl => match us, hl with | [_, _], _ => rfl
  have F_pair_bars := fun_mk (st := s_pair_bars) l_pair_bars c_pair_bars k_pair_bars
  have b_pair_bars := F_pair_bars.binds (ps := ["table", "i", "j"]) fun _ _ _ _ _ _ us hl => match us, hl with | [_, _, _], _ => rfl
  have F_ring_bars := fun_mk (st := s_ring_bars) l_ring_bars c_ring_bars k_ring_bars
  have b_ring_bars := F_ring_bars.binds (ps := ["table", "ring"]) fun _ _ _ _ _ _ us hl => match us, hl with | [_, _], _ => rfl
  have F_barred := fun_mk (st := s_barred) l_barred c_barred k_barred
  have b_barred := F_barred.binds (ps := ["table"]) fun _ _ _ _ _ _ us hl => match us, hl with | [_], _ => rfl
  have F_table_text := fun_mk (st := s_table_text) l_table_text c_table_text k_table_text
  have b_table_text := F_table_text.binds (ps := ["table"]) fun _ _ _ _ _ _ us hl => match us, hl with | [_], _ => rfl
  have F_read_table := fun_mk (st := s_read_table) l_read_table c_read_table k_read_table
  have b_read_table := F_read_table.binds (ps := ["text"]) fun _ _ _ _ _ _ us hl => match us, hl with | [_], _ => rfl
  have F_law_feed := fun_mk (st := s_law_feed) l_law_feed c_law_feed k_law_feed
  have b_law_feed := F_law_feed.binds (ps := ["_law_script"]) fun _ _ _ _ _ _ us hl => match us, hl with | [_], _ => rfl
  have F_law_draw := fun_mk (st := s_law_draw) l_law_draw c_law_draw k_law_draw
  have b_law_draw := F_law_draw.binds (ps := ["_law_feed_here", "_law_many"]) fun _ _ _ _ _ _ us hl => match us, hl with | [_, _], _ => rfl
  have F_law_pick := fun_mk (st := s_law_pick) l_law_pick c_law_pick k_law_pick
  have b_law_pick := F_law_pick.binds (ps := ["_law_feed_here", "_law_row"]) fun _ _ _ _ _ _ us hl => match us, hl with | [_, _], _ => rfl
  have F_law_same := fun_mk (st := s_law_same) l_law_same c_law_same k_law_same
  have b_law_same := F_law_same.binds (ps := ["_law_found", "_law_due"]) fun _ _ _ _ _ _ us hl => match us, hl with | [_, _], _ => rfl
  have F_law_word := fun_mk (st := s_law_word) l_law_word c_law_word k_law_word
  have b_law_word := F_law_word.binds (ps := ["_law_asked"]) fun _ _ _ _ _ _ us hl => match us, hl with | [_], _ => rfl
  have F_law_gcd := fun_mk (st := s_law_gcd) l_law_gcd c_law_gcd k_law_gcd
  have b_law_gcd := F_law_gcd.binds (ps := ["_law_one", "_law_other"]) fun _ _ _ _ _ _ us hl => match us, hl with | [_, _], _ => rfl
  have F_law_even := fun_mk (st := s_law_even) l_law_even c_law_even k_law_even
  have b_law_even := F_law_even.binds (ps := ["_law_feed_here", "_law_many", "_law_reach"]) fun _ _ _ _ _ _ us hl => match us, hl with | [_, _, _], _ => rfl
  have F_law_roots := fun_mk (st := s_law_roots) l_law_roots c_law_roots k_law_roots
  have b_law_roots := F_law_roots.binds (ps := ["_law_feed_here", "_law_ties", "_law_most", "_law_reach"]) fun _ _ _ _ _ _ us hl => match us, hl with | [_, _, _, _], _ => rfl
  have F_law_rows_text := fun_mk (st := s_law_rows_text) l_law_rows_text c_law_rows_text k_law_rows_text
  have b_law_rows_text := F_law_rows_text.binds (ps := ["_law_rows"]) fun _ _ _ _ _ _ us hl => match us, hl with | [_], _ => rfl
  have F_law := fun_mk (st := s_law) l_law c_law k_law
  have F_bud_init := fun_mk (st := s_bud_init) l_bud_init c_bud_init k_bud_init
  have b_bud_init := F_bud_init.binds (ps := ["self", "word"]) fun _ _ _ _ _ _ us hl => match us, hl with | [_, _], _ => rfl
  have F_bad_init := fun_mk (st := s_bad_init) l_bad_init c_bad_init k_bad_init
  have b_bad_init := F_bad_init.binds (ps := ["self"]) fun _ _ _ _ _ _ us hl => match us, hl with | [_], _ => rfl
  have F_unev_init := fun_mk (st := s_uneven_init) l_unev_init c_unev_init k_unev_init
  have b_unev_init := F_unev_init.binds (ps := ["self", "ring"]) fun _ _ _ _ _ _ us hl => match us, hl with | [_, _], _ => rfl
  have F_text_init := fun_mk (st := s_text_init) l_text_init c_text_init k_text_init
  have b_text_init := F_text_init.binds (ps := ["self", "at"]) fun _ _ _ _ _ _ us hl => match us, hl with | [_, _], _ => rfl
  have g_is_number := PySem.W.mg_of X G a_is_number
  have g_leading_figures := PySem.W.mg_of X G a_leading_figures
  have g_read_number := PySem.W.mg_of X G a_read_number
  have g_row_text := PySem.W.mg_of X G a_row_text
  have g_read_row := PySem.W.mg_of X G a_read_row
  have g_rows_text := PySem.W.mg_of X G a_rows_text
  have g_read_rows := PySem.W.mg_of X G a_read_rows
  have g_is_row := PySem.W.mg_of X G a_is_row
  have g_check_form := PySem.W.mg_of X G a_check_form
  have g_check_table := PySem.W.mg_of X G a_check_table
  have g_bud_count := PySem.W.mg_of X G a_bud_count
  have g_unlike_rows := PySem.W.mg_of X G a_unlike_rows
  have g_pair_bars := PySem.W.mg_of X G a_pair_bars
  have g_ring_bars := PySem.W.mg_of X G a_ring_bars
  have g_barred := PySem.W.mg_of X G a_barred
  have g_table_text := PySem.W.mg_of X G a_table_text
  have g_read_table := PySem.W.mg_of X G a_read_table
  have g_law_feed := PySem.W.mg_of X G a_law_feed
  have g_law_draw := PySem.W.mg_of X G a_law_draw
  have g_law_pick := PySem.W.mg_of X G a_law_pick
  have g_law_same := PySem.W.mg_of X G a_law_same
  have g_law_word := PySem.W.mg_of X G a_law_word
  have g_law_gcd := PySem.W.mg_of X G a_law_gcd
  have g_law_even := PySem.W.mg_of X G a_law_even
  have g_law_roots := PySem.W.mg_of X G a_law_roots
  have g_law_rows_text := PySem.W.mg_of X G a_law_rows_text
  have g_law := PySem.W.mg_of X G a_law
  have TB : ClsFn K mg "BudError" "__init__" C_BudError f_bud_init := ⟨PySem.W.mg_of X G a_BudError, sg, tyB, rdB, fcB, k_bud_init⟩
  have ox_BadTable : OexC K C_BadTable := ⟨⟨nm_BadTable, q_BadTable, N_BadTable, bs_BadTable, _, sn_BadTable, sub_BadTable, ab_BadTable, col_BadTable, dd_BadTable, m0_BadTable, m1_BadTable, m2_BadTable, m3_BadTable, m5_BadTable, xL_BadTable, rfl⟩, sa_BadTable, eC_BadTable, tC_BadTable, kC_BadTable⟩
  have T_BadTable : ErrC K mg "BadTable" C_BadTable f_bad_init C_BudError := ⟨PySem.W.mg_of X G a_BadTable, ox_BadTable, a_bad_init, tI_BadTable, nw_BadTable, ⟨ga_BadTable, gg_BadTable, eC_BadTable, hC_BadTable⟩, PySem.W.exm_ref eB hB tyB sC_BadTable⟩
  have ox_Uneven : OexC K C_Uneven := ⟨⟨nm_Uneven, q_Uneven, N_Uneven, bs_Uneven, _, sn_Uneven, sub_Uneven, ab_Uneven, col_Uneven, dd_Uneven, m0_Uneven, m1_Uneven, m2_Uneven, m3_Uneven, m5_Uneven, xL_Uneven, rfl⟩, sa_Uneven, eC_Uneven, tC_Uneven, kC_Uneven⟩
  have T_Uneven : ErrC K mg "Uneven" C_Uneven f_unev_init C_BudError := ⟨PySem.W.mg_of X G a_Uneven, ox_Uneven, a_unev_init, tI_Uneven, nw_Uneven, ⟨ga_Uneven, gg_Uneven, eC_Uneven, hC_Uneven⟩, PySem.W.exm_ref eB hB tyB sC_Uneven⟩
  have ox_BadText : OexC K C_BadText := ⟨⟨nm_BadText, q_BadText, N_BadText, bs_BadText, _, sn_BadText, sub_BadText, ab_BadText, col_BadText, dd_BadText, m0_BadText, m1_BadText, m2_BadText, m3_BadText, m5_BadText, xL_BadText, rfl⟩, sa_BadText, eC_BadText, tC_BadText, kC_BadText⟩
  have T_BadText : ErrC K mg "BadText" C_BadText f_text_init C_BudError := ⟨PySem.W.mg_of X G a_BadText, ox_BadText, a_text_init, tI_BadText, nw_BadText, ⟨ga_BadText, gg_BadText, eC_BadText, hC_BadText⟩, PySem.W.exm_ref eB hB tyB sC_BadText⟩
  have te_BadText : PySem.W.exmOne K (.ref C_BadText) (.ref C_BadText) = some true := PySem.W.exm_ref eC_BadText hC_BadText tC_BadText sl_BadText
  have hcs : ∀ p ∈ [(cc_law, Pt)], p = (cc_law, Pt) := fun p hp => List.mem_singleton.mp hp
  refine ⟨PySem.W.fnOf "law" "law" (defArgs s_law) (defBody s_law) (defScope s_law) .none kV_law dc_law pm_law an_law (.ref cc_law) ct_law, [(cc_law, Pt)], spLaw K Pt, fun p hp => ?_, fun p hp => ?_, fun p hp => ?_, fun s v => .of_eq rfl, fun H a ns hl _ hT hS => ⟨a, ns, rfl, hS, hl, hT _ (List.mem_singleton.mpr rfl), fun _ => rfl⟩, fun base _ _ TBs => ?_⟩
  · rw [hcs p hp]
    exact own cc_law Pt _ _ _ _ _ _ l_law rfl rfl cl_law v11
  · rw [hcs p hp]
    exact nP
  · rw [hcs p hp]
    exact PySem.W.codeHd_of_K X hd_law
  have FBI : FnOk l.prog w K mg base CX0 1 f_bud_init _ ["self", "word"] (spBudInit K) := ok_budinit F_bud_init T vv
  have FT : FnOk l.prog w K mg base CX0 2 f_bad_init _ ["self"] (spErrInit K "bad table") := ok_badinit F_bad_init T TB FBI b_bud_init
  have FU : FnOk l.prog w K mg base CX0 2 f_unev_init _ ["self", "ring"] (spErrInit1 K "uneven" "ring") := ok_unevinit F_unev_init T TB FBI b_bud_init
  have FX : FnOk l.prog w K mg base CX0 2 f_text_init _ ["self", "at"] (spErrInit1 K "bad text" "at") := ok_textinit F_text_init T TB FBI b_bud_init
  have cDraw : Cal l.prog w K mg base CX0 1 "_law_draw" ["_law_feed_here", "_law_many"] spDraw := ⟨_, _, ok_draw F_law_draw T, g_law_draw, k_law_draw, b_law_draw⟩
  have cFeed : Cal l.prog w K mg base CX0 1 "_law_feed" ["_law_script"] (spFeed K) := ⟨_, _, ok_feed F_law_feed T, g_law_feed, k_law_feed, b_law_feed⟩
  have cPick : Cal l.prog w K mg base CX0 2 "_law_pick" ["_law_feed_here", "_law_row"] spPick := ⟨_, _, ok_pick (j := 0) F_law_pick T cDraw, g_law_pick, k_law_pick, b_law_pick⟩
  have cSame : Cal l.prog w K mg base CX0 5 "_law_same" ["_law_found", "_law_due"] (spSame 4) := ⟨_, _, ok_same F_law_same T g_law_same b_law_same 4, g_law_same, k_law_same, b_law_same⟩
  have cGcd : Cal l.prog w K mg base CX0 1 "_law_gcd" ["_law_one", "_law_other"] spGcd := ⟨_, _, ok_gcd F_law_gcd T, g_law_gcd, k_law_gcd, b_law_gcd⟩
  have cEven : Cal l.prog w K mg base CX0 3 "_law_even" ["_law_feed_here", "_law_many", "_law_reach"] spEven := ⟨_, _, ok_even (k := 0) F_law_even T cDraw cPick cGcd, g_law_even, k_law_even, b_law_even⟩
  have cRoots : Cal l.prog w K mg base CX0 2 "_law_roots" ["_law_feed_here", "_law_ties", "_law_most", "_law_reach"] spRoots := ⟨_, _, ok_roots (k := 0) F_law_roots T cDraw, g_law_roots, k_law_roots, b_law_roots⟩
  have cLText : Cal l.prog w K mg base CX0 1 "_law_rows_text" ["_law_rows"] spRowsText := ⟨_, _, ok_lrowstext F_law_rows_text T, g_law_rows_text, k_law_rows_text, b_law_rows_text⟩
  have cNum : Cal l.prog w K mg base CX0 1 "is_number" ["thing"] spIsNum := ⟨_, _, ok_isnum F_is_number T, g_is_number, k_is_number, b_is_number⟩
  have cRow : Cal l.prog w K mg base CX0 2 "is_row" ["row", "many"] spIsRowG := ⟨_, _, ok_isrowG F_is_row T cNum, g_is_row, k_is_row, b_is_row⟩
  have cForm : CalX l.prog w K mg base 4 "check_form" ["table"] (spFormG C_BadTable) := ⟨_, _, ok_formG F_check_form T T_BadTable FT b_bad_init cRow, g_check_form, k_check_form, b_check_form⟩
  have cBuds : Cal l.prog w K mg base CX0 1 "bud_count" ["table"] spBuds := ⟨_, _, ok_buds F_bud_count T, g_bud_count, k_bud_count, b_bud_count⟩
  have cPair : Cal l.prog w K mg base CX0 1 "pair_bars" ["table", "i", "j"] spPairG := ⟨_, _, ok_pairG F_pair_bars T, g_pair_bars, k_pair_bars, b_pair_bars⟩
  have cUnl : Cal l.prog w K mg base CX0 1 "unlike_rows" ["many", "length"] spUnlikeG := ⟨_, _, ok_unlikeG F_unlike_rows T, g_unlike_rows, k_unlike_rows, b_unlike_rows⟩
  have cRing : Cal l.prog w K mg base CX0 1 "ring_bars" ["table", "ring"] spRingG := ⟨_, _, ok_ringG F_ring_bars T, g_ring_bars, k_ring_bars, b_ring_bars⟩
  have cBar : CalX l.prog w K mg base 5 "barred" ["table"] (spBarG C_BadTable) := ⟨_, _, ok_barG F_barred T cForm cBuds cPair cUnl cRing, g_barred, k_barred, b_barred⟩
  have cChk : CalX l.prog w K mg base 6 "check_table" ["table"] (spChkG K C_BudError) := ⟨_, _, ok_chkG F_check_table T T_BadTable T_Uneven nf_Uneven FU b_unev_init cBar, g_check_table, k_check_table, b_check_table⟩
  have cRT : Cal l.prog w K mg base CX0 1 "row_text" ["numbers"] spRowText := ⟨_, _, ok_rowtext F_row_text T, g_row_text, k_row_text, b_row_text⟩
  have cRsT : Cal l.prog w K mg base CX0 2 "rows_text" ["rows"] spRowsText := ⟨_, _, ok_rowstext F_rows_text T cRT, g_rows_text, k_rows_text, b_rows_text⟩
  have cTT : CalX l.prog w K mg base 7 "table_text" ["table"] spTabText := ⟨_, _, ok_tabtext F_table_text T cChk cRsT, g_table_text, k_table_text, b_table_text⟩
  have cLead : Cal l.prog w K mg base CX0 1 "leading_figures" ["text", "at"] spLead := ⟨_, _, ok_lead F_leading_figures T, g_leading_figures, k_leading_figures, b_leading_figures⟩
  have cRN : Cal l.prog w K mg base CX0 2 "read_number" ["text", "most"] spReadN := ⟨_, _, ok_readnum F_read_number T cLead, g_read_number, k_read_number, b_read_number⟩
  have cRR : Cal l.prog w K mg base CX0 3 "read_row" ["text"] spReadRow := ⟨_, _, ok_readrow F_read_row T cRN, g_read_row, k_read_row, b_read_row⟩
  have cRRs : Cal l.prog w K mg base CX0 4 "read_rows" ["text"] spReadRows := ⟨_, _, ok_readrows F_read_rows T cRR, g_read_rows, k_read_rows, b_read_rows⟩
  have FR : FnOk l.prog w K mg base (L2.CX l.prog w) 7 f_read_table _ ["text"] (spReadTab K C_BudError C_BadText) := ok_readtab F_read_table T T_BadText nf_BadText FX b_text_init cChk cRRs
  have cRd : CalX l.prog w K mg base 7 "read_table" ["text"] (spReadV K C_BudError) := ⟨_, _, FR.imp (readV_of T_BadText), g_read_table, k_read_table, b_read_table⟩
  exact ok_law l_law c_law T T_BadText nf_BadText te_BadText cFeed cDraw cPick cSame cEven cRoots cLText cTT cRd FR g_read_table k_read_table b_read_table ⟨F_law_word, g_law_word, b_law_word, PySem.W.mg_of X G a_BudError, TBs _ (List.mem_singleton.mpr rfl)⟩
end Bw
open PySem PySem.W PyProof.Rows
set_option maxRecDepth 100000 in
set_option maxHeartbeats 0 in
theorem PySem.Challenge.cw_budwright_k16_tables_written_and_read_holds : PySem.Challenge.rw_budwright_k16_tables_written_and_read.Holds := by
  w_on; o_law; k_head; (case hw => w_witness2)
  k_fill
  refine LamX.walk_ofOwn (l := PySem.Challenge.rw_budwright_k16_tables_written_and_read) (n := 63) (k := 10) (x := "_law_script") (CX := fun _ => L2.CX0) rfl (by decide) rfl ⟨rfl, by decide, by decide⟩ (by first | rfl | decide +kernel) (fun w h Y => by first | exact PySem.W.km_in_of Y | exact PySem.W.kIn_of Y) ?F (fun _ _ _ _ _ h => h)
  case F =>
    intro w mg fa h YP KX G hmg own
    refine' Bw.all_mk KX G hmg own ?a_BudError ?a_BadTable ?a_Uneven ?a_BadText ?a_is_number ?l_is_number ?c_is_number ?k_is_number ?a_leading_figures ?l_leading_figures ?c_leading_figures ?k_leading_figures ?a_read_number ?l_read_number ?c_read_number ?k_read_number ?a_row_text ?l_row_text ?c_row_text ?k_row_text ?a_read_row ?l_read_row ?c_read_row ?k_read_row ?a_rows_text ?l_rows_text ?c_rows_text ?k_rows_text ?a_read_rows ?l_read_rows ?c_read_rows ?k_read_rows ?a_is_row ?l_is_row ?c_is_row ?k_is_row ?a_check_form ?l_check_form ?c_check_form ?k_check_form ?a_check_table ?l_check_table ?c_check_table ?k_check_table ?a_bud_count ?l_bud_count ?c_bud_count ?k_bud_count ?a_unlike_rows ?l_unlike_rows ?c_unlike_rows ?k_unlike_rows ?a_pair_bars ?l_pair_bars ?c_pair_bars ?k_pair_bars ?a_ring_bars ?l_ring_bars ?c_ring_bars ?k_ring_bars ?a_barred ?l_barred ?c_barred ?k_barred ?a_table_text ?l_table_text ?c_table_text ?k_table_text ?a_read_table ?l_read_table ?c_read_table ?k_read_table ?a_law_feed ?l_law_feed ?c_law_feed ?k_law_feed ?a_law_draw ?l_law_draw ?c_law_draw ?k_law_draw ?a_law_pick ?l_law_pick ?c_law_pick ?k_law_pick ?a_law_same ?l_law_same ?c_law_same ?k_law_same ?a_law_word ?l_law_word ?c_law_word ?k_law_word ?a_law_gcd ?l_law_gcd ?c_law_gcd ?k_law_gcd ?a_law_even ?l_law_even ?c_law_even ?k_law_even ?a_law_roots ?l_law_roots ?c_law_roots ?k_law_roots ?a_law_rows_text ?l_law_rows_text ?c_law_rows_text ?k_law_rows_text ?a_law ?l_law ?c_law ?k_law ?a_bud_init ?l_bud_init ?c_bud_init ?k_bud_init ?a_bad_init ?l_bad_init ?c_bad_init ?k_bad_init ?a_unev_init ?l_unev_init ?c_unev_init ?k_unev_init ?a_text_init ?l_text_init ?c_text_init ?k_text_init ?z_len ?z_range ?z_zip ?z_abs ?z_all ?z_any ?z_sorted ?z_isinstance ?z_int ?z_bool ?z_tuple ?z_list ?z_dict ?z_str ?z_ValueError ?i_MOST_TIE ?i_MOST_BUDS ?i_MOST_ROOTS ?i_MOST_FIGURES ?i_FIGURES ?sg ?tyB ?rdB ?fcB ?vv ?eB ?hB ?xL_BadTable ?sa_BadTable ?ga_BadTable ?gg_BadTable ?nw_BadTable ?tI_BadTable ?kC_BadTable ?eC_BadTable ?tC_BadTable ?hC_BadTable ?sC_BadTable ?xL_Uneven ?sa_Uneven ?ga_Uneven ?gg_Uneven ?nw_Uneven ?tI_Uneven ?kC_Uneven ?eC_Uneven ?tC_Uneven ?hC_Uneven ?sC_Uneven ?nf_Uneven ?xL_BadText ?sa_BadText ?ga_BadText ?gg_BadText ?nw_BadText ?tI_BadText ?kC_BadText ?eC_BadText ?tC_BadText ?hC_BadText ?sC_BadText ?nf_BadText ?sl_BadText ?cl_law ?v11 ?hd_law ?nP
    (case a_BudError => k_is)
    (case a_BadTable => k_is)
    (case a_Uneven => k_is)
    (case a_BadText => k_is)
    (case a_is_number => k_is)
    (case l_is_number => k_is)
    (case c_is_number => k_is)
    (case k_is_number => k_is)
    (case a_leading_figures => k_is)
    (case l_leading_figures => k_is)
    (case c_leading_figures => k_is)
    (case k_leading_figures => k_is)
    (case a_read_number => k_is)
    (case l_read_number => k_is)
    (case c_read_number => k_is)
    (case k_read_number => k_is)
    (case a_row_text => k_is)
    (case l_row_text => k_is)
    (case c_row_text => k_is)
    (case k_row_text => k_is)
    (case a_read_row => k_is)
    (case l_read_row => k_is)
    (case c_read_row => k_is)
    (case k_read_row => k_is)
    (case a_rows_text => k_is)
    (case l_rows_text => k_is)
    (case c_rows_text => k_is)
    (case k_rows_text => k_is)
    (case a_read_rows => k_is)
    (case l_read_rows => k_is)
    (case c_read_rows => k_is)
    (case k_read_rows => k_is)
    (case a_is_row => k_is)
    (case l_is_row => k_is)
    (case c_is_row => k_is)
    (case k_is_row => k_is)
    (case a_check_form => k_is)
    (case l_check_form => k_is)
    (case c_check_form => k_is)
    (case k_check_form => k_is)
    (case a_check_table => k_is)
    (case l_check_table => k_is)
    (case c_check_table => k_is)
    (case k_check_table => k_is)
    (case a_bud_count => k_is)
    (case l_bud_count => k_is)
    (case c_bud_count => k_is)
    (case k_bud_count => k_is)
    (case a_unlike_rows => k_is)
    (case l_unlike_rows => k_is)
    (case c_unlike_rows => k_is)
    (case k_unlike_rows => k_is)
    (case a_pair_bars => k_is)
    (case l_pair_bars => k_is)
    (case c_pair_bars => k_is)
    (case k_pair_bars => k_is)
    (case a_ring_bars => k_is)
    (case l_ring_bars => k_is)
    (case c_ring_bars => k_is)
    (case k_ring_bars => k_is)
    (case a_barred => k_is)
    (case l_barred => k_is)
    (case c_barred => k_is)
    (case k_barred => k_is)
    (case a_table_text => k_is)
    (case l_table_text => k_is)
    (case c_table_text => k_is)
    (case k_table_text => k_is)
    (case a_read_table => k_is)
    (case l_read_table => k_is)
    (case c_read_table => k_is)
    (case k_read_table => k_is)
    (case a_law_feed => k_is)
    (case l_law_feed => k_is)
    (case c_law_feed => k_is)
    (case k_law_feed => k_is)
    (case a_law_draw => k_is)
    (case l_law_draw => k_is)
    (case c_law_draw => k_is)
    (case k_law_draw => k_is)
    (case a_law_pick => k_is)
    (case l_law_pick => k_is)
    (case c_law_pick => k_is)
    (case k_law_pick => k_is)
    (case a_law_same => k_is)
    (case l_law_same => k_is)
    (case c_law_same => k_is)
    (case k_law_same => k_is)
    (case a_law_word => k_is)
    (case l_law_word => k_is)
    (case c_law_word => k_is)
    (case k_law_word => k_is)
    (case a_law_gcd => k_is)
    (case l_law_gcd => k_is)
    (case c_law_gcd => k_is)
    (case k_law_gcd => k_is)
    (case a_law_even => k_is)
    (case l_law_even => k_is)
    (case c_law_even => k_is)
    (case k_law_even => k_is)
    (case a_law_roots => k_is)
    (case l_law_roots => k_is)
    (case c_law_roots => k_is)
    (case k_law_roots => k_is)
    (case a_law_rows_text => k_is)
    (case l_law_rows_text => k_is)
    (case c_law_rows_text => k_is)
    (case k_law_rows_text => k_is)
    (case a_law => k_is)
    (case l_law => k_is)
    (case c_law => k_is)
    (case k_law => k_is)
    (case a_bud_init => k_is)
    (case l_bud_init => k_is)
    (case c_bud_init => k_is)
    (case k_bud_init => k_is)
    (case a_bad_init => k_is)
    (case l_bad_init => k_is)
    (case c_bad_init => k_is)
    (case k_bad_init => k_is)
    (case a_unev_init => k_is)
    (case l_unev_init => k_is)
    (case c_unev_init => k_is)
    (case k_unev_init => k_is)
    (case a_text_init => k_is)
    (case l_text_init => k_is)
    (case c_text_init => k_is)
    (case k_text_init => k_is)
    (case z_len => k_is)
    (case z_range => k_is)
    (case z_zip => k_is)
    (case z_abs => k_is)
    (case z_all => k_is)
    (case z_any => k_is)
    (case z_sorted => k_is)
    (case z_isinstance => k_is)
    (case z_int => k_is)
    (case z_bool => k_is)
    (case z_tuple => k_is)
    (case z_list => k_is)
    (case z_dict => k_is)
    (case z_str => k_is)
    (case z_ValueError => k_is)
    (case i_MOST_TIE => k_is)
    (case i_MOST_BUDS => k_is)
    (case i_MOST_ROOTS => k_is)
    (case i_MOST_FIGURES => k_is)
    (case i_FIGURES => k_is)
    (case sg => k_is)
    (case tyB => k_is)
    (case rdB => k_is)
    (case fcB => k_is)
    (case vv => k_is)
    (case eB => k_is)
    (case hB => k_is)
    (case xL_BadTable => k_is)
    (case sa_BadTable => k_is)
    (case ga_BadTable => k_is)
    (case gg_BadTable => k_is)
    (case nw_BadTable => k_is)
    (case tI_BadTable => k_is)
    (case kC_BadTable => k_is)
    (case eC_BadTable => k_is)
    (case tC_BadTable => k_is)
    (case hC_BadTable => k_is)
    (case sC_BadTable => first | rfl | k_is)
    (case xL_Uneven => k_is)
    (case sa_Uneven => k_is)
    (case ga_Uneven => k_is)
    (case gg_Uneven => k_is)
    (case nw_Uneven => k_is)
    (case tI_Uneven => k_is)
    (case kC_Uneven => k_is)
    (case eC_Uneven => k_is)
    (case tC_Uneven => k_is)
    (case hC_Uneven => k_is)
    (case sC_Uneven => first | rfl | k_is)
    (case nf_Uneven => k_is)
    (case xL_BadText => k_is)
    (case sa_BadText => k_is)
    (case ga_BadText => k_is)
    (case gg_BadText => k_is)
    (case nw_BadText => k_is)
    (case tI_BadText => k_is)
    (case kC_BadText => k_is)
    (case eC_BadText => k_is)
    (case tC_BadText => k_is)
    (case hC_BadText => k_is)
    (case sC_BadText => first | rfl | k_is)
    (case nf_BadText => k_is)
    (case sl_BadText => first | rfl | k_is)
    (case cl_law => k_is)
    (case v11 => rfl)
    (case hd_law => first | k_is | rfl | decide +kernel)
    (case nP => first | rfl | k_is | decide +kernel)
